import Derived.Test.YtgemhmhlcaojcaaPass2
import Derived.BigQuiet
/- A command is looked over: the small questions. -/
namespace Go.Proofs.Ytgemhmhlcaojcaa
open Go.RowKit
open Go.ChangeMaps (setBlock)
open M
set_option linter.unusedVariables false
set_option linter.unusedSimpArgs false
set_option maxRecDepth 100000

def cmdCells (c : Cmd) : Array Value :=
  #[.int .i64 c.kind, .int .i64 c.flight, .int .i64 c.ar, .int .i64 c.ac, .int .i64 c.tr, .int .i64 c.tc, .int .i64 c.party, .int .i64 c.cls, .int .i64 c.time,
    .int .i64 c.pla.rows, .int .i64 c.pla.cols, .int .i64 c.pla.front, .int .i64 c.pla.l0, .int .i64 c.pla.l1, .int .i64 c.pla.l2, .int .i64 c.pla.l3]

attribute [local go_sem] idx40_0 idx40_1 idx40_2 idx40_3

/-- Who wants a seat, and in which class. -/
def buyer (c : Cmd) : Int := if c.cls < 0 ∨ c.cls ≥ 4 then 6 else if c.party < 1 ∨ c.party > 1000 then 7 else 0

theorem buyer_any (c : Cmd) (w : World) : Calls Try.prog 66 #[.agg (cmdCells c)] w fun e w' => e = .returned (.int .i64 (buyer c)) ∧ Mod No w w' := by
  unfold cmdCells
  by_cases h1 : c.cls < 0
  · go_enter Try.func66, Try.ntmps66
    go_wp2
    go_ret
    refine ⟨by simp [buyer, h1], (Mod.refl _ _).alloc _⟩
  · by_cases h2 : c.cls ≥ 4
    · go_enter Try.func66, Try.ntmps66
      go_wp2
      go_ret
      refine ⟨by simp [buyer, h2], (Mod.refl _ _).alloc _⟩
    · by_cases h3 : c.party < 1
      · go_enter Try.func66, Try.ntmps66
        go_wp2
        go_ret
        refine ⟨by simp [buyer, h1, h2, h3], (Mod.refl _ _).alloc _⟩
      · by_cases h4 : c.party > 1000
        · go_enter Try.func66, Try.ntmps66
          go_wp2
          go_ret
          refine ⟨by simp [buyer, h1, h2, h4], (Mod.refl _ _).alloc _⟩
        · go_enter Try.func66, Try.ntmps66
          go_wp2
          go_ret
          have hb : buyer c = 0 := by
            unfold buyer
            rw [if_neg (by omega), if_neg (by omega)]
          rw [hb]
          exact ⟨rfl, (Mod.refl _ _).alloc _⟩

theorem tickLook_any (t now : Int) (w : World) (h1 : 1 ≤ t) (h2 : t ≤ 100) (hn : 0 ≤ now ∧ now ≤ 4611686018427387000) :
    Calls Try.prog 46 #[.int .i64 t, .int .i64 now] w fun e w' => e = .returned (.tuple #[.iface 109 (.agg #[.int .i64 (now + t)]), .int .i64 0]) ∧ Mod No w w' := by
  have h1' : ¬ t < 1 := by omega
  have h2' : ¬ t > 100 := by omega
  have hw : IntKind.i64.wrap (now + t) = now + t := wrap_id _ (by omega) (by omega)
  go_enter Try.func46, Try.ntmps46
  go_wp2
  go_ret2
  exact ⟨rfl, Mod.refl _ _⟩

theorem tickLook_no (t now : Int) (w : World) (h : ¬ (1 ≤ t ∧ t ≤ 100)) :
    Calls Try.prog 46 #[.int .i64 t, .int .i64 now] w fun e w' => e = .returned (.tuple #[.nilIface, .int .i64 8]) ∧ Mod No w w' := by
  by_cases h1 : t < 1
  · go_enter Try.func46, Try.ntmps46
    go_wp2
    go_ret2
    exact ⟨rfl, Mod.refl _ _⟩
  · have h2 : t > 100 := by omega
    go_enter Try.func46, Try.ntmps46
    go_wp2
    go_ret2
    exact ⟨rfl, Mod.refl _ _⟩

def plaV (p : Pla) : Value := .agg #[.int .i64 p.rows, .int .i64 p.cols, .int .i64 p.front, .int .i64 p.l0, .int .i64 p.l1, .int .i64 p.l2, .int .i64 p.l3]

theorem shape_any (p : Pla) (w : World) : Calls Try.prog 54 #[plaV p] w fun e w' => e = .returned (.bool p.sized) ∧ Mod No w w' := by
  unfold plaV Pla.sized
  by_cases h1 : p.rows ≥ 1
  · by_cases h2 : p.rows ≤ 20
    · by_cases h3 : p.cols ≥ 1
      · by_cases h4 : p.cols ≤ 6
        · by_cases h5 : p.front ≥ 0
          · by_cases h6 : p.front ≤ p.rows
            all_goals (go_enter Try.func54, Try.ntmps54; go_wp2; go_ret; exact ⟨by simp; omega, (Mod.refl _ _).alloc _⟩)
          · go_enter Try.func54, Try.ntmps54; go_wp2; go_ret; exact ⟨by simp; omega, (Mod.refl _ _).alloc _⟩
        · go_enter Try.func54, Try.ntmps54; go_wp2; go_ret; exact ⟨by simp; omega, (Mod.refl _ _).alloc _⟩
      · go_enter Try.func54, Try.ntmps54; go_wp2; go_ret; exact ⟨by simp; omega, (Mod.refl _ _).alloc _⟩
    · go_enter Try.func54, Try.ntmps54; go_wp2; go_ret; exact ⟨by simp; omega, (Mod.refl _ _).alloc _⟩
  · go_enter Try.func54, Try.ntmps54; go_wp2; go_ret; exact ⟨by simp; omega, (Mod.refl _ _).alloc _⟩

theorem limits_any (l0 l1 l2 l3 : Int) (w : World) : Calls Try.prog 55 #[.agg #[.int .i64 l0, .int .i64 l1, .int .i64 l2, .int .i64 l3]] w fun e w' =>
    e = .returned (.bool (decide (0 ≤ l0 ∧ l0 ≤ 200 ∧ 0 ≤ l1 ∧ l1 ≤ l0 ∧ 0 ≤ l2 ∧ l2 ≤ l1 ∧ 0 ≤ l3 ∧ l3 ≤ l2))) ∧ Mod No w w' := by
  go_enter Try.func55, Try.ntmps55
  go_wp2
  go_loopw [3, 7] (fun mo i wr => ((i = .int .i64 0 ∧ mo = .int .i64 200) ∨ (i = .int .i64 1 ∧ mo = .int .i64 l0 ∧ Hid (0 ≤ l0 ∧ l0 ≤ 200)) ∨ (i = .int .i64 2 ∧ mo = .int .i64 l1 ∧ Hid (0 ≤ l0 ∧ l0 ≤ 200 ∧ 0 ≤ l1 ∧ l1 ≤ l0)) ∨
    (i = .int .i64 3 ∧ mo = .int .i64 l2 ∧ Hid (0 ≤ l0 ∧ l0 ≤ 200 ∧ 0 ≤ l1 ∧ l1 ≤ l0 ∧ 0 ≤ l2 ∧ l2 ≤ l1)) ∨ (i = .int .i64 4 ∧ mo = .int .i64 l3 ∧ Hid (0 ≤ l0 ∧ l0 ≤ 200 ∧ 0 ≤ l1 ∧ l1 ≤ l0 ∧ 0 ≤ l2 ∧ l2 ≤ l1 ∧ 0 ≤ l3 ∧ l3 ≤ l2))) ∧
    wr = w.alloc (.cells #[.int .i64 l0, .int .i64 l1, .int .i64 l2, .int .i64 l3] 33)) (fun _ i _ => 4 - (intOf i).toNat)
  case atStart => exact ⟨.inl ⟨rfl, rfl⟩, rfl⟩
  case round =>
    obtain ⟨hr, hm⟩ := hrel
    subst hm
    rcases hr with ⟨rfl, rfl⟩ | ⟨rfl, rfl, H⟩ | ⟨rfl, rfl, H⟩ | ⟨rfl, rfl, H⟩ | ⟨rfl, rfl, H⟩
    · by_cases a1 : l0 < 0
      · go_wp2
        go_ret
        exact ⟨by simp; omega, (Mod.refl _ _).alloc _⟩
      by_cases a2 : l0 > 200
      · go_wp2
        go_ret
        exact ⟨by simp; omega, (Mod.refl _ _).alloc _⟩
      · go_wp2
        go_roundw
        · exact ⟨.inr (.inl ⟨rfl, rfl, hide (by omega)⟩), trivial⟩
        · simp [intOf]
    · by_cases a1 : l1 < 0
      · go_wp2
        go_ret
        exact ⟨by simp; omega, (Mod.refl _ _).alloc _⟩
      by_cases a2 : l1 > l0
      · go_wp2
        go_ret
        exact ⟨by simp; omega, (Mod.refl _ _).alloc _⟩
      · go_wp2
        go_roundw
        · have := unhide H
          exact ⟨.inr (.inr (.inl ⟨rfl, rfl, hide (by omega)⟩)), trivial⟩
        · simp [intOf]
    · by_cases a1 : l2 < 0
      · go_wp2
        go_ret
        exact ⟨by simp; omega, (Mod.refl _ _).alloc _⟩
      by_cases a2 : l2 > l1
      · go_wp2
        go_ret
        exact ⟨by simp; omega, (Mod.refl _ _).alloc _⟩
      · go_wp2
        go_roundw
        · have := unhide H
          exact ⟨.inr (.inr (.inr (.inl ⟨rfl, rfl, hide (by omega)⟩))), trivial⟩
        · simp [intOf]
    · by_cases a1 : l3 < 0
      · go_wp2
        go_ret
        exact ⟨by simp; omega, (Mod.refl _ _).alloc _⟩
      by_cases a2 : l3 > l2
      · go_wp2
        go_ret
        exact ⟨by simp; omega, (Mod.refl _ _).alloc _⟩
      · go_wp2
        go_roundw
        · have := unhide H
          exact ⟨.inr (.inr (.inr (.inr ⟨rfl, rfl, hide (by omega)⟩))), trivial⟩
        · simp [intOf]
    · go_wp2
      go_ret
      have := unhide H
      exact ⟨by simp; omega, (Mod.refl _ _).alloc _⟩
end Go.Proofs.Ytgemhmhlcaojcaa
