import Derived.Test.YtlcbemcamdafjaaGreatCdoesPass2
import Derived.BigQuiet
import Derived.Deep.DeepCutAuto
/- A command is looked over: the small questions. -/
namespace Go.Proofs.YtlcbemcamdafjaaGreat
open Go.RowKit
open Go.ChangeMaps (setBlock)
open M
set_option linter.unusedVariables false
set_option linter.unusedSimpArgs false
set_option maxRecDepth 100000

def cmdCells (c : Cmd) : Array Value :=
  #[.int .i64 c.kind, .int .i64 c.flight, .int .i64 c.ar, .int .i64 c.ac, .int .i64 c.tr, .int .i64 c.tc, .int .i64 c.party, .int .i64 c.cls, .int .i64 c.time,
    .int .i64 c.pla.rows, .int .i64 c.pla.cols, .int .i64 c.pla.front, .int .i64 c.pla.l0, .int .i64 c.pla.l1, .int .i64 c.pla.l2, .int .i64 c.pla.l3]

attribute [local go_sem] idx40_0 idx40_1 idx40_2 idx40_3

/-- Who wants a seat, and in which class. -/
def buyer (c : Cmd) : Int := if c.cls < 0 ∨ c.cls ≥ 4 then 6 else if c.party < 1 ∨ c.party > 1000 then 7 else 0

theorem buyer_any (c : Cmd) (w : World) : Calls Tryz.prog 98 #[.agg (cmdCells c)] w fun e w' => e = .returned (.int .i64 (buyer c)) ∧ Mod No w w' := by
  unfold cmdCells
  by_cases h1 : c.cls < 0
  · go_enter Tryz.func98, Tryz.ntmps98
    go_wp2
    go_ret
    refine ⟨by simp [buyer, h1], (Mod.refl _ _).alloc _⟩
  · by_cases h2 : c.cls ≥ 4
    · go_enter Tryz.func98, Tryz.ntmps98
      go_wp2
      go_ret
      refine ⟨by simp [buyer, h2], (Mod.refl _ _).alloc _⟩
    · by_cases h3 : c.party < 1
      · go_enter Tryz.func98, Tryz.ntmps98
        go_wp2
        go_ret
        refine ⟨by simp [buyer, h1, h2, h3], (Mod.refl _ _).alloc _⟩
      · by_cases h4 : c.party > 1000
        · go_enter Tryz.func98, Tryz.ntmps98
          go_wp2
          go_ret
          refine ⟨by simp [buyer, h1, h2, h4], (Mod.refl _ _).alloc _⟩
        · go_enter Tryz.func98, Tryz.ntmps98
          go_wp2
          go_ret
          have hb : buyer c = 0 := by
            unfold buyer
            rw [if_neg (by omega), if_neg (by omega)]
          rw [hb]
          exact ⟨rfl, (Mod.refl _ _).alloc _⟩

theorem tickLook_any (t now : Int) (w : World) (h1 : 1 ≤ t) (h2 : t ≤ 100) (hn : 0 ≤ now ∧ now ≤ 4611686018427387000) :
    Calls Tryz.prog 67 #[.int .i64 t, .int .i64 now] w fun e w' => e = .returned (.tuple #[.iface 149 (.agg #[.int .i64 (now + t)]), .int .i64 0]) ∧ Mod No w w' := by
  have h1' : ¬ t < 1 := by omega
  have h2' : ¬ t > 100 := by omega
  have hw : IntKind.i64.wrap (now + t) = now + t := wrap_id _ (by omega) (by omega)
  go_enter Tryz.func67, Tryz.ntmps67
  go_wp2
  go_ret2
  exact ⟨rfl, Mod.refl _ _⟩

theorem tickLook_no (t now : Int) (w : World) (h : ¬ (1 ≤ t ∧ t ≤ 100)) :
    Calls Tryz.prog 67 #[.int .i64 t, .int .i64 now] w fun e w' => e = .returned (.tuple #[.nilIface, .int .i64 8]) ∧ Mod No w w' := by
  by_cases h1 : t < 1
  · go_enter Tryz.func67, Tryz.ntmps67
    go_wp2
    go_ret2
    exact ⟨rfl, Mod.refl _ _⟩
  · have h2 : t > 100 := by omega
    go_enter Tryz.func67, Tryz.ntmps67
    go_wp2
    go_ret2
    exact ⟨rfl, Mod.refl _ _⟩

def plaV (p : Pla) : Value := .agg #[.int .i64 p.rows, .int .i64 p.cols, .int .i64 p.front, .int .i64 p.l0, .int .i64 p.l1, .int .i64 p.l2, .int .i64 p.l3]

theorem shape_any (p : Pla) (w : World) : Calls Tryz.prog 81 #[plaV p] w fun e w' => e = .returned (.bool p.sized) ∧ Mod No w w' := by
  unfold plaV Pla.sized
  by_cases h1 : p.rows ≥ 1
  · by_cases h2 : p.rows ≤ 20
    · by_cases h3 : p.cols ≥ 1
      · by_cases h4 : p.cols ≤ 6
        · by_cases h5 : p.front ≥ 0
          · by_cases h6 : p.front ≤ p.rows
            all_goals (go_enter Tryz.func81, Tryz.ntmps81; go_wp2; go_ret; exact ⟨by simp; omega, (Mod.refl _ _).alloc _⟩)
          · go_enter Tryz.func81, Tryz.ntmps81; go_wp2; go_ret; exact ⟨by simp; omega, (Mod.refl _ _).alloc _⟩
        · go_enter Tryz.func81, Tryz.ntmps81; go_wp2; go_ret; exact ⟨by simp; omega, (Mod.refl _ _).alloc _⟩
      · go_enter Tryz.func81, Tryz.ntmps81; go_wp2; go_ret; exact ⟨by simp; omega, (Mod.refl _ _).alloc _⟩
    · go_enter Tryz.func81, Tryz.ntmps81; go_wp2; go_ret; exact ⟨by simp; omega, (Mod.refl _ _).alloc _⟩
  · go_enter Tryz.func81, Tryz.ntmps81; go_wp2; go_ret; exact ⟨by simp; omega, (Mod.refl _ _).alloc _⟩

theorem limits_any (l0 l1 l2 l3 : Int) (w : World) : Calls Tryz.prog 82 #[.agg #[.int .i64 l0, .int .i64 l1, .int .i64 l2, .int .i64 l3]] w fun e w' =>
    e = .returned (.bool (decide (0 ≤ l0 ∧ l0 ≤ 200 ∧ 0 ≤ l1 ∧ l1 ≤ l0 ∧ 0 ≤ l2 ∧ l2 ≤ l1 ∧ 0 ≤ l3 ∧ l3 ≤ l2))) ∧ Mod No w w' := by
  go_enter Tryz.func82, Tryz.ntmps82
  go_wp2
  go_loopw [3, 7] (fun mo i wr => ((i = .int .i64 0 ∧ mo = .int .i64 200) ∨ (i = .int .i64 1 ∧ mo = .int .i64 l0 ∧ Hid (0 ≤ l0 ∧ l0 ≤ 200)) ∨ (i = .int .i64 2 ∧ mo = .int .i64 l1 ∧ Hid (0 ≤ l0 ∧ l0 ≤ 200 ∧ 0 ≤ l1 ∧ l1 ≤ l0)) ∨
    (i = .int .i64 3 ∧ mo = .int .i64 l2 ∧ Hid (0 ≤ l0 ∧ l0 ≤ 200 ∧ 0 ≤ l1 ∧ l1 ≤ l0 ∧ 0 ≤ l2 ∧ l2 ≤ l1)) ∨ (i = .int .i64 4 ∧ mo = .int .i64 l3 ∧ Hid (0 ≤ l0 ∧ l0 ≤ 200 ∧ 0 ≤ l1 ∧ l1 ≤ l0 ∧ 0 ≤ l2 ∧ l2 ≤ l1 ∧ 0 ≤ l3 ∧ l3 ≤ l2))) ∧
    wr = w.alloc (.cells #[.int .i64 l0, .int .i64 l1, .int .i64 l2, .int .i64 l3] 37)) (fun _ i _ => 4 - (intOf i).toNat)
  case atStart => exact ⟨.inl ⟨rfl, rfl⟩, rfl⟩
  case round =>
    obtain ⟨hr, hm⟩ := hrel
    subst hm
    rcases hr with ⟨rfl, rfl⟩ | ⟨rfl, rfl, H⟩ | ⟨rfl, rfl, H⟩ | ⟨rfl, rfl, H⟩ | ⟨rfl, rfl, H⟩
    · by_cases a1 : l0 < 0
      · go_wp2
        go_ret
        exact ⟨by simp; omega, (Mod.refl _ _).alloc _⟩
      by_cases a2 : l0 > 200
      · go_wp2
        go_ret
        exact ⟨by simp; omega, (Mod.refl _ _).alloc _⟩
      · go_wp2
        go_roundw
        · exact ⟨.inr (.inl ⟨rfl, rfl, hide (by omega)⟩), trivial⟩
        · simp [intOf]
    · by_cases a1 : l1 < 0
      · go_wp2
        go_ret
        exact ⟨by simp; omega, (Mod.refl _ _).alloc _⟩
      by_cases a2 : l1 > l0
      · go_wp2
        go_ret
        exact ⟨by simp; omega, (Mod.refl _ _).alloc _⟩
      · go_wp2
        go_roundw
        · have := unhide H
          exact ⟨.inr (.inr (.inl ⟨rfl, rfl, hide (by omega)⟩)), trivial⟩
        · simp [intOf]
    · by_cases a1 : l2 < 0
      · go_wp2
        go_ret
        exact ⟨by simp; omega, (Mod.refl _ _).alloc _⟩
      by_cases a2 : l2 > l1
      · go_wp2
        go_ret
        exact ⟨by simp; omega, (Mod.refl _ _).alloc _⟩
      · go_wp2
        go_roundw
        · have := unhide H
          exact ⟨.inr (.inr (.inr (.inl ⟨rfl, rfl, hide (by omega)⟩))), trivial⟩
        · simp [intOf]
    · by_cases a1 : l3 < 0
      · go_wp2
        go_ret
        exact ⟨by simp; omega, (Mod.refl _ _).alloc _⟩
      by_cases a2 : l3 > l2
      · go_wp2
        go_ret
        exact ⟨by simp; omega, (Mod.refl _ _).alloc _⟩
      · go_wp2
        go_roundw
        · have := unhide H
          exact ⟨.inr (.inr (.inr (.inr ⟨rfl, rfl, hide (by omega)⟩))), trivial⟩
        · simp [intOf]
    · go_wp2
      go_ret
      have := unhide H
      exact ⟨by simp; omega, (Mod.refl _ _).alloc _⟩
end Go.Proofs.YtlcbemcamdafjaaGreat
/- A command is looked over: a flight's seats. -/
namespace Go.Proofs.YtlcbemcamdafjaaGreat
open Go.RowKit
open Go.ChangeMaps (setBlock)
open M
set_option linter.unusedVariables false
set_option linter.unusedSimpArgs false
set_option maxRecDepth 100000

/-- What a flight's map tells of a place. -/
def Sees (w : World) (m : Nat) (r c st pa cl un : Int) : Prop :=
  ∀ W, Mod No w W → (Instr.lookup 152 (.map (some m)) (.agg #[.int .i64 r, .int .i64 c]) false).run Tryz.prog W = .ok (.agg #[.int .i64 st, .int .i64 pa, .int .i64 cl, .int .i64 un]) W

theorem FlX.sees {w : World} {b : Nat} {p : Pla} {l : List Sea} {m : Nat} {es : List MEnt} {clock : Nat} (h : FlX w b p l m es clock) (hwf : Wf p l) (i : Nat) (hi : i < l.length) :
    Sees w m l[i].row l[i].col l[i].st l[i].pa l[i].cl l[i].un := by
  intro W hW
  have hp := Fli.wf.place_has hwf hi
  have hb := Fli.wf.bounds hwf
  have h1 := hp.1
  simp only [Pla.has, decide_eq_true_eq] at h1
  have := run_lookup W m es clock (hW.map h.map (fun x => x)) h.ok l[i].row l[i].col (by simp only at hb h1; omega) (by simp only at hb h1; omega)
  rw [h.rel.seat i hi] at this
  exact this

theorem field171 (x0 x1 x2 x3 : Value) (w : World) : (Instr.field 179 (.agg #[x0, x1, x2, x3]) 0).run Tryz.prog w = .ok x0 w := by kernel_rfl
attribute [local go_sem] field171

def saleN (st lf : Int) : Int := if st ≠ 0 then 9 else if lf = 0 then 11 else 0

theorem sale_walk (b m k : Nat) (hk : k < 4) (cs : Array Value) (c : Cmd) (hc : c.cls = (k : Int)) (st pa cl un lf : Int) (w : World) (h : Has w b cs 154) (h7 : cs[7]? = some (.map (some m))) (hlf : cs[20 + k]? = some (.int .i64 lf))
    (hs : Sees w m c.ar c.ac st pa cl un) :
    Calls Tryz.prog 99 #[.pointer (some ⟨b, 0, none⟩), .agg (cmdCells c)] w fun e w' => e = .returned (.int .i64 (saleN st lf)) ∧ Mod No w w' := by
  obtain ⟨kind, flight, ar, ac, tr, tc, party, cls, time, pl⟩ := c
  simp only at hc
  subst hc
  simp only at hs
  unfold cmdCells
  simp only
  have hlt := h.lt
  have c7 := h.cell 7
  rw [h7] at c7
  have c20 := h.cell (20 + k)
  rw [hlf] at c20
  generalize hbox : (#[Value.int .i64 kind, .int .i64 flight, .int .i64 ar, .int .i64 ac, .int .i64 tr, .int .i64 tc, .int .i64 party, .int .i64 (k : Int), .int .i64 time,
    .int .i64 pl.rows, .int .i64 pl.cols, .int .i64 pl.front, .int .i64 pl.l0, .int .i64 pl.l1, .int .i64 pl.l2, .int .i64 pl.l3] : Array Value) = box at *
  have hL1 := fun n => hs ((w.alloc (.cells box 41)).drewN n) (((Mod.refl No w).alloc (.cells box 41)).drewN n)
  clear hs h h7 hlf
  subst hbox
  have hk' : (k : Int) < 4 := by omega
  have mw : ∀ n, Mod No w ((w.alloc (.cells #[Value.int .i64 kind, .int .i64 flight, .int .i64 ar, .int .i64 ac, .int .i64 tr, .int .i64 tc, .int .i64 party, .int .i64 (k : Int), .int .i64 time,
    .int .i64 pl.rows, .int .i64 pl.cols, .int .i64 pl.front, .int .i64 pl.l0, .int .i64 pl.l1, .int .i64 pl.l2, .int .i64 pl.l3] 41)).drewN n) := fun n => ((Mod.refl No w).alloc _).drewN n
  have MW := hide mw
  clear mw
  by_cases h1 : st = 0
  · have hd1 : (st != 0) = false := by simp [h1]
    by_cases h2 : lf = 0
    · have hd2 : (lf == 0) = true := by simp [h2]
      have hS : saleN st lf = 11 := by simp [saleN, h1, h2]
      have HS := hide hS
      clear h2 h1 hS
      go_enter Tryz.func99, Tryz.ntmps99
      go_wp2_with fail
      go_quiet (fail)
      go_wp2_with fail
      go_quiet (fail)
      go_wp2
      go_ret
      exact ⟨by rw [unhide HS]; rfl, ((unhide MW) _).drewN _⟩
    · have hd2 : (lf == 0) = false := by simp [h2]
      have hS : saleN st lf = 0 := by simp [saleN, h1, h2]
      have HS := hide hS
      clear h2 h1 hS
      go_enter Tryz.func99, Tryz.ntmps99
      go_wp2_with fail
      go_quiet (fail)
      go_wp2_with fail
      go_quiet (fail)
      go_wp2
      go_ret
      exact ⟨by rw [unhide HS]; rfl, ((unhide MW) _).drewN _⟩
  · have hd1 : (st != 0) = true := by simp [h1]
    have hS : saleN st lf = 9 := by simp [saleN, h1]
    have HS := hide hS
    clear h1 hS
    go_enter Tryz.func99, Tryz.ntmps99
    go_wp2_with fail
    go_quiet (fail)
    go_wp2
    go_ret
    exact ⟨by rw [unhide HS]; rfl, (unhide MW) _⟩

def ownerN (st pa party : Int) : Int := if ¬ (st = 1 ∨ st = 2) then 10 else if pa ≠ party then 7 else 0

theorem owner_walk (b m n : Nat) (cs : Array Value) (c : Cmd) (pa cl un : Int) (w : World) (h : Has w b cs 154) (h7 : cs[7]? = some (.map (some m)))
    (hs : Sees w m c.ar c.ac n pa cl un) :
    Calls Tryz.prog 100 #[.pointer (some ⟨b, 0, none⟩), .agg (cmdCells c)] w fun e w' => e = .returned (.int .i64 (ownerN n pa c.party)) ∧ Mod No w w' := by
  have hlt := h.lt
  have c7 := h.cell 7
  rw [h7] at c7
  have hL1 := hs (w.alloc (.cells (cmdCells c) 41)).drew ((Mod.refl _ _).alloc _).drew
  have hLn := fun X => hs ((w.alloc (.cells (cmdCells c) 41)).alloc X).drew (((Mod.refl No w).alloc _).alloc X).drew
  unfold cmdCells at *
  clear hs h h7
  go_enter Tryz.func100, Tryz.ntmps100
  go_wp2_with fail
  go_cut [5] (fun s5 wx => s5 = .pointer (some ⟨w.heap.size + 1, 0, none⟩) ∧ Hid (Mod No w wx) ∧ Hid (Has wx w.heap.size (cmdCells c) 41) ∧ Hid (Has wx (w.heap.size + 1) #[.int .i64 n, .int .i64 pa, .int .i64 cl, .int .i64 un] 179))
  case first =>
    go_region
    all_goals go_wp2
    all_goals go_meet
    all_goals (refine ⟨rfl, (((Mod.refl No w).alloc _).alloc _).drew, ((Has.new w _ _).alloc _).drew, ?_⟩; have := Has.new (w.alloc (.cells (cmdCells c) 41)) #[.int .i64 n, .int .i64 pa, .int .i64 cl, .int .i64 un] 179; rw [World.size_alloc] at this; exact this)
  case rest =>
    obtain ⟨rfl, hm, hb1, hb2⟩ := hcut
    have cb := (unhide hb2).cell
    have lb := (unhide hb2).lt
    have cb1 := (unhide hb1).cell
    unfold cmdCells at cb1
    clear hL1 hLn c7
    go_wp2_with fail
    refine (sold_any n pa cl un _).mono ?_
    rintro e w3 ⟨rfl, hm3⟩
    have cb3 := (hm3.has (unhide hb2) (fun x => x)).cell
    have cb4 := (hm3.has (unhide hb1) (fun x => x)).cell
    have lb3 := (hm3.has (unhide hb2) (fun x => x)).lt
    unfold cmdCells at cb4
    have M3 := hide ((unhide hm).trans hm3)
    clear hm3 cb cb1 lb hm hb1 hb2
    by_cases h1 : n = 1 ∨ n = 2
    · have hd1 : decide (n = 1 ∨ n = 2) = true := by simp [h1]
      have hz : (n : Int) = 1 ∨ (n : Int) = 2 := by omega
      by_cases h2 : pa = c.party
      · have hd2 : (pa != c.party) = false := by simp [h2]
        have HS := hide (show ownerN n pa c.party = 0 by unfold ownerN; rw [if_neg (by omega), if_neg (by simpa using h2)])
        clear h1 h2 hz
        go_wp2
        go_ret
        exact ⟨by rw [unhide HS]; rfl, unhide M3⟩
      · have hd2 : (pa != c.party) = true := by simp [h2]
        have HS := hide (show ownerN n pa c.party = 7 by unfold ownerN; rw [if_neg (by omega), if_pos h2])
        clear h1 h2 hz
        go_wp2
        go_ret
        exact ⟨by rw [unhide HS]; rfl, unhide M3⟩
    · have hd1 : decide (n = 1 ∨ n = 2) = false := by simp [h1]
      have HS := hide (show ownerN n pa c.party = 10 by unfold ownerN; rw [if_pos (by omega)])
      clear h1
      go_wp2
      go_ret
      exact ⟨by rw [unhide HS]; rfl, unhide M3⟩
end Go.Proofs.YtlcbemcamdafjaaGreat
