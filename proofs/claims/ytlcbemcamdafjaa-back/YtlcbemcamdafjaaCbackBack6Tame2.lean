import Derived.Test.YtlcbemcamdafjaaCbackBack5
import Derived.Deep.CutBlock
import Derived.Test.YtlcbemcamdafjaaCbackBack1Tame1
import Derived.Test.YtlcbemcamdafjaaCbackCellsSwap5
import Derived.Deep.DeepCutAuto
import Derived.Handy
/- Whatever script comes in: a seat that is sold and given back leaves all counts as they were. -/
namespace Go.Proofs.Ytlcbemcamdafjaa
open Go.RowKit
open M
set_option linter.unusedVariables false
set_option linter.unusedSimpArgs false
set_option maxRecDepth 100000
set_option maxHeartbeats 20000000
attribute [local go_sem] eq40 same4_self
theorem size47 : (Try.prog.info? 41).map (·.size) = some 21 := by kernel_rfl

theorem back_any (r c cls pty : Int) (book : Bool) (a : Option Addr) (n cap : Nat) (hn : n ≤ 1099511627776) (hr1 : (-9223372036854775808 ≤ r ∧ r ≤ 9223372036854775807)) (hc1 : (-9223372036854775808 ≤ c ∧ c ≤ 9223372036854775807)) (hcls : (-9223372036854775808 ≤ cls ∧ cls ≤ 9223372036854775807)) (hpty : (-9223372036854775808 ≤ pty ∧ pty ≤ 9223372036854775807)) (w : World) (hs : Script w a n) :
    Calls Try.prog 5 #[.slice a n cap, .agg #[.int .i64 r, .int .i64 c], .int .i64 cls, .int .i64 pty, .bool book] w fun e w' => e = .returned (.bool true) ∧ Mod No w w' := by
  have HB := hide (Has.new w #[.int .i64 r, .int .i64 c] 32)
  have M0 := hide ((Mod.refl No w).alloc (.cells #[.int .i64 r, .int .i64 c] 32))
  have HS := hide hs
  clear hs
  go_enter Try.func5, Try.ntmps5
  go_wp2_with fail
  generalize w.alloc (.cells #[.int .i64 r, .int .i64 c] 32) = w0 at *
  refine (new_any _ _).mono ?_
  rintro e w1 ⟨rfl, rfl⟩
  have HG := hide (begun_any w0.heap.size _ _ (Has.new w0 (⟨⟨.slice none 0 0, [], 0⟩, ⟨.slice none 0 0, [], 0⟩, ⟨.slice none 0 0, [], 0⟩, ⟨.slice none 0 0, [], 0⟩, 1099511627776, -1⟩ : TTape).cells 96) rfl)
  have M1 := hide ((Mod.refl No w0).alloc (.cells (⟨⟨.slice none 0 0, [], 0⟩, ⟨.slice none 0 0, [], 0⟩, ⟨.slice none 0 0, [], 0⟩, ⟨.slice none 0 0, [], 0⟩, 1099511627776, -1⟩ : TTape).cells 96))
  have z1 : w0.heap.size ≤ (w0.alloc (.cells (⟨⟨.slice none 0 0, [], 0⟩, ⟨.slice none 0 0, [], 0⟩, ⟨.slice none 0 0, [], 0⟩, ⟨.slice none 0 0, [], 0⟩, 1099511627776, -1⟩ : TTape).cells 96)).heap.size := by simp
  generalize w0.alloc (.cells (⟨⟨.slice none 0 0, [], 0⟩, ⟨.slice none 0 0, [], 0⟩, ⟨.slice none 0 0, [], 0⟩, ⟨.slice none 0 0, [], 0⟩, 1099511627776, -1⟩ : TTape).cells 96) = w1 at *
  go_wp2_with fail
  refine (unhide HG).mono ?_
  rintro e w2 ⟨rfl, ⟨ow, k2, ho⟩, m2⟩
  have M2 := hide ((unhide M1).trans m2)
  have K2 := hide k2
  have HO := hide ho
  clear k2 ho m2 HG M1
  go_wp2_with fail
  refine (first_any _).mono ?_
  rintro e w3 ⟨cs, hcs, rfl, h3, m3⟩
  have I3 := hide (BackI.start (w := w0) (unhide K2) (fun k hk => (unhide HO) k (by omega)) (unhide M2) m3 cs hcs h3)
  generalize w2.heap.size = lb at *
  generalize w1.heap.size = kb at *
  have HS0 := hide ((unhide HS).mod (unhide M0))
  clear h3 m3 hcs K2 HO M2 z1 HS
  clear w1 w2 ow
  go_upto_block 0 with fail
  go_cut [14] (fun s wx => ∃ i : Nat, i ≤ n ∧ s = .int .i64 i ∧ Hid (BackI w0 wx kb lb i))
  case first =>
    go_wp2_with fail
    go_loopw [14] (fun s wr => ∃ i : Nat, s = .int .i64 i ∧ i ≤ n ∧ Hid (BackI w0 wr kb lb i)) (fun i _ => n - (intOf i).toNat)
    case atStart => exact ⟨0, rfl, by omega, I3⟩
    case round =>
      obtain ⟨i, rfl, hi, I4⟩ := hrel
      clear I3
      by_cases hin : i < n
      · have hini : (i : Int) < (n : Int) := by omega
        have hi0 : (0 : Int) ≤ i := by omega
        have hi1 : IntKind.i64.wrap ((i : Int) + 1) = ((i + 1 : Nat) : Int) := by rw [wrap_id _ (by omega) (by omega)]; rfl
        obtain ⟨b, off, S, rfl, hS, hr, hT⟩ := (unhide HS0).mod (unhide I4).mod i hin
        have HT := hide hT
        have HR := hide hr
        clear hT hr
        go_wp2_with (refine wpList_load_mid rfl 41 _ rfl b (off + i * 21) rfl S.toList _ (unhide HR) Try.underlying41 rfl (by rw [Array.length_toList, hS]; exact size47) ?_)
        refine ((unhide HT) _).mono ?_
        rintro e w4 ⟨cc, rfl, m4⟩
        have HD := hide ((unhide I4).step (by omega) _ m4 cc)
        clear m4 HT HR I4
        go_wp2_with fail
        refine (unhide HD).mono ?_
        rintro e w5 ⟨⟨x, rfl⟩, i5⟩
        have I5 := hide i5
        clear i5 HD
        go_wp2
        exact ⟨⟨i + 1, rfl, by omega, I5⟩, by simp [intOf]; omega⟩
      · have hini : ¬ (i : Int) < (n : Int) := by omega
        go_wp2
        go_meet
        exact ⟨i, hi, rfl, I4⟩
  case rest =>
    obtain ⟨i, hi, rfl, I4⟩ := hcut
    obtain ⟨ow4, now, fl, p, l, q1, q2, q3, q4, q5, q6⟩ := (unhide I4).keep
    apply_assumption
    exact back_q4 p w _ kb w.heap.size ow4 now r c cls pty fl l book hr1 hc1 hcls hpty ⟨q3, by omega⟩ ((unhide I4).mod.has (unhide HB) (fun x => x)) ((unhide M0).trans (unhide I4).mod) q1 (fun k hk => q6 k (Nat.lt_of_lt_of_le hk (unhide M0).size)) q2 _ _ _ _ _ _ _ _ _ _ _ _ _ _ _ _ _ _ _ _ _ _ _ _ _ _ _ _ _ _ _ _ _ _ _ _ _ _ _ _ _ _ _ _ _ _ _ _ _ _ _ _ _ _ _ _ _ _ _ _ _ _ _ _ _ _ _ _ _ _ _ _ _ _ _ _ _ _ _ _ _ _ _ _ _ _ _ _ _ _ _ _ _ _ _ _ _ _ _ _ _ _ _ _ _ _ _ _ _ _ _ _ _ _ _ _ _ _ _ _ _ _ _ _ _ _ _ _ _ _ _ _ _ _ _ _ _ _ _ _ _ _ _ _ _ _ _ _ _ _ _ _ _ _ _ _ _ _ _ _ _ _ _ _ _ _ _ _ _ _ _ _ _ _ _ _ _ _ _ _ _ _ _ _ _ _ _ _ _
end Go.Proofs.Ytlcbemcamdafjaa
/- A raw step is brought to a command. -/
namespace Go.Proofs.Ytlcbemcamdafjaa
open Go.RowKit
set_option linter.unusedVariables false
set_option linter.unusedSimpArgs false
set_option maxRecDepth 100000
set_option maxHeartbeats 20000000

/-- The first n cells are numbers. -/
def Ints (cs : Array Value) (n : Nat) : Prop := ∀ i, i < n → ∃ x : Int, cs[i]? = some (.int .i64 x) ∧ -9223372036854775808 ≤ x ∧ x ≤ 9223372036854775807

theorem Ints.set {cs : Array Value} {n : Nat} (h : Ints cs n) (o : Nat) (x : Int) (hx : -9223372036854775808 ≤ x ∧ x ≤ 9223372036854775807) : Ints (cs.setIfInBounds o (.int .i64 x)) n := by
  intro i hi
  obtain ⟨y, h1, h2⟩ := h i hi
  by_cases e : o = i
  · subst e
    refine ⟨x, ?_, hx⟩
    rw [Array.getElem?_setIfInBounds_self_of_lt]
    rcases Array.getElem?_eq_some_iff.1 h1 with ⟨q, _⟩
    exact q
  · exact ⟨y, by rw [Array.getElem?_setIfInBounds_ne e]; exact h1, h2⟩

/-- What stands while a step is tamed: the command's box, the result's box, and what was there is as it was. -/
structure TameI (w wx : World) : Prop where
  cmd : ∃ cs, cs.size = 16 ∧ Ints cs 16 ∧ Has wx (w.heap.size + 2) cs 37
  res : ∃ cs, cs.size = 16 ∧ Has wx (w.heap.size + 1) cs 37
  mod : Mod No w wx

theorem TameI.cell {w wx : World} (h : TameI w wx) (o : Nat) (ho : o < 16) : ∃ x : Int, wx.cell? ⟨w.heap.size + 2, o, none⟩ = some (.int .i64 x) ∧ -9223372036854775808 ≤ x ∧ x ≤ 9223372036854775807 := by
  obtain ⟨cs, h1, h2, h3⟩ := h.cmd
  obtain ⟨x, q, r⟩ := h2 o ho
  exact ⟨x, by rw [h3.cell, q], r⟩

theorem TameI.froz {w wx : World} (h : TameI w wx) (o : Nat) : wx.frozen? ⟨w.heap.size + 2, o, none⟩ = false := by
  obtain ⟨cs, h1, h2, h3⟩ := h.cmd
  exact h3.frozen o

theorem TameI.lt {w wx : World} (h : TameI w wx) : w.heap.size + 2 < wx.heap.size := by
  obtain ⟨cs, h1, h2, h3⟩ := h.cmd
  exact h3.lt

theorem TameI.set {w wx : World} (h : TameI w wx) (o : Nat) (x : Int) (hx : -9223372036854775808 ≤ x ∧ x ≤ 9223372036854775807) : TameI w (wx.setCell ⟨w.heap.size + 2, o, none⟩ (.int .i64 x)) := by
  obtain ⟨cs, h1, h2, h3⟩ := h.cmd
  obtain ⟨cr, r1, r2⟩ := h.res
  refine ⟨⟨_, by simpa using h1, h2.set o x hx, h3.set o _⟩, ⟨cr, r1, r2.set_ne (by show w.heap.size + 1 ≠ w.heap.size + 2; omega) _⟩, h.mod.setCell (.inr (by show w.heap.size ≤ w.heap.size + 2; omega)) _⟩

theorem TameI.drew {w wx : World} (h : TameI w wx) : TameI w wx.drew := ⟨h.cmd, h.res, h.mod.drew⟩

theorem pick_small (c n : Int) (hn : 0 < n ∧ n ≤ 100000) : -9223372036854775808 ≤ pickN c n ∧ pickN c n ≤ 9223372036854775807 ∧ IntKind.i64.wrap (1 + pickN c n) = 1 + pickN c n ∧ IntKind.i64.wrap (pickN c n + 1) = pickN c n + 1 := by
  have := pickN_range c n hn.1
  exact ⟨by omega, by omega, wrap_fit _ (by omega) (by omega), wrap_fit _ (by omega) (by omega)⟩

theorem size44 : (Try.prog.info? 37).map (·.size) = some 16 := by kernel_rfl
theorem row44 : (Try.prog.underlying 37).map (·.isRow) = some true := by kernel_rfl

abbrev step16 (x0 x1 x2 x3 x4 x5 x6 x7 x8 x9 x10 x11 x12 x13 x14 x15 : Int) : Array Value := #[.int .i64 x0, .int .i64 x1, .int .i64 x2, .int .i64 x3, .int .i64 x4, .int .i64 x5, .int .i64 x6, .int .i64 x7, .int .i64 x8, .int .i64 x9, .int .i64 x10, .int .i64 x11, .int .i64 x12, .int .i64 x13, .int .i64 x14, .int .i64 x15]
abbrev zero16 : Array Value := #[.int .i64 0, .int .i64 0, .int .i64 0, .int .i64 0, .int .i64 0, .int .i64 0, .int .i64 0, .int .i64 0, .int .i64 0, .int .i64 0, .int .i64 0, .int .i64 0, .int .i64 0, .int .i64 0, .int .i64 0, .int .i64 0]

theorem Ints.lits {cs : Array Value} (h : Ints cs 16) (hs : cs.size = 16) : ∃ z0 z1 z2 z3 z4 z5 z6 z7 z8 z9 z10 z11 z12 z13 z14 z15 : Int, cs = #[.int .i64 z0, .int .i64 z1, .int .i64 z2, .int .i64 z3, .int .i64 z4, .int .i64 z5, .int .i64 z6, .int .i64 z7, .int .i64 z8, .int .i64 z9, .int .i64 z10, .int .i64 z11, .int .i64 z12, .int .i64 z13, .int .i64 z14, .int .i64 z15] := by
  obtain ⟨z0, q0, _⟩ := h 0 (by omega)
  obtain ⟨z1, q1, _⟩ := h 1 (by omega)
  obtain ⟨z2, q2, _⟩ := h 2 (by omega)
  obtain ⟨z3, q3, _⟩ := h 3 (by omega)
  obtain ⟨z4, q4, _⟩ := h 4 (by omega)
  obtain ⟨z5, q5, _⟩ := h 5 (by omega)
  obtain ⟨z6, q6, _⟩ := h 6 (by omega)
  obtain ⟨z7, q7, _⟩ := h 7 (by omega)
  obtain ⟨z8, q8, _⟩ := h 8 (by omega)
  obtain ⟨z9, q9, _⟩ := h 9 (by omega)
  obtain ⟨z10, q10, _⟩ := h 10 (by omega)
  obtain ⟨z11, q11, _⟩ := h 11 (by omega)
  obtain ⟨z12, q12, _⟩ := h 12 (by omega)
  obtain ⟨z13, q13, _⟩ := h 13 (by omega)
  obtain ⟨z14, q14, _⟩ := h 14 (by omega)
  obtain ⟨z15, q15, _⟩ := h 15 (by omega)
  refine ⟨z0, z1, z2, z3, z4, z5, z6, z7, z8, z9, z10, z11, z12, z13, z14, z15, Array.ext (by rw [hs]; rfl) (fun i h1 h2 => ?_)⟩
  have : i = 0 ∨ i = 1 ∨ i = 2 ∨ i = 3 ∨ i = 4 ∨ i = 5 ∨ i = 6 ∨ i = 7 ∨ i = 8 ∨ i = 9 ∨ i = 10 ∨ i = 11 ∨ i = 12 ∨ i = 13 ∨ i = 14 ∨ i = 15 := by omega
  rcases this with rfl | rfl | rfl | rfl | rfl | rfl | rfl | rfl | rfl | rfl | rfl | rfl | rfl | rfl | rfl | rfl
  · rw [Array.getElem?_eq_getElem h1] at q0; exact Option.some.inj q0
  · rw [Array.getElem?_eq_getElem h1] at q1; exact Option.some.inj q1
  · rw [Array.getElem?_eq_getElem h1] at q2; exact Option.some.inj q2
  · rw [Array.getElem?_eq_getElem h1] at q3; exact Option.some.inj q3
  · rw [Array.getElem?_eq_getElem h1] at q4; exact Option.some.inj q4
  · rw [Array.getElem?_eq_getElem h1] at q5; exact Option.some.inj q5
  · rw [Array.getElem?_eq_getElem h1] at q6; exact Option.some.inj q6
  · rw [Array.getElem?_eq_getElem h1] at q7; exact Option.some.inj q7
  · rw [Array.getElem?_eq_getElem h1] at q8; exact Option.some.inj q8
  · rw [Array.getElem?_eq_getElem h1] at q9; exact Option.some.inj q9
  · rw [Array.getElem?_eq_getElem h1] at q10; exact Option.some.inj q10
  · rw [Array.getElem?_eq_getElem h1] at q11; exact Option.some.inj q11
  · rw [Array.getElem?_eq_getElem h1] at q12; exact Option.some.inj q12
  · rw [Array.getElem?_eq_getElem h1] at q13; exact Option.some.inj q13
  · rw [Array.getElem?_eq_getElem h1] at q14; exact Option.some.inj q14
  · rw [Array.getElem?_eq_getElem h1] at q15; exact Option.some.inj q15

theorem tamed_start (x0 x1 x2 x3 x4 x5 x6 x7 x8 x9 x10 x11 x12 x13 x14 x15 k fu : Int) (kp sp fa : Value) (hi : Ints #[.int .i64 x0, .int .i64 x1, .int .i64 x2, .int .i64 x3, .int .i64 x4, .int .i64 x5, .int .i64 x6, .int .i64 x7, .int .i64 x8, .int .i64 x9, .int .i64 x10, .int .i64 x11, .int .i64 x12, .int .i64 x13, .int .i64 x14, .int .i64 x15] 16) (w : World) : TameI w (((w.alloc (.cells #[.int .i64 x0, .int .i64 x1, .int .i64 x2, .int .i64 x3, .int .i64 x4, .int .i64 x5, .int .i64 x6, .int .i64 x7, .int .i64 x8, .int .i64 x9, .int .i64 x10, .int .i64 x11, .int .i64 x12, .int .i64 x13, .int .i64 x14, .int .i64 x15, .int .i64 k, .int .i64 fu, kp, sp, fa] 41)).alloc (.cells #[.int .i64 0, .int .i64 0, .int .i64 0, .int .i64 0, .int .i64 0, .int .i64 0, .int .i64 0, .int .i64 0, .int .i64 0, .int .i64 0, .int .i64 0, .int .i64 0, .int .i64 0, .int .i64 0, .int .i64 0, .int .i64 0] 37)).alloc (.cells #[.int .i64 x0, .int .i64 x1, .int .i64 x2, .int .i64 x3, .int .i64 x4, .int .i64 x5, .int .i64 x6, .int .i64 x7, .int .i64 x8, .int .i64 x9, .int .i64 x10, .int .i64 x11, .int .i64 x12, .int .i64 x13, .int .i64 x14, .int .i64 x15] 37)) := by
  refine ⟨⟨#[.int .i64 x0, .int .i64 x1, .int .i64 x2, .int .i64 x3, .int .i64 x4, .int .i64 x5, .int .i64 x6, .int .i64 x7, .int .i64 x8, .int .i64 x9, .int .i64 x10, .int .i64 x11, .int .i64 x12, .int .i64 x13, .int .i64 x14, .int .i64 x15], rfl, hi, ?_⟩, ⟨#[.int .i64 0, .int .i64 0, .int .i64 0, .int .i64 0, .int .i64 0, .int .i64 0, .int .i64 0, .int .i64 0, .int .i64 0, .int .i64 0, .int .i64 0, .int .i64 0, .int .i64 0, .int .i64 0, .int .i64 0, .int .i64 0], rfl, ?_⟩, (((Mod.refl No w).alloc _).alloc _).alloc _⟩
  · have := Has.new ((w.alloc (.cells #[.int .i64 x0, .int .i64 x1, .int .i64 x2, .int .i64 x3, .int .i64 x4, .int .i64 x5, .int .i64 x6, .int .i64 x7, .int .i64 x8, .int .i64 x9, .int .i64 x10, .int .i64 x11, .int .i64 x12, .int .i64 x13, .int .i64 x14, .int .i64 x15, .int .i64 k, .int .i64 fu, kp, sp, fa] 41)).alloc (.cells #[.int .i64 0, .int .i64 0, .int .i64 0, .int .i64 0, .int .i64 0, .int .i64 0, .int .i64 0, .int .i64 0, .int .i64 0, .int .i64 0, .int .i64 0, .int .i64 0, .int .i64 0, .int .i64 0, .int .i64 0, .int .i64 0] 37)) #[.int .i64 x0, .int .i64 x1, .int .i64 x2, .int .i64 x3, .int .i64 x4, .int .i64 x5, .int .i64 x6, .int .i64 x7, .int .i64 x8, .int .i64 x9, .int .i64 x10, .int .i64 x11, .int .i64 x12, .int .i64 x13, .int .i64 x14, .int .i64 x15] 37
    simp only [World.size_alloc] at this
    exact this
  · have := (Has.new (w.alloc (.cells #[.int .i64 x0, .int .i64 x1, .int .i64 x2, .int .i64 x3, .int .i64 x4, .int .i64 x5, .int .i64 x6, .int .i64 x7, .int .i64 x8, .int .i64 x9, .int .i64 x10, .int .i64 x11, .int .i64 x12, .int .i64 x13, .int .i64 x14, .int .i64 x15, .int .i64 k, .int .i64 fu, kp, sp, fa] 41)) #[.int .i64 0, .int .i64 0, .int .i64 0, .int .i64 0, .int .i64 0, .int .i64 0, .int .i64 0, .int .i64 0, .int .i64 0, .int .i64 0, .int .i64 0, .int .i64 0, .int .i64 0, .int .i64 0, .int .i64 0, .int .i64 0] 37).alloc (.cells #[.int .i64 x0, .int .i64 x1, .int .i64 x2, .int .i64 x3, .int .i64 x4, .int .i64 x5, .int .i64 x6, .int .i64 x7, .int .i64 x8, .int .i64 x9, .int .i64 x10, .int .i64 x11, .int .i64 x12, .int .i64 x13, .int .i64 x14, .int .i64 x15] 37)
    simp only [World.size_alloc] at this
    exact this

def dropSeq : Nat → Code → Code
  | 0, c => c
  | n + 1, .seq _ b => dropSeq n b
  | _, c => c
noncomputable def tameRest (n : Nat) : Code := dropSeq n (Try.f15.body.getD .skip)
end Go.Proofs.Ytlcbemcamdafjaa
