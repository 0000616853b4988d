import Derived.Test.YtlcbemcamdafjaaCfoldedBackMPaged1
import Derived.Test.YtlcbemcamdafjaaCfoldedFMapSeat
import Derived.Test.YtlcbemcamdafjaaCfoldedCellsSwap5
import Derived.Deep.DeepCutAuto
import Derived.Handy
/- Pages among steps: what the last page answers. -/
namespace Go.Proofs.Ytlcbemcamdafjaa
open Go.RowKit
open M
set_option linter.unusedVariables false
set_option linter.unusedSimpArgs false
set_option maxRecDepth 100000
set_option maxHeartbeats 2000000

theorem seatsK_one {fl : Nat → Option (Pla × List Sea)} {p : Pla} {l : List Sea} (h : fl 1 = some (p, l)) (r c e s : Int) : seatsK fl 1 r c e s = pageK p l r c e s := by
  unfold seatsK
  rw [if_neg (by omega), show (1 : Int).toNat = 1 from rfl, h]

/-- A command to a seat of the first flight. -/
def seatC (k r c : Int) : Cmd := ⟨k, 1, r, c, 0, 0, 0, 0, 0, ⟨0, 0, 0, 0, 0, 0, 0, 0⟩⟩

theorem doK_one {fl : Nat → Option (Pla × List Sea)} {p : Pla} {l : List Sea} (h : fl 1 = some (p, l)) (now : Int) (c : Cmd) (hk : 2 ≤ c.kind ∧ c.kind ≤ 7) (hf : c.flight = 1) :
    doK now fl c = if seatErr p l c now = 0 then (0, now, fun j => if j = 1 then some (planNew p c, seatNew p l c) else fl j) else (seatErr p l c now, now, fl) := by
  unfold doK
  rw [if_neg (by omega), if_neg (by omega), if_neg (by omega), hf, show (1 : Int).toNat = 1 from rfl, h]
  simp only
  rw [if_neg (by omega)]

theorem doK_seatC {fl : Nat → Option (Pla × List Sea)} {p : Pla} {l : List Sea} (h : fl 1 = some (p, l)) (now k r c : Int) (hk : k = 6 ∨ k = 7) :
    ((doK now fl (seatC k r c)).1 = 0 ∧ (∃ l', (doK now fl (seatC k r c)).2.2 1 = some (p.next, l'))) ∨ ((doK now fl (seatC k r c)).1 ≠ 0 ∧ (doK now fl (seatC k r c)).2.2 1 = some (p, l)) := by
  have h0 : (seatC k r c).kind = k := rfl
  have h9 : ¬ (seatC k r c).kind = 9 := by omega
  rw [doK_one h now (seatC k r c) (by omega) rfl]
  by_cases he : seatErr p l (seatC k r c) now = 0
  · rw [if_pos he]
    refine .inl ⟨rfl, seatNew p l (seatC k r c), ?_⟩
    · show (if (1 : Nat) = 1 then some (planNew p (seatC k r c), seatNew p l (seatC k r c)) else fl 1) = _
      rw [if_pos rfl]
      unfold planNew
      rw [if_neg h9]
  · rw [if_neg he]
    exact .inr ⟨he, h⟩

theorem page_old {p q : Pla} {l : List Sea} (r c : Int) (hr : r ≠ 0) (h : q.ep ≠ p.ep) : (pageK q l r c p.ep 5).err = 13 := by
  have hb : behindK q r c p.ep = (0, 13) := by
    unfold behindK
    rw [if_neg (fun x => hr x.1), if_pos (fun e => h e.symm)]
  unfold pageK
  rw [if_neg (by omega), hb, if_pos (by simp)]

theorem page_same {p : Pla} {l : List Sea} (hwf : Wf p l) (hpos : 0 < l.length) : (pageK p l l[0].row l[0].col p.ep 5).err = 0 := by
  have := pageK_cur hwf 1 5 (by omega) (by omega)
  rw [curAt_succ p l 0 hpos] at this
  have h5 : ((5 : Nat) : Int) = 5 := rfl
  rw [h5] at this
  simp only at this
  rw [this]

theorem one_seat {p : Pla} {l : List Sea} (hwf : Wf p l) : 0 < l.length := by
  have hB := hwf.bounds
  have hl := hwf.len
  simp only at hB hl
  have : 0 < p.rows * p.cols := Int.mul_pos (by omega) (by omega)
  omega

/-- The first page of one seat. -/
theorem page_one {p : Pla} {l : List Sea} (hwf : Wf p l) (hpos : 0 < l.length) : ∃ more, pageK p l 0 0 0 1 = ⟨[l[0]], l[0].row, l[0].col, p.ep, more, 0⟩ := by
  have := pageK_cur hwf 0 1 (by omega) (by omega)
  have h0 : curAt p l 0 = (0, 0, 0) := rfl
  have h1 : ((1 : Nat) : Int) = 1 := rfl
  rw [h0, h1] at this
  simp only [List.drop_zero] at this
  have ht : l.take 1 = [l[0]] := by
    rw [take_succ l 0 hpos]
    rfl
  rw [ht] at this
  exact ⟨_, this⟩

/-- What the last page answers: stale, if one of the two commands was done. -/
theorem page_end {fl : Nat → Option (Pla × List Sea)} {p : Pla} {l : List Sea} (hwf : Wf p l) (h : fl 1 = some (p, l)) (hpos : 0 < l.length) (now : Int) :
    let D1 := doK now fl (seatC 6 l[0].row l[0].col)
    let D2 := doK D1.2.1 D1.2.2 (seatC 7 l[0].row l[0].col)
    (seatsK D2.2.2 1 l[0].row l[0].col p.ep 5).err = (if D1.1 = 0 ∨ D2.1 = 0 then 13 else 0) ∧ ∃ p2 l2, D2.2.2 1 = some (p2, l2) ∧ ∀ k, p2.lim k = p.lim k := by
  intro D1 D2
  have hr : l[0].row ≠ 0 := by
    have := hwf.place 0 hpos
    simp at this
    omega
  have hlim : ∀ (a : Pla) k, a.next.lim k = a.lim k := fun a k => by
    cases k with | zero => rfl | succ k => cases k with | zero => rfl | succ k => cases k <;> rfl
  rcases doK_seatC h now 6 l[0].row l[0].col (.inl rfl) with ⟨a1, l1, a2⟩ | ⟨a1, a2⟩
  · rcases doK_seatC a2 D1.2.1 7 l[0].row l[0].col (.inr rfl) with ⟨b1, l2, b2⟩ | ⟨b1, b2⟩
    · rw [seatsK_one b2, if_pos (.inl a1), page_old _ _ hr (nx2_ne p.ep)]
      exact ⟨rfl, _, _, b2, fun k => by rw [hlim, hlim]⟩
    · rw [seatsK_one b2, if_pos (.inl a1), page_old _ _ hr (nx_ne p.ep)]
      exact ⟨rfl, _, _, b2, fun k => by rw [hlim]⟩
  · rcases doK_seatC a2 D1.2.1 7 l[0].row l[0].col (.inr rfl) with ⟨b1, l2, b2⟩ | ⟨b1, b2⟩
    · rw [seatsK_one b2, if_pos (.inr b1), page_old _ _ hr (nx_ne p.ep)]
      exact ⟨rfl, _, _, b2, fun k => by rw [hlim]⟩
    · rw [seatsK_one b2, if_neg (by rintro (x | x); exact a1 x; exact b1 x), page_same hwf hpos]
      exact ⟨rfl, _, _, b2, fun k => rfl⟩

theorem rows_up {p : Pla} {l : List Sea} (hwf : Wf p l) : ∀ i (h : i + 1 < l.length), l[i].row < l[i + 1].row ∨ (l[i].row = l[i + 1].row ∧ l[i].col < l[i + 1].col) := by
  intro i h
  have a := hwf.place i (show i < l.length by omega)
  have b := hwf.place (i + 1) h
  have hB := hwf.bounds
  simp only at a b hB
  rw [a.1, a.2, b.1, b.2]
  obtain ⟨C, hC⟩ : ∃ C : Nat, p.cols = (C : Int) := ⟨p.cols.toNat, by omega⟩
  rw [hC]
  have hC1 : 1 ≤ C ∧ C ≤ 6 := by omega
  have : C = 1 ∨ C = 2 ∨ C = 3 ∨ C = 4 ∨ C = 5 ∨ C = 6 := by omega
  rcases this with rfl | rfl | rfl | rfl | rfl | rfl <;> omega
end Go.Proofs.Ytlcbemcamdafjaa
/- A raw number is brought to one of n things. -/
namespace Go.Proofs.Ytlcbemcamdafjaa
open Go.RowKit
set_option linter.unusedVariables false
set_option maxRecDepth 100000
set_option maxHeartbeats 2000000

theorem pick_any (c n : Int) (hc : -9223372036854775808 ≤ c ∧ c ≤ 9223372036854775807) (hn : 0 < n ∧ n ≤ 100000) (w : World) :
    Calls Try.prog 21 #[.int .i64 c, .int .i64 n] w fun e w' => e = .returned (.int .i64 (pickN c n)) ∧ w' = w := by
  unfold pickN
  have hz : n ≠ 0 := by omega
  by_cases h : c < 0
  · have h1 : IntKind.i64.wrap (c + 1) = c + 1 := wrap_fit _ (by omega) (by omega)
    have h2 : IntKind.i64.wrap (-(c + 1)) = -(c + 1) := wrap_fit _ (by omega) (by omega)
    go_enter Try.func21, Try.ntmps21
    go_wp2
    go_ret
    refine ⟨?_, rfl⟩
    rw [← Int.tmod_eq_emod_of_nonneg (by omega), Int.neg_tmod]
    rfl
  · go_enter Try.func21, Try.ntmps21
    go_wp2
    go_ret
    exact ⟨rfl, rfl⟩
end Go.Proofs.Ytlcbemcamdafjaa
/- A raw step is brought to a command. -/
namespace Go.Proofs.Ytlcbemcamdafjaa
open Go.RowKit
set_option linter.unusedVariables false
set_option linter.unusedSimpArgs false
set_option maxRecDepth 100000
set_option maxHeartbeats 20000000

/-- The first n cells are numbers. -/
def Ints (cs : Array Value) (n : Nat) : Prop := ∀ i, i < n → ∃ x : Int, cs[i]? = some (.int .i64 x) ∧ -9223372036854775808 ≤ x ∧ x ≤ 9223372036854775807

theorem Ints.set {cs : Array Value} {n : Nat} (h : Ints cs n) (o : Nat) (x : Int) (hx : -9223372036854775808 ≤ x ∧ x ≤ 9223372036854775807) : Ints (cs.setIfInBounds o (.int .i64 x)) n := by
  intro i hi
  obtain ⟨y, h1, h2⟩ := h i hi
  by_cases e : o = i
  · subst e
    refine ⟨x, ?_, hx⟩
    rw [Array.getElem?_setIfInBounds_self_of_lt]
    rcases Array.getElem?_eq_some_iff.1 h1 with ⟨q, _⟩
    exact q
  · exact ⟨y, by rw [Array.getElem?_setIfInBounds_ne e]; exact h1, h2⟩

/-- What stands while a step is tamed: the command's box, the result's box, and what was there is as it was. -/
structure TameI (w wx : World) : Prop where
  cmd : ∃ cs, cs.size = 16 ∧ Ints cs 16 ∧ Has wx (w.heap.size + 2) cs 37
  res : ∃ cs, cs.size = 16 ∧ Has wx (w.heap.size + 1) cs 37
  mod : Mod No w wx

theorem TameI.cell {w wx : World} (h : TameI w wx) (o : Nat) (ho : o < 16) : ∃ x : Int, wx.cell? ⟨w.heap.size + 2, o, none⟩ = some (.int .i64 x) ∧ -9223372036854775808 ≤ x ∧ x ≤ 9223372036854775807 := by
  obtain ⟨cs, h1, h2, h3⟩ := h.cmd
  obtain ⟨x, q, r⟩ := h2 o ho
  exact ⟨x, by rw [h3.cell, q], r⟩

theorem TameI.froz {w wx : World} (h : TameI w wx) (o : Nat) : wx.frozen? ⟨w.heap.size + 2, o, none⟩ = false := by
  obtain ⟨cs, h1, h2, h3⟩ := h.cmd
  exact h3.frozen o

theorem TameI.lt {w wx : World} (h : TameI w wx) : w.heap.size + 2 < wx.heap.size := by
  obtain ⟨cs, h1, h2, h3⟩ := h.cmd
  exact h3.lt

theorem TameI.set {w wx : World} (h : TameI w wx) (o : Nat) (x : Int) (hx : -9223372036854775808 ≤ x ∧ x ≤ 9223372036854775807) : TameI w (wx.setCell ⟨w.heap.size + 2, o, none⟩ (.int .i64 x)) := by
  obtain ⟨cs, h1, h2, h3⟩ := h.cmd
  obtain ⟨cr, r1, r2⟩ := h.res
  refine ⟨⟨_, by simpa using h1, h2.set o x hx, h3.set o _⟩, ⟨cr, r1, r2.set_ne (by show w.heap.size + 1 ≠ w.heap.size + 2; omega) _⟩, h.mod.setCell (.inr (by show w.heap.size ≤ w.heap.size + 2; omega)) _⟩

theorem TameI.drew {w wx : World} (h : TameI w wx) : TameI w wx.drew := ⟨h.cmd, h.res, h.mod.drew⟩

theorem pick_small (c n : Int) (hn : 0 < n ∧ n ≤ 100000) : -9223372036854775808 ≤ pickN c n ∧ pickN c n ≤ 9223372036854775807 ∧ IntKind.i64.wrap (1 + pickN c n) = 1 + pickN c n ∧ IntKind.i64.wrap (pickN c n + 1) = pickN c n + 1 := by
  have := pickN_range c n hn.1
  exact ⟨by omega, by omega, wrap_fit _ (by omega) (by omega), wrap_fit _ (by omega) (by omega)⟩

theorem size44 : (Try.prog.info? 37).map (·.size) = some 16 := by kernel_rfl
theorem row44 : (Try.prog.underlying 37).map (·.isRow) = some true := by kernel_rfl

abbrev step16 (x0 x1 x2 x3 x4 x5 x6 x7 x8 x9 x10 x11 x12 x13 x14 x15 : Int) : Array Value := #[.int .i64 x0, .int .i64 x1, .int .i64 x2, .int .i64 x3, .int .i64 x4, .int .i64 x5, .int .i64 x6, .int .i64 x7, .int .i64 x8, .int .i64 x9, .int .i64 x10, .int .i64 x11, .int .i64 x12, .int .i64 x13, .int .i64 x14, .int .i64 x15]
abbrev zero16 : Array Value := #[.int .i64 0, .int .i64 0, .int .i64 0, .int .i64 0, .int .i64 0, .int .i64 0, .int .i64 0, .int .i64 0, .int .i64 0, .int .i64 0, .int .i64 0, .int .i64 0, .int .i64 0, .int .i64 0, .int .i64 0, .int .i64 0]

theorem Ints.lits {cs : Array Value} (h : Ints cs 16) (hs : cs.size = 16) : ∃ z0 z1 z2 z3 z4 z5 z6 z7 z8 z9 z10 z11 z12 z13 z14 z15 : Int, cs = #[.int .i64 z0, .int .i64 z1, .int .i64 z2, .int .i64 z3, .int .i64 z4, .int .i64 z5, .int .i64 z6, .int .i64 z7, .int .i64 z8, .int .i64 z9, .int .i64 z10, .int .i64 z11, .int .i64 z12, .int .i64 z13, .int .i64 z14, .int .i64 z15] := by
  obtain ⟨z0, q0, _⟩ := h 0 (by omega)
  obtain ⟨z1, q1, _⟩ := h 1 (by omega)
  obtain ⟨z2, q2, _⟩ := h 2 (by omega)
  obtain ⟨z3, q3, _⟩ := h 3 (by omega)
  obtain ⟨z4, q4, _⟩ := h 4 (by omega)
  obtain ⟨z5, q5, _⟩ := h 5 (by omega)
  obtain ⟨z6, q6, _⟩ := h 6 (by omega)
  obtain ⟨z7, q7, _⟩ := h 7 (by omega)
  obtain ⟨z8, q8, _⟩ := h 8 (by omega)
  obtain ⟨z9, q9, _⟩ := h 9 (by omega)
  obtain ⟨z10, q10, _⟩ := h 10 (by omega)
  obtain ⟨z11, q11, _⟩ := h 11 (by omega)
  obtain ⟨z12, q12, _⟩ := h 12 (by omega)
  obtain ⟨z13, q13, _⟩ := h 13 (by omega)
  obtain ⟨z14, q14, _⟩ := h 14 (by omega)
  obtain ⟨z15, q15, _⟩ := h 15 (by omega)
  refine ⟨z0, z1, z2, z3, z4, z5, z6, z7, z8, z9, z10, z11, z12, z13, z14, z15, Array.ext (by rw [hs]; rfl) (fun i h1 h2 => ?_)⟩
  have : i = 0 ∨ i = 1 ∨ i = 2 ∨ i = 3 ∨ i = 4 ∨ i = 5 ∨ i = 6 ∨ i = 7 ∨ i = 8 ∨ i = 9 ∨ i = 10 ∨ i = 11 ∨ i = 12 ∨ i = 13 ∨ i = 14 ∨ i = 15 := by omega
  rcases this with rfl | rfl | rfl | rfl | rfl | rfl | rfl | rfl | rfl | rfl | rfl | rfl | rfl | rfl | rfl | rfl
  · rw [Array.getElem?_eq_getElem h1] at q0; exact Option.some.inj q0
  · rw [Array.getElem?_eq_getElem h1] at q1; exact Option.some.inj q1
  · rw [Array.getElem?_eq_getElem h1] at q2; exact Option.some.inj q2
  · rw [Array.getElem?_eq_getElem h1] at q3; exact Option.some.inj q3
  · rw [Array.getElem?_eq_getElem h1] at q4; exact Option.some.inj q4
  · rw [Array.getElem?_eq_getElem h1] at q5; exact Option.some.inj q5
  · rw [Array.getElem?_eq_getElem h1] at q6; exact Option.some.inj q6
  · rw [Array.getElem?_eq_getElem h1] at q7; exact Option.some.inj q7
  · rw [Array.getElem?_eq_getElem h1] at q8; exact Option.some.inj q8
  · rw [Array.getElem?_eq_getElem h1] at q9; exact Option.some.inj q9
  · rw [Array.getElem?_eq_getElem h1] at q10; exact Option.some.inj q10
  · rw [Array.getElem?_eq_getElem h1] at q11; exact Option.some.inj q11
  · rw [Array.getElem?_eq_getElem h1] at q12; exact Option.some.inj q12
  · rw [Array.getElem?_eq_getElem h1] at q13; exact Option.some.inj q13
  · rw [Array.getElem?_eq_getElem h1] at q14; exact Option.some.inj q14
  · rw [Array.getElem?_eq_getElem h1] at q15; exact Option.some.inj q15

theorem tamed_start (x0 x1 x2 x3 x4 x5 x6 x7 x8 x9 x10 x11 x12 x13 x14 x15 k fu : Int) (kp sp fa : Value) (hi : Ints #[.int .i64 x0, .int .i64 x1, .int .i64 x2, .int .i64 x3, .int .i64 x4, .int .i64 x5, .int .i64 x6, .int .i64 x7, .int .i64 x8, .int .i64 x9, .int .i64 x10, .int .i64 x11, .int .i64 x12, .int .i64 x13, .int .i64 x14, .int .i64 x15] 16) (w : World) : TameI w (((w.alloc (.cells #[.int .i64 x0, .int .i64 x1, .int .i64 x2, .int .i64 x3, .int .i64 x4, .int .i64 x5, .int .i64 x6, .int .i64 x7, .int .i64 x8, .int .i64 x9, .int .i64 x10, .int .i64 x11, .int .i64 x12, .int .i64 x13, .int .i64 x14, .int .i64 x15, .int .i64 k, .int .i64 fu, kp, sp, fa] 41)).alloc (.cells #[.int .i64 0, .int .i64 0, .int .i64 0, .int .i64 0, .int .i64 0, .int .i64 0, .int .i64 0, .int .i64 0, .int .i64 0, .int .i64 0, .int .i64 0, .int .i64 0, .int .i64 0, .int .i64 0, .int .i64 0, .int .i64 0] 37)).alloc (.cells #[.int .i64 x0, .int .i64 x1, .int .i64 x2, .int .i64 x3, .int .i64 x4, .int .i64 x5, .int .i64 x6, .int .i64 x7, .int .i64 x8, .int .i64 x9, .int .i64 x10, .int .i64 x11, .int .i64 x12, .int .i64 x13, .int .i64 x14, .int .i64 x15] 37)) := by
  refine ⟨⟨#[.int .i64 x0, .int .i64 x1, .int .i64 x2, .int .i64 x3, .int .i64 x4, .int .i64 x5, .int .i64 x6, .int .i64 x7, .int .i64 x8, .int .i64 x9, .int .i64 x10, .int .i64 x11, .int .i64 x12, .int .i64 x13, .int .i64 x14, .int .i64 x15], rfl, hi, ?_⟩, ⟨#[.int .i64 0, .int .i64 0, .int .i64 0, .int .i64 0, .int .i64 0, .int .i64 0, .int .i64 0, .int .i64 0, .int .i64 0, .int .i64 0, .int .i64 0, .int .i64 0, .int .i64 0, .int .i64 0, .int .i64 0, .int .i64 0], rfl, ?_⟩, (((Mod.refl No w).alloc _).alloc _).alloc _⟩
  · have := Has.new ((w.alloc (.cells #[.int .i64 x0, .int .i64 x1, .int .i64 x2, .int .i64 x3, .int .i64 x4, .int .i64 x5, .int .i64 x6, .int .i64 x7, .int .i64 x8, .int .i64 x9, .int .i64 x10, .int .i64 x11, .int .i64 x12, .int .i64 x13, .int .i64 x14, .int .i64 x15, .int .i64 k, .int .i64 fu, kp, sp, fa] 41)).alloc (.cells #[.int .i64 0, .int .i64 0, .int .i64 0, .int .i64 0, .int .i64 0, .int .i64 0, .int .i64 0, .int .i64 0, .int .i64 0, .int .i64 0, .int .i64 0, .int .i64 0, .int .i64 0, .int .i64 0, .int .i64 0, .int .i64 0] 37)) #[.int .i64 x0, .int .i64 x1, .int .i64 x2, .int .i64 x3, .int .i64 x4, .int .i64 x5, .int .i64 x6, .int .i64 x7, .int .i64 x8, .int .i64 x9, .int .i64 x10, .int .i64 x11, .int .i64 x12, .int .i64 x13, .int .i64 x14, .int .i64 x15] 37
    simp only [World.size_alloc] at this
    exact this
  · have := (Has.new (w.alloc (.cells #[.int .i64 x0, .int .i64 x1, .int .i64 x2, .int .i64 x3, .int .i64 x4, .int .i64 x5, .int .i64 x6, .int .i64 x7, .int .i64 x8, .int .i64 x9, .int .i64 x10, .int .i64 x11, .int .i64 x12, .int .i64 x13, .int .i64 x14, .int .i64 x15, .int .i64 k, .int .i64 fu, kp, sp, fa] 41)) #[.int .i64 0, .int .i64 0, .int .i64 0, .int .i64 0, .int .i64 0, .int .i64 0, .int .i64 0, .int .i64 0, .int .i64 0, .int .i64 0, .int .i64 0, .int .i64 0, .int .i64 0, .int .i64 0, .int .i64 0, .int .i64 0] 37).alloc (.cells #[.int .i64 x0, .int .i64 x1, .int .i64 x2, .int .i64 x3, .int .i64 x4, .int .i64 x5, .int .i64 x6, .int .i64 x7, .int .i64 x8, .int .i64 x9, .int .i64 x10, .int .i64 x11, .int .i64 x12, .int .i64 x13, .int .i64 x14, .int .i64 x15] 37)
    simp only [World.size_alloc] at this
    exact this

def dropSeq : Nat → Code → Code
  | 0, c => c
  | n + 1, .seq _ b => dropSeq n b
  | _, c => c
noncomputable def tameRest (n : Nat) : Code := dropSeq n (Try.f15.body.getD .skip)
end Go.Proofs.Ytlcbemcamdafjaa
