import Derived.Test.YthhibagcpjeihaaGreatIRef33ToRef35
import Derived.Test.YthhibagcpjeihaaGreatILaw2ToRef32
import Derived.Test.YthhibagcpjeihaaGreatIRef27ToRef25
import Derived.Test.YthhibagcpjeihaaGreatIPg2ToWr4
import Derived.Deep.DeepCutAuto
import Derived.Deep.RegionLawGrows
namespace Go.Proofs.YthhibagcpjeihaaGreat
open Go.RowKit
open M
set_option linter.unusedVariables false
set_option linter.unusedSimpArgs false
set_option maxRecDepth 100000
set_option maxHeartbeats 8000000
theorem RowF.put {w : World} {gf c : Nat} {xs : List FR} {i : Nat} {x0 : FR} (h : RowF w gf c (xs.set i x0)) (hi : i < xs.length) (j : Nat) (hj : j < 10) (v : Value) (x : FR) (hx : friV x = (friV x0).setIfInBounds j v) :
  RowF (w.setCell ⟨gf, i * 10 + j, none⟩ v) gf c (xs.set i x) := by
 have := h.set i (by simpa using hi) j hj v x (by simpa using hx)
 rwa [List.set_set] at this
theorem RowF.put10 {w : World} {gf c : Nat} {xs : List FR} (h : RowF w gf c xs) (i : Nat) (hi : i < xs.length) (num : Int) (Q : Pla) (g cap : Nat) (ls : List Sea) (ep : Int) :
  RowF (put10 w gf (i * 10) num Q g ls.length cap ep) gf c (xs.set i ⟨⟨num, Q, ls, ep⟩, g, cap⟩) := by
 have h0 : RowF w gf c (xs.set i xs[i]) := by rw [List.set_getElem_self]; exact h
 generalize xs[i] = x0 at h0
 have e0 := h0.put hi 0 (by omega) (.int .i64 num) ⟨⟨num, ⟨x0.f.pla.rows, x0.f.pla.cols, x0.f.pla.front, x0.f.pla.l0, x0.f.pla.l1, x0.f.pla.l2, x0.f.pla.l3, x0.f.pla.ep⟩, x0.f.seats, x0.f.ep⟩, x0.g, x0.cap⟩ rfl
 have e1 := e0.put hi 1 (by omega) (.int .i64 Q.rows) ⟨⟨num, ⟨Q.rows, x0.f.pla.cols, x0.f.pla.front, x0.f.pla.l0, x0.f.pla.l1, x0.f.pla.l2, x0.f.pla.l3, x0.f.pla.ep⟩, x0.f.seats, x0.f.ep⟩, x0.g, x0.cap⟩ rfl
 have e2 := e1.put hi 2 (by omega) (.int .i64 Q.cols) ⟨⟨num, ⟨Q.rows, Q.cols, x0.f.pla.front, x0.f.pla.l0, x0.f.pla.l1, x0.f.pla.l2, x0.f.pla.l3, x0.f.pla.ep⟩, x0.f.seats, x0.f.ep⟩, x0.g, x0.cap⟩ rfl
 have e3 := e2.put hi 3 (by omega) (.int .i64 Q.front) ⟨⟨num, ⟨Q.rows, Q.cols, Q.front, x0.f.pla.l0, x0.f.pla.l1, x0.f.pla.l2, x0.f.pla.l3, x0.f.pla.ep⟩, x0.f.seats, x0.f.ep⟩, x0.g, x0.cap⟩ rfl
 have e4 := e3.put hi 4 (by omega) (.int .i64 Q.l0) ⟨⟨num, ⟨Q.rows, Q.cols, Q.front, Q.l0, x0.f.pla.l1, x0.f.pla.l2, x0.f.pla.l3, x0.f.pla.ep⟩, x0.f.seats, x0.f.ep⟩, x0.g, x0.cap⟩ rfl
 have e5 := e4.put hi 5 (by omega) (.int .i64 Q.l1) ⟨⟨num, ⟨Q.rows, Q.cols, Q.front, Q.l0, Q.l1, x0.f.pla.l2, x0.f.pla.l3, x0.f.pla.ep⟩, x0.f.seats, x0.f.ep⟩, x0.g, x0.cap⟩ rfl
 have e6 := e5.put hi 6 (by omega) (.int .i64 Q.l2) ⟨⟨num, ⟨Q.rows, Q.cols, Q.front, Q.l0, Q.l1, Q.l2, x0.f.pla.l3, x0.f.pla.ep⟩, x0.f.seats, x0.f.ep⟩, x0.g, x0.cap⟩ rfl
 have e7 := e6.put hi 7 (by omega) (.int .i64 Q.l3) ⟨⟨num, ⟨Q.rows, Q.cols, Q.front, Q.l0, Q.l1, Q.l2, Q.l3, x0.f.pla.ep⟩, x0.f.seats, x0.f.ep⟩, x0.g, x0.cap⟩ rfl
 have e8 := e7.put hi 8 (by omega) (.slice (some ⟨g, 0, none⟩) ls.length cap) ⟨⟨num, ⟨Q.rows, Q.cols, Q.front, Q.l0, Q.l1, Q.l2, Q.l3, Q.ep⟩, ls, x0.f.ep⟩, g, cap⟩ rfl
 have e9 := e8.put hi 9 (by omega) (.int .i64 ep) ⟨⟨num, ⟨Q.rows, Q.cols, Q.front, Q.l0, Q.l1, Q.l2, Q.l3, Q.ep⟩, ls, ep⟩, g, cap⟩ rfl
 exact e9
theorem Mod.put10 {S : Nat → Prop} {a w : World} (h : Mod S a w) {gf : Nat} (hg : S gf) (fo : Nat) (num : Int) (Q : Pla) (g E cap : Nat) (ep : Int) : Mod S a (Go.Proofs.YthhibagcpjeihaaGreat.put10 w gf fo num Q g E cap ep) := by
 unfold Go.Proofs.YthhibagcpjeihaaGreat.put10
 exact (((((((((h.setCell (p := ⟨gf, fo, none⟩) (.inl hg) _).setCell (p := ⟨gf, fo + 1, none⟩) (.inl hg) _).setCell (p := ⟨gf, fo + 2, none⟩) (.inl hg) _).setCell (p := ⟨gf, fo + 3, none⟩) (.inl hg) _).setCell (p := ⟨gf, fo + 4, none⟩) (.inl hg) _).setCell (p := ⟨gf, fo + 5, none⟩) (.inl hg) _).setCell (p := ⟨gf, fo + 6, none⟩) (.inl hg) _).setCell (p := ⟨gf, fo + 7, none⟩) (.inl hg) _).setCell (p := ⟨gf, fo + 8, none⟩) (.inl hg) _).setCell (p := ⟨gf, fo + 9, none⟩) (.inl hg) _
theorem WorR.swapped {w wx : World} {ow : Nat → Nat} {wb gf c : Nat} {xs : List FR} {now : Int} (h : WorR w ow wb (Value.slice (Option.some ⟨gf, 0, none⟩) xs.length c) xs now) (i : Nat) (hi : i < xs.length) (num : Int) (Q : Pla) (g cap : Nat) (ls : List Sea) (ep : Int)
  (hm : Mod No w wx) (hg : w.heap.size ≤ g) (hr : RowS wx g cap ls) (hwf : Wf Q ls) :
  ∃ ow', WorR (put10 wx gf (i * 10) num Q g ls.length cap ep) ow' wb (Value.slice (Option.some ⟨gf, 0, none⟩) xs.length c) (xs.set i ⟨⟨num, Q, ls, ep⟩, g, cap⟩) now ∧ (∀ k, ow' k ≠ 0 → ow k ≠ 0 ∨ w.heap.size ≤ k) ∧ Mod (fun k => ow k ≠ 0) w (put10 wx gf (i * 10) num Q g ls.length cap ep) := by
 obtain ⟨og, rf⟩ := h.parts rfl (by omega)
 have hglt := hr.lt
 have gfl : gf < w.heap.size := h.old gf (by rw [og]; omega)
 have wbl : wb < w.heap.size := h.old wb (by rw [h.mine]; omega)
 have hM : Mod (fun k => k = gf) w (put10 wx gf (i * 10) num Q g ls.length cap ep) := (hm.mono (S' := fun k => k = gf) (fun _ _ x => x.elim)).put10 (gf := gf) rfl _ _ _ _ _ _ _
 have hM2 : Mod (fun k => k = gf) wx (put10 wx gf (i * 10) num Q g ls.length cap ep) := (Mod.refl (fun k => k = gf) wx).put10 (gf := gf) rfl _ _ _ _ _ _ _
 have hwb : wb ≠ gf := fun e => by have := h.mine; rw [e, og] at this; omega
 refine ⟨fun k => if k = g then i + 3 else if k = xs[i].g then 0 else ow k, ⟨hM.has h.has hwb, .inr ⟨gf, c, by rw [List.length_set], ?_, ?_⟩, ?_, fun k hk => ?_, fun j hj => ?_, by simpa using h.few⟩, fun k hk => ?_, hM.mono (fun k _ e => by rw [e, og]; omega)⟩
 ·exact (rf.mod hm (fun x => x)).put10 i hi num Q g cap ls ep
 ·have hgg : gf ≠ g := by omega
  have : gf ≠ xs[i].g := fun e => by have := (h.seats i hi).2.1; rw [← e, og] at this; omega
  simp only [if_neg hgg, if_neg this]
  exact og
 ·have hgg : wb ≠ g := by omega
  have : wb ≠ xs[i].g := fun e => by have := (h.seats i hi).2.1; rw [← e, h.mine] at this; omega
  simp only [if_neg hgg, if_neg this]
  exact h.mine
 ·by_cases e : k = g
  ·subst e; exact Nat.lt_of_lt_of_le hglt hM2.size
  ·simp only [if_neg e] at hk
   by_cases e2 : k = xs[i].g
   ·simp [e2] at hk
   ·simp only [if_neg e2] at hk
    exact Nat.lt_of_lt_of_le (h.old k hk) hM.size
 ·have hj2 : j < xs.length := by simpa using hj
  by_cases e : i = j
  ·subst e
   simp only [List.getElem_set_self]
   exact ⟨hr.mod hM2 (by omega), by simp, hwf⟩
  ·simp only [List.getElem_set_ne e]
   obtain ⟨s1, s2, s3⟩ := h.seats j hj2
   have l1 := s1.lt
   have n1 : xs[j].g ≠ g := by omega
   have n2 : xs[j].g ≠ xs[i].g := fun e3 => by have := (h.seats i hi).2.1; rw [← e3, s2] at this; omega
   refine ⟨s1.mod hM (fun e3 => by rw [e3, og] at s2; omega), ?_, s3⟩
   rw [if_neg n1, if_neg n2]
   exact s2
 ·by_cases e : k = g
  ·exact .inr (by omega)
  ·simp only [if_neg e] at hk
   by_cases e2 : k = xs[i].g
   ·simp [e2] at hk
   ·simp only [if_neg e2] at hk
    exact .inl hk
theorem flW_of {w : World} {ow : Nat → Nat} {wb gf c : Nat} {xs : List FR} {now : Int} (h : WorR w ow wb (Value.slice (Option.some ⟨gf, 0, none⟩) xs.length c) xs now) (i : Nat) (hi : i < xs.length) (pl : Pla) :
  FlW w gf (i * 10) xs[i].g xs[i].cap xs[i].f.pla (swapPla xs[i].f.pla pl) xs[i].f.num xs[i].f.ep xs[i].f.seats := by
 obtain ⟨og, rf⟩ := h.parts rfl (by omega)
 obtain ⟨s1, s2, s3⟩ := h.seats i hi
 obtain ⟨cur, q1, _⟩ := rf.cur
 exact ⟨s1, s3, fun e => by rw [← e, og] at s2; omega, fun j hj => rf.cell i hi j hj, q1.frozen, q1.lt, rfl, rfl, rfl, rfl⟩
theorem swapped_row {w : World} {ow : Nat → Nat} {wb gf c : Nat} {xs : List FR} {now : Int} (h : WorR w ow wb (Value.slice (Option.some ⟨gf, 0, none⟩) xs.length c) xs now) (i : Nat) (hi : i < xs.length) (pl : Pla)
  (hg : pl.sized = true ∧ ¬ pl.rows * pl.cols < (nFull xs[i].f.seats : Int)) :
  Calls Tryz.prog 54 #[.pointer (some ⟨gf, i * 10, none⟩), .agg #[.int .i64 pl.rows, .int .i64 pl.cols, .int .i64 pl.front, .int .i64 pl.l0, .int .i64 pl.l1, .int .i64 pl.l2, .int .i64 pl.l3]] w fun e w' => e = .returned (.int .i64 0) ∧
   ∃ ow' g cap, WorR w' ow' wb (Value.slice (Option.some ⟨gf, 0, none⟩) xs.length c) (xs.set i ⟨⟨xs[i].f.num, swapPla xs[i].f.pla pl, swapSeats (swapPla xs[i].f.pla pl) xs[i].f.seats, xs[i].f.ep⟩, g, cap⟩) now ∧ (∀ k, ow' k ≠ 0 → ow k ≠ 0 ∨ w.heap.size ≤ k) ∧ Mod (fun k => ow k ≠ 0) w w' := by
 have hF := flW_of h i hi pl
 have hlim : (swapPla xs[i].f.pla pl).limited = true := hF.wf.limited
 refine (swapped_ok pl.l0 pl.l1 pl.l2 pl.l3 hF hg.1 hlim hg.2).mono ?_
 rintro e w' ⟨rfl, wx, g, cap, hm, hgl, hr, rfl⟩
 obtain ⟨ow', k1, k2, k3⟩ := h.swapped i hi xs[i].f.num (swapPla xs[i].f.pla pl) g cap (swapSeats (swapPla xs[i].f.pla pl) xs[i].f.seats) xs[i].f.ep hm hgl hr (swap_wf hF.wf hg.1 hlim hg.2)
 exact ⟨rfl, ow', g, cap, k1, k2, k3⟩
theorem swapped_not {w : World} {ow : Nat → Nat} {wb gf c : Nat} {xs : List FR} {now : Int} (h : WorR w ow wb (Value.slice (Option.some ⟨gf, 0, none⟩) xs.length c) xs now) (i : Nat) (hi : i < xs.length) (pl : Pla)
  (hg : ¬ (pl.sized = true ∧ ¬ pl.rows * pl.cols < (nFull xs[i].f.seats : Int))) :
  Calls Tryz.prog 54 #[.pointer (some ⟨gf, i * 10, none⟩), .agg #[.int .i64 pl.rows, .int .i64 pl.cols, .int .i64 pl.front, .int .i64 pl.l0, .int .i64 pl.l1, .int .i64 pl.l2, .int .i64 pl.l3]] w fun e w' => e = .returned (.int .i64 4) ∧ Mod No w w' :=
 swapped_bad (Q := swapPla xs[i].f.pla pl) pl.l0 pl.l1 pl.l2 pl.l3 (flW_of h i hi pl) hg
def swapX (pl : Pla) (x : FR) (g cap : Nat) : FR := ⟨⟨x.f.num, swapPla x.f.pla pl, swapSeats (swapPla x.f.pla pl) x.f.seats, IntKind.i64.wrap (x.f.ep + 1)⟩, g, cap⟩
theorem wdo_swap_no {w : World} {ow : Nat → Nat} {wb gf cap : Nat} {xs : List FR} {now : Int} (h : WorR w ow wb (Value.slice (Option.some ⟨gf, 0, none⟩) xs.length cap) xs now) (flight ar ac tr tc party cls time : Int) (pl : Pla) (hf : 1 ≤ flight ∧ flight ≤ 20) (i : Nat) (hi : i < xs.length) (hfi : findN xs flight = i)
  (hg : ¬ (pl.sized = true ∧ ¬ pl.rows * pl.cols < (nFull xs[i].f.seats : Int))) :
  Calls Tryz.prog 27 #[.pointer (some ⟨wb, 0, none⟩), .agg #[.int .i64 9, .int .i64 flight, .int .i64 ar, .int .i64 ac, .int .i64 tr, .int .i64 tc, .int .i64 party, .int .i64 cls, .int .i64 time, .int .i64 pl.rows, .int .i64 pl.cols, .int .i64 pl.front, .int .i64 pl.l0, .int .i64 pl.l1, .int .i64 pl.l2, .int .i64 pl.l3]] w fun e w' => e = .returned (.int .i64 4) ∧ Mod No w w' := by
 have HF := hide fun W (hW : Mod No w W) => (show Calls Tryz.prog 52 #[.pointer (some ⟨wb, 0, none⟩), .int .i64 flight] W fun e w' => e = .returned (.int .i64 (i : Nat)) ∧ w' = W from by
  have := (h.mod hW (fun _ _ x => x)).find flight
  rw [hfi] at this
  exact this)
 have HS := hide fun W (hW : Mod No w W) => swapped_not (h.mod hW (fun _ _ x => x)) i hi pl hg
 have V0 := hide fun W (hW : Mod No w W) => (show W.cell? ⟨wb, 0, none⟩ = some (Value.slice (Option.some ⟨gf, 0, none⟩) xs.length cap) from cell_keep hW (h.has.cell 0) (fun x => x))
 have M0 := hide ((Mod.refl No w).alloc (.cells #[.int .i64 9, .int .i64 flight, .int .i64 ar, .int .i64 ac, .int .i64 tr, .int .i64 tc, .int .i64 party, .int .i64 cls, .int .i64 time, .int .i64 pl.rows, .int .i64 pl.cols, .int .i64 pl.front, .int .i64 pl.l0, .int .i64 pl.l1, .int .i64 pl.l2, .int .i64 pl.l3] 41))
 have B0 := hide (Has.new w #[.int .i64 9, .int .i64 flight, .int .i64 ar, .int .i64 ac, .int .i64 tr, .int .i64 tc, .int .i64 party, .int .i64 cls, .int .i64 time, .int .i64 pl.rows, .int .i64 pl.cols, .int .i64 pl.front, .int .i64 pl.l0, .int .i64 pl.l1, .int .i64 pl.l2, .int .i64 pl.l3] 41)
 have f1 : ¬ flight < 1 := by omega
 have f2 : ¬ flight > 20 := by omega
 have i0 : ¬ (i : Int) < 0 := by omega
 have i1 : (i : Int) < (xs.length : Int) := by omega
 have i2 : (0 : Int) ≤ i := by omega
 clear h hfi hf hg
 go_enter Tryz.func27, Tryz.ntmps27
 go_wp2_with fail
 refine ((unhide HF) _ (unhide M0)).mono ?_
 rintro e w1 ⟨rfl, rfl⟩
 have v0 := (unhide V0) _ (unhide M0)
 have hb := (unhide B0).cell
 have lb := (unhide B0).lt
 go_wp2_with fail
 refine ((unhide HS) _ (unhide M0)).mono ?_
 rintro e w2 ⟨rfl, m2⟩
 go_wp2
 go_ret
 exact ⟨rfl, (unhide M0).trans m2⟩
theorem wdo_swap {w : World} {ow : Nat → Nat} {wb gf cap : Nat} {xs : List FR} {now : Int} (h : WorR w ow wb (Value.slice (Option.some ⟨gf, 0, none⟩) xs.length cap) xs now) (flight ar ac tr tc party cls time : Int) (pl : Pla) (hf : 1 ≤ flight ∧ flight ≤ 20) (i : Nat) (hi : i < xs.length) (hfi : findN xs flight = i)
  (hg : pl.sized = true ∧ ¬ pl.rows * pl.cols < (nFull xs[i].f.seats : Int)) :
  Calls Tryz.prog 27 #[.pointer (some ⟨wb, 0, none⟩), .agg #[.int .i64 9, .int .i64 flight, .int .i64 ar, .int .i64 ac, .int .i64 tr, .int .i64 tc, .int .i64 party, .int .i64 cls, .int .i64 time, .int .i64 pl.rows, .int .i64 pl.cols, .int .i64 pl.front, .int .i64 pl.l0, .int .i64 pl.l1, .int .i64 pl.l2, .int .i64 pl.l3]] w fun e w' => e = .returned (.int .i64 0) ∧ ∃ ow' g c2, WorR w' ow' wb (Value.slice (Option.some ⟨gf, 0, none⟩) xs.length cap) (xs.set i (swapX pl xs[i] g c2)) now ∧ (∀ k, ow' k ≠ 0 → ow k ≠ 0 ∨ w.heap.size ≤ k) ∧ Mod (fun k => ow k ≠ 0) w w' := by
 have HF := hide fun W (hW : Mod No w W) => (show Calls Tryz.prog 52 #[.pointer (some ⟨wb, 0, none⟩), .int .i64 flight] W fun e w' => e = .returned (.int .i64 (i : Nat)) ∧ w' = W from by
  have := (h.mod hW (fun _ _ x => x)).find flight
  rw [hfi] at this
  exact this)
 obtain ⟨og, rf⟩ := h.parts rfl (by omega)
 have HS := hide fun W (hW : Mod No w W) => (show Calls Tryz.prog 54 #[.pointer (some ⟨gf, i * 10, none⟩), .agg #[.int .i64 pl.rows, .int .i64 pl.cols, .int .i64 pl.front, .int .i64 pl.l0, .int .i64 pl.l1, .int .i64 pl.l2, .int .i64 pl.l3]] W fun e w' => e = .returned (.int .i64 0) ∧
   w'.cell? ⟨gf, i * 10 + 9, none⟩ = some (.int .i64 xs[i].f.ep) ∧ (∀ o, w'.frozen? ⟨gf, o, none⟩ = false) ∧ gf < w'.heap.size ∧ ∃ ow' g c2, WorR (w'.setCell ⟨gf, i * 10 + 9, none⟩ (.int .i64 (IntKind.i64.wrap (xs[i].f.ep + 1)))) ow' wb (Value.slice (Option.some ⟨gf, 0, none⟩) xs.length cap) (xs.set i (swapX pl xs[i] g c2)) now ∧ (∀ k, ow' k ≠ 0 → ow k ≠ 0 ∨ w.heap.size ≤ k) ∧ Mod (fun k => ow k ≠ 0) w (w'.setCell ⟨gf, i * 10 + 9, none⟩ (.int .i64 (IntKind.i64.wrap (xs[i].f.ep + 1)))) from by
  refine (swapped_row (h.mod hW (fun _ _ x => x)) i hi pl hg).mono ?_
  rintro e w' ⟨rfl, ow', g, c2, k1, k2, k3⟩
  have hl : (xs.set i (⟨⟨xs[i].f.num, swapPla xs[i].f.pla pl, swapSeats (swapPla xs[i].f.pla pl) xs[i].f.seats, xs[i].f.ep⟩, g, c2⟩ : FR)).length = xs.length := by rw [List.length_set]
  obtain ⟨og2, rf2⟩ := k1.parts hl (by omega)
  obtain ⟨cur, q1, _⟩ := id rf2.cur
  have hc := rf2.cell i (by rw [hl]; exact hi) 9 (by omega)
  simp only [List.getElem_set_self] at hc
  have k1' := k1
  rw [← hl] at k1'
  have k4 := k1'.epSet i (by rw [hl]; exact hi) (IntKind.i64.wrap (xs[i].f.ep + 1))
  simp only [List.getElem_set_self, List.set_set] at k4
  rw [hl] at k4
  have k3' : Mod (fun k => ow k ≠ 0) w w' := (hW.mono (fun _ _ x => x.elim)).trans k3
  refine ⟨rfl, hc, q1.frozen, q1.lt, ow', g, c2, k4, fun k hk => (k2 k hk).imp (fun x => x) (fun x => Nat.le_trans hW.size x), k3'.setCell (p := ⟨gf, i * 10 + 9, none⟩) (.inl ?_) _⟩
  show ow gf ≠ 0
  rw [og]; omega)
 rw [show IntKind.i64.wrap (xs[i].f.ep + 1) = wrap64 (xs[i].f.ep + 1) from (by unfold wrap64; exact IntKind.wrap_i64 _)] at HS
 have V0 := hide fun W (hW : Mod No w W) => (show W.cell? ⟨wb, 0, none⟩ = some (Value.slice (Option.some ⟨gf, 0, none⟩) xs.length cap) from cell_keep hW (h.has.cell 0) (fun x => x))
 have M0 := hide ((Mod.refl No w).alloc (.cells #[.int .i64 9, .int .i64 flight, .int .i64 ar, .int .i64 ac, .int .i64 tr, .int .i64 tc, .int .i64 party, .int .i64 cls, .int .i64 time, .int .i64 pl.rows, .int .i64 pl.cols, .int .i64 pl.front, .int .i64 pl.l0, .int .i64 pl.l1, .int .i64 pl.l2, .int .i64 pl.l3] 41))
 have B0 := hide (Has.new w #[.int .i64 9, .int .i64 flight, .int .i64 ar, .int .i64 ac, .int .i64 tr, .int .i64 tc, .int .i64 party, .int .i64 cls, .int .i64 time, .int .i64 pl.rows, .int .i64 pl.cols, .int .i64 pl.front, .int .i64 pl.l0, .int .i64 pl.l1, .int .i64 pl.l2, .int .i64 pl.l3] 41)
 have f1 : ¬ flight < 1 := by omega
 have f2 : ¬ flight > 20 := by omega
 have i0 : ¬ (i : Int) < 0 := by omega
 have i1 : (i : Int) < (xs.length : Int) := by omega
 have i2 : (0 : Int) ≤ i := by omega
 clear h hfi hf hg og rf
 go_enter Tryz.func27, Tryz.ntmps27
 go_wp2_with fail
 refine ((unhide HF) _ (unhide M0)).mono ?_
 rintro e w1 ⟨rfl, rfl⟩
 have v0 := (unhide V0) _ (unhide M0)
 have hb := (unhide B0).cell
 have lb := (unhide B0).lt
 go_wp2_with fail
 refine ((unhide HS) _ (unhide M0)).mono ?_
 rintro e w2 ⟨rfl, c9, z9, l9, R⟩
 have R := hide R
 clear hb v0 lb
 go_wp2
 go_ret
 exact ⟨rfl, unhide R⟩
theorem swapX_same (c : Cmd) (k9 : c.kind = 9) (x : FR) (g c2 : Nat) :
  ((swapX c.pla x g c2).f.pla.at (swapX c.pla x g c2).f.ep, (swapX c.pla x g c2).f.seats) = (planNew (x.f.pla.at x.f.ep) c, seatNew (x.f.pla.at x.f.ep) x.f.seats c) := by
 unfold planNew seatNew swapX
 rw [if_pos k9, if_pos k9]
 rfl
theorem wdo_all {w : World} {ow : Nat → Nat} {wb : Nat} {v : Value} {xs : List FR} {now : Int} {fl : Nat → Option (Pla × List Sea)} (h : WorR w ow wb v xs now) (hs : Same xs fl) (c : Cmd) (ht : -9223372036854775808 ≤ c.time ∧ c.time ≤ 9223372036854775807)
  (hn : 0 ≤ now ∧ now ≤ 4611686018427387000) (hv : xs = [] → v = .slice none 0 0) :
  Calls Tryz.prog 27 #[.pointer (some ⟨wb, 0, none⟩), .agg (cmdCells c)] w fun e w' => e = .returned (.int .i64 (doK now fl c).1) ∧ WDone w w' ow wb (doK now fl c).2.1 (doK now fl c).2.2 := by
 by_cases k9 : c.kind = 9
 case neg => exact wdo_any h hs c ht hn k9 hv
 have k0 : ¬ (c.kind < 1 ∨ c.kind > 9) := by omega
 have k8 : c.kind ≠ 8 := by omega
 have k1 : ¬ c.kind = 1 := by omega
 have HF := fun W (hW : Mod No w W) => (h.mod hW (fun _ _ x => x)).find c.flight
 by_cases hf : 1 ≤ c.flight ∧ c.flight ≤ 20
 case neg =>
  rw [doK_num k0 k8 hf]
  obtain ⟨kind, flight, ar, ac, tr, tc, party, cls, time, pl⟩ := c
  exact (wdo_num wb flight ar ac tr tc party cls time pl w kind (by simp only at *; omega) _ hf HF).mono fun e w' ⟨he, hm⟩ => ⟨he, WDone.same h hs hv hm⟩
 rcases hs.find c.flight hf with ⟨f1, f2⟩ | ⟨i, hi, f1, f2, f3⟩
 ·rw [doK_none k0 k8 hf f2, if_neg k1]
  rw [f1] at HF
  obtain ⟨kind, flight, ar, ac, tr, tc, party, cls, time, pl⟩ := c
  exact (wdo_miss wb flight ar ac tr tc party cls time pl w kind (by simp only at *; omega) (-1) hf (by omega) k1 HF).mono fun e w' ⟨he, hm⟩ => ⟨he, WDone.same h hs hv hm⟩
 ·rw [doK_some k0 k8 hf f3, if_neg k1]
  simp only
  rw [seatErr_ep]
  have se : seatErr xs[i].f.pla xs[i].f.seats c now = if c.pla.sized = true ∧ ¬ (c.pla.rows * c.pla.cols < (nFull xs[i].f.seats : Int)) then 0 else 4 := by
   unfold seatErr
   rw [if_pos k9]
  have sx := fun g c2 => swapX_same c k9 xs[i] g c2
  obtain ⟨gf, cap, rfl⟩ := h.some (by omega)
  by_cases hg : c.pla.sized = true ∧ ¬ (c.pla.rows * c.pla.cols < (nFull xs[i].f.seats : Int))
  ·rw [se, if_pos hg, if_pos rfl]
   obtain ⟨kind, flight, ar, ac, tr, tc, party, cls, time, pl⟩ := c
   simp only at k9
   subst k9
   refine (wdo_swap h flight ar ac tr tc party cls time pl hf i hi f1 hg).mono ?_
   rintro e w' ⟨rfl, ow', g, c2, q1, q2, q3⟩
   refine ⟨rfl, ⟨_, _, ow', q1, hs.set flight hf i hi f1 (swapX pl xs[i] g c2) rfl _ (sx g c2), q2, fun e => ?_⟩, q3⟩
   have e2 := (List.set_eq_nil_iff _ _).1 e
   rw [e2] at hi
   exact absurd hi (Nat.not_lt_zero _)
  ·rw [se, if_neg hg, if_neg (by decide)]
   obtain ⟨kind, flight, ar, ac, tr, tc, party, cls, time, pl⟩ := c
   simp only at k9
   subst k9
   exact (wdo_swap_no h flight ar ac tr tc party cls time pl hf i hi f1 hg).mono fun e w' ⟨he, hm⟩ => ⟨he, WDone.same h hs hv hm⟩
set_option maxHeartbeats 4000000
theorem OneX.owns' {w : World} {O O' : Nat → Prop} {ob : Nat} {I : OneI} (h : OneX w O ob I) (hO : ∀ k, O k → O' k) (hl : ∀ k, O' k → k < w.heap.size) : OneX w O' ob I := by
 obtain ⟨cls, c1, c2, c3, c4, c5, c6, c7⟩ := h.ex
 exact ⟨h.has, h.keep, h.wor, h.may, h.told, ⟨cls, c1, c2, c3, c4, c5, c6, fun k hk => hO k (c7 k hk)⟩, hl⟩
theorem OneX.kept {w w1 wx : World} {O : Nat → Prop} {ob kb : Nat} {I : OneI} {pt : Nat → Option Nat} {now' : Int} {fl' : Nat → Option (Pla × List Sea)} {K' : KS} (h : OneX w O ob I) (hkb : I.kb = some kb) (hm : Mod No w w1) (hk : KeepT w1 I.okp kb I.now pt I.fl I.K) (hd : DoneT w1 wx I.okp kb pt now' fl' K') (htb : K'.tb = I.K.tb) :
  ∃ okp', OneX wx (grow O w wx) ob { I with okp := okp', now := now', fl := fl', K := K' } ∧ Mod O w wx ∧ (∀ k, w.heap.size ≤ k → k < w1.heap.size → okp' k = 0) ∧ Mod (fun k => I.okp k ≠ 0) w1 wx := by
 obtain ⟨⟨ow', pt', q1, q2, q3⟩, q4⟩ := hd
 obtain ⟨cls, c1, c2, c3, c4, c5, c6, c7⟩ := h.ex
 have hs1 := hm.size
 have hs2 := q4.size
 have hnew : ∀ k, w.heap.size ≤ k → I.okp k = 0 := fun k hk => by
  by_cases e : I.okp k = 0
  ·exact e
  ·have := h.lt k (c7 k (by rw [c2 k e]; omega)); omega
 have hm2 : Mod O w wx := (hm.mono (fun _ _ x => x.elim)).trans (q4.mono (fun k _ x => c7 k (by rw [c2 k x]; omega)))
 have hw1 := h.mod hm (fun _ _ x => x)
 refine ⟨ow', ⟨?_, ?_, ?_, ?_, ?_, ?_, ?_⟩, hm2, fun k h1 h2 => by rw [q2 k h2]; exact hnew k h1, q4⟩
 ·have : oneV { I with okp := ow', now := now', fl := fl', K := K' } = oneV I := by unfold oneV; simp only [htb]
  rw [this]
  exact q4.has hw1.has (fun e => by have := c2 ob e; omega)
 ·refine ⟨fun b hb => ?_, fun hn => ?_⟩
  ·have hb : I.kb = some b := hb
   rw [hkb] at hb
   injection hb with hb
   subst hb
   obtain ⟨_, hf⟩ := hw1.keep.some kb hkb
   have hfs := fol_same hk.keep.has q1.keep.has q3
   refine ⟨⟨pt', q1⟩, ⟨fun i hi ht => by rw [hfs i hi]; exact hf.un i hi ht, fun i hi es ht => ?_, fun k hk => ⟨Nat.lt_of_lt_of_le (hf.old k hk).1 hs2, by show ow' k = 0; rw [q2 k (hf.old k hk).1]; exact (hf.old k hk).2⟩⟩⟩
   obtain ⟨m, clock, a1, a2, a3, a4⟩ := hf.is i hi es ht
   exact ⟨m, clock, by rw [hfs i hi]; exact a1, a2, mod_fol q4 a3 (fun e => e (hf.old m (by omega)).2), a4⟩
  ·have hn : I.kb = none := hn
   rw [hkb] at hn; cases hn
 ·exact hw1.wor.mod q4 (fun k hk e => by have := c3 k hk; have := c2 k e; omega)
 ·exact fun M hM => (hw1.may M hM).mod q4 (fun k hk e => by have := c6 M hM k hk; have := c2 k e; omega)
 ·exact hw1.told.mod q4 (fun k hk e => by have := c4 k hk; have := c2 k e; omega)
 ·have hz : ∀ k, cls k ≠ 0 → k < w.heap.size := fun k hk => h.lt k (c7 k hk)
  refine ⟨fun k => if k < w.heap.size then cls k else if ow' k ≠ 0 then 2 else 0, ?_, fun k hk => ?_, fun k hk => ?_, fun k hk => ?_, fun k hk => ?_, fun M hM k hk => ?_, fun k hk => ?_⟩
  ·show (if ob < w.heap.size then cls ob else if ow' ob ≠ 0 then 2 else 0) = 1
   rw [if_pos (hz ob (by omega))]; exact c1
  ·have hk : ow' k ≠ 0 := hk
   show (if k < w.heap.size then cls k else if ow' k ≠ 0 then 2 else 0) = 2
   by_cases e : k < w.heap.size
   ·rw [if_pos e]; rw [q2 k (by omega)] at hk; exact c2 k hk
   ·rw [if_neg e, if_pos hk]
  ·have := c3 k hk; show (if k < w.heap.size then cls k else if ow' k ≠ 0 then 2 else 0) = 3; rw [if_pos (hz k (by omega))]; exact this
  ·have := c4 k hk; show (if k < w.heap.size then cls k else if ow' k ≠ 0 then 2 else 0) = 4; rw [if_pos (hz k (by omega))]; exact this
  ·have := c5 k hk; show (if k < w.heap.size then cls k else if ow' k ≠ 0 then 2 else 0) = 5; rw [if_pos (hz k (by omega))]; exact this
  ·have := c6 M hM k hk; show (if k < w.heap.size then cls k else if ow' k ≠ 0 then 2 else 0) = 6; rw [if_pos (hz k (by omega))]; exact this
  ·have hk : (if k < w.heap.size then cls k else if ow' k ≠ 0 then 2 else 0) ≠ 0 := hk
   by_cases e : k < w.heap.size
   ·rw [if_pos e] at hk; exact .inl (c7 k hk)
   ·rw [if_neg e] at hk
    by_cases e2 : ow' k ≠ 0
    ·exact .inr ⟨by omega, q1.keep.old k e2⟩
    ·rw [if_neg e2] at hk; exact absurd rfl hk
 ·intro k hk
  rcases hk with hk | hk
  ·exact Nat.lt_of_lt_of_le (h.lt k hk) hm2.size
  ·exact hk.2
theorem OneX.turn {w w' : World} {O : Nat → Prop} {ob : Nat} {I I' : OneI} {Wn : WI} (h : OneX w O ob I) (hw : WX w Wn) (hn : ∀ k, Wn.ow k ≠ 0 → ¬ O k) (hm : Mod (fun k => k = ob) w w') (hh : Has w' ob (oneV I') 55)
  (e1 : I'.kb = I.kb ∧ I'.okp = I.okp ∧ I'.om = I.om ∧ I'.now = I.now ∧ I'.fl = I.fl ∧ I'.K = I.K ∧ I'.tl = I.tl) (e2 : I'.owt = I.owt ∧ I'.tob = I.tob ∧ I'.vs = I.vs ∧ I'.ns = I.ns ∧ I'.bs = I.bs) (e3 : (I'.W = Wn ∧ I'.mb = I.mb) ∨ (I'.W = I.W ∧ I'.mb = some Wn)) :
  OneX w' (fun k => O k ∨ Wn.ow k ≠ 0) ob I' := by
 obtain ⟨cls, c1, c2, c3, c4, c5, c6, c7⟩ := h.ex
 obtain ⟨a1, a2, a3, a4, a5, a6, a7⟩ := e1
 obtain ⟨b1, b2, b3, b4, b5⟩ := e2
 have g : ∀ k n, cls k = n → n ≠ 0 → n ≠ 1 → ¬ k = ob := fun k n e h0 h1 q => by rw [q, c1] at e; omega
 have hob : O ob := c7 ob (by omega)
 have hwn : WX w' Wn := hw.mod hm (fun k hk e => by subst e; exact hn k hk hob)
 have g2 : ∀ k, cls k ≠ 0 → Wn.ow k = 0 := fun k hk => by
  by_cases e : Wn.ow k = 0
  ·exact e
  ·exact absurd (c7 k hk) (hn k e)
 refine ⟨hh, ?_, ?_, ?_, ?_, ?_, ?_⟩
 ·rw [a1, a2, a3, a4, a5, a6, a7]
  exact h.keep.mod hm (fun k hk => g k _ (c2 k hk) (by omega) (by omega)) (fun k hk => g k _ (c5 k hk) (by omega) (by omega))
 ·rcases e3 with ⟨e, _⟩ | ⟨e, _⟩
  ·rw [e]; exact hwn
  ·rw [e]; exact h.wor.mod hm (fun k hk => g k _ (c3 k hk) (by omega) (by omega))
 ·intro M hM
  rcases e3 with ⟨_, e⟩ | ⟨_, e⟩
  ·rw [e] at hM; exact (h.may M hM).mod hm (fun k hk => g k _ (c6 M hM k hk) (by omega) (by omega))
  ·rw [e] at hM; injection hM with hM; rw [← hM]; exact hwn
 ·rw [b1, b2, b3, b4, b5]
  exact h.told.mod hm (fun k hk => g k _ (c4 k hk) (by omega) (by omega))
 ·refine ⟨fun k => if Wn.ow k ≠ 0 then (if I'.W.ow k ≠ 0 then 3 else 6) else cls k, ?_, fun k hk => ?_, fun k hk => ?_, fun k hk => ?_, fun k hk => ?_, fun M hM k hk => ?_, fun k hk => ?_⟩
  ·show (if Wn.ow ob ≠ 0 then (if I'.W.ow ob ≠ 0 then 3 else 6) else cls ob) = 1
   rw [if_neg (by simpa using g2 ob (by omega))]; exact c1
  ·rw [a2] at hk
   have := c2 k hk
   show (if Wn.ow k ≠ 0 then (if I'.W.ow k ≠ 0 then 3 else 6) else cls k) = 2
   rw [if_neg (by simpa using g2 k (by omega))]; exact this
  ·show (if Wn.ow k ≠ 0 then (if I'.W.ow k ≠ 0 then 3 else 6) else cls k) = 3
   by_cases e : Wn.ow k ≠ 0
   ·rw [if_pos e, if_pos hk]
   ·rw [if_neg e]
    rcases e3 with ⟨q, _⟩ | ⟨q, _⟩
    ·rw [q] at hk; exact absurd hk e
    ·rw [q] at hk; exact c3 k hk
  ·rw [b1] at hk
   have := c4 k hk
   show (if Wn.ow k ≠ 0 then (if I'.W.ow k ≠ 0 then 3 else 6) else cls k) = 4
   rw [if_neg (by simpa using g2 k (by omega))]; exact this
  ·rw [a3] at hk
   have := c5 k hk
   show (if Wn.ow k ≠ 0 then (if I'.W.ow k ≠ 0 then 3 else 6) else cls k) = 5
   rw [if_neg (by simpa using g2 k (by omega))]; exact this
  ·show (if Wn.ow k ≠ 0 then (if I'.W.ow k ≠ 0 then 3 else 6) else cls k) = 6
   rcases e3 with ⟨_, q⟩ | ⟨q1, q⟩
   ·rw [q] at hM
    have := c6 M hM k hk
    rw [if_neg (by simpa using g2 k (by omega))]; exact this
   ·rw [q] at hM; injection hM with hM; rw [← hM] at hk
    rw [if_pos hk, q1]
    have : I.W.ow k = 0 := by
     by_cases e : I.W.ow k = 0
     ·exact e
     ·have := g2 k (by rw [c3 k e]; omega); exact absurd this hk
    rw [if_neg (by simpa using this)]
  ·have hk : (if Wn.ow k ≠ 0 then (if I'.W.ow k ≠ 0 then 3 else 6) else cls k) ≠ 0 := hk
   by_cases e : Wn.ow k ≠ 0
   ·exact .inr e
   ·rw [if_neg e] at hk; exact .inl (c7 k hk)
 ·intro k hk
  rcases hk with hk | hk
  ·exact Nat.lt_of_lt_of_le (h.lt k hk) hm.size
  ·exact Nat.lt_of_lt_of_le (hw.wor.old k hk) hm.size
theorem Same.miss {xs : List FR} {fl : Nat → Option (Pla × List Sea)} (h : Same xs fl) (c : Int) (hc : ¬ (1 ≤ c ∧ c ≤ 20)) : findN xs c = -1 := by
 rcases findN_cases xs c with h1 | ⟨i, hi, h1, h2⟩
 ·exact h1
 ·have := h.rng _ (List.getElem_mem hi)
  omega
theorem wleft_all {w : World} {ow : Nat → Nat} {wb : Nat} {v : Value} {xs : List FR} {now : Int} {fl : Nat → Option (Pla × List Sea)} (h : WorR w ow wb v xs now) (hs : Same xs fl) (n c : Int) :
  Calls Tryz.prog 34 #[.pointer (some ⟨wb, 0, none⟩), .int .i64 n, .int .i64 c] w fun e w' => e = .returned (.tuple #[.int .i64 (leftK fl n c).1, .int .i64 (leftK fl n c).2]) ∧ Mod No w w' := by
 unfold leftK
 by_cases hn : 1 ≤ n ∧ n ≤ 20
 case neg =>
  rw [if_pos hn]
  exact wleft_no h n c (hs.miss n hn)
 rw [if_neg (by omega)]
 rcases hs.find n hn with ⟨f1, f2⟩ | ⟨i, hi, f1, f2, f3⟩
 ·rw [f2]
  exact wleft_no h n c f1
 ·rw [f3]
  simp only
  by_cases hc : 0 ≤ c ∧ c < 4
  ·rw [if_neg (by omega), left_ep]
   obtain ⟨gf, cap, rfl⟩ := h.some (by omega)
   have := wleft_yes h n i hi f1 c.toNat (by omega)
   rw [show ((c.toNat : Nat) : Int) = c by omega] at this
   exact this
  ·rw [if_pos hc]
   exact wleft_class h n c i f1 hc
structure OpV (S : Array Value) (k b c : Int) : Prop where
 size : S.size = 25
 k0 : S[0]? = some (.int .i64 k)
 b2 : S[2]? = some (.int .i64 b)
 c3 : S[3]? = some (.int .i64 c)
structure AskI where
 kb : Nat
 okp : Nat → Nat
 wb : Nat
 owr : Nat → Nat
 v : Value
 xs : List FR
 now : Int
 fl : Nat → Option (Pla × List Sea)
structure AskX (w : World) (ob : Nat) (I : AskI) : Prop where
 cell1 : w.cell? ⟨ob, 1, none⟩ = some (.pointer (some ⟨I.kb, 0, none⟩))
 cell2 : w.cell? ⟨ob, 2, none⟩ = some (.pointer (some ⟨I.wb, 0, none⟩))
 lt : ob < w.heap.size
 keep : KeepH w I.okp I.kb I.now I.fl
 wor : WorR w I.owr I.wb I.v I.xs I.now
 same : Same I.xs I.fl
theorem AskX.mod {w w' : World} {ob : Nat} {I : AskI} (h : AskX w ob I) (hm : Mod No w w') (hs : ∀ k, No k → ¬ No k) : AskX w' ob I := by
 have hc : ∀ a v, w.cell? a = some v → w'.cell? a = some v := fun a v hc => by
  have hl := World.block_lt_of_cell? w a hc
  unfold World.cell? at hc ⊢
  rw [hm.block _ hl (fun x => x)]
  exact hc
 exact ⟨hc _ _ h.cell1, hc _ _ h.cell2, Nat.lt_of_lt_of_le h.lt hm.size, h.keep.mod hm (fun _ _ x => x), h.wor.mod hm (fun _ _ x => x), h.same⟩
theorem OneX.ask {w : World} {O : Nat → Prop} {ob kb : Nat} {I : OneI} (h : OneX w O ob I) (hkb : I.kb = some kb) (hW : I.W.now = I.now ∧ I.W.fl = I.fl) : AskX w ob ⟨kb, I.okp, I.W.wb, I.W.ow, I.W.v, I.W.xs, I.now, I.fl⟩ := by
 obtain ⟨⟨pt, hk⟩, _⟩ := h.keep.some kb hkb
 have c1 := h.has.cell 1
 rw [show (oneV I)[1]? = some (ptrOf I.kb) from rfl, hkb] at c1
 have hw := h.wor.wor
 have hs := h.wor.same
 rw [hW.1] at hw
 rw [hW.2] at hs
 exact ⟨c1, h.has.cell 2, h.has.lt, ⟨pt, hk.keep⟩, hw, hs⟩
theorem asked_left {w : World} {ob yb : Nat} {I : AskI} (h : AskX w ob I) {S : Array Value} {b c : Int} (hS : OpV S 4 b c) :
  Calls Tryz.prog 17 #[.pointer (some ⟨yb, 0, none⟩), .pointer (some ⟨ob, 0, none⟩), .agg S] w fun e w' => e = .returned (.bool true) ∧ Mod No w w' := by
 have M0 := (Mod.refl No w).alloc (.cells S 45)
 have h0 := h.mod M0 (fun _ _ x => x)
 have HH := hide fun W (hW : Mod No (w.alloc (.cells S 45)) W) => h0.mod hW (fun _ _ x => x)
 have B0 := Has.new w S 45
 have bk := (B0.cell 0).trans hS.k0
 have BX := hide fun W (hW : Mod No (w.alloc (.cells S 45)) W) => (show (W.cell? ⟨w.heap.size, 2, none⟩ = some (.int .i64 b) ∧ W.cell? ⟨w.heap.size, 3, none⟩ = some (.int .i64 c)) ∧ w.heap.size < W.heap.size from
  ⟨⟨((hW.has B0 (fun x => x)).cell 2).trans hS.b2, ((hW.has B0 (fun x => x)).cell 3).trans hS.c3⟩, (hW.has B0 (fun x => x)).lt⟩)
 have MW := hide fun W (hW : Mod No (w.alloc (.cells S 45)) W) => M0.trans hW
 have bl := B0.lt
 clear h h0 hS M0 B0
 generalize hL : leftK I.fl b c = L at *
 have HL := hide hL
 clear hL
 go_enter Tryz.func17, Tryz.ntmps17
 go_upto_region 5 with fail
 generalize w.alloc (.cells S 45) = w1 at *
 generalize w.heap.size = bb at *
 have c1 : w1.cell? ⟨ob, 1, none⟩ = some (.pointer (some ⟨I.kb, 0, none⟩)) := ((unhide HH) _ (Mod.refl _ _)).cell1
 have ol := ((unhide HH) _ (Mod.refl _ _)).lt
 obtain ⟨⟨b2, b3⟩, _⟩ := (unhide BX) _ (Mod.refl _ _)
 have HC := hide (left_any ((unhide HH) _ (Mod.refl _ w1).drew).keep b c)
 rw [unhide HL] at HC
 go_cut [7, 8] (fun s7 s8 wx => s7 = .int .i64 L.1 ∧ s8 = .int .i64 L.2 ∧ Hid (Mod No w1 wx))
 case first =>
  go_region_law (refine step_call rfl 33 _ _ rfl #[.pointer (some ⟨I.kb, 0, none⟩), .int .i64 b, .int .i64 c] (by simp [Act.eval, Act.put]) (fun W => by kernel_rfl) (.tuple #[.int .i64 L.1, .int .i64 L.2]) _ (unhide HC) ?_; intro w5 hm5)
  all_goals go_wp2
  all_goals go_meet
  all_goals exact ⟨rfl, rfl, (Mod.refl No w1).drew.trans hm5⟩
 case rest =>
  obtain ⟨rfl, rfl, M2⟩ := hcut
  apply_assumption
  clear c1 ol b2 b3 HC bk
  have c2 : wc.cell? ⟨ob, 2, none⟩ = some (.pointer (some ⟨I.wb, 0, none⟩)) := ((unhide HH) _ (unhide M2)).cell2
  have ol := ((unhide HH) _ (unhide M2)).lt
  obtain ⟨⟨b2, b3⟩, bl2⟩ := (unhide BX) _ (unhide M2)
  have HC := hide (wleft_all ((unhide HH) _ (unhide M2).drew).wor ((unhide HH) _ (unhide M2)).same b c)
  rw [unhide HL] at HC
  have MC := hide (unhide M2).drew
  go_upto_region 6 with fail
  go_cut [9, 10] (fun s7 s8 wx => s7 = .int .i64 L.1 ∧ s8 = .int .i64 L.2 ∧ Hid (Mod No w1 wx))
  case first =>
   go_region_law (refine step_call rfl 34 _ _ rfl #[.pointer (some ⟨I.wb, 0, none⟩), .int .i64 b, .int .i64 c] (by simp [Act.eval, Act.put]) (fun W => by kernel_rfl) (.tuple #[.int .i64 L.1, .int .i64 L.2]) _ (unhide HC) ?_; intro w5 hm5)
   all_goals go_wp2
   all_goals go_meet
   all_goals exact ⟨rfl, rfl, (unhide MC).trans hm5⟩
  case rest =>
   obtain ⟨rfl, rfl, M3⟩ := hcut
   apply_assumption
   have FIN := hide ((unhide MW) _ (unhide M3))
   have q1 : (L.1 == L.1) = true := by simp
   have q2 : (L.2 == L.2) = true := by simp
   clear c2 ol b2 b3 HC HH BX MW
   go_wp2
   go_ret
   exact ⟨rfl, unhide FIN⟩
end Go.Proofs.YthhibagcpjeihaaGreat
