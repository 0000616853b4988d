import Derived.Test.YthhibagcpjeihaaGreatHRef18ToRef22
import Derived.Test.YthhibagcpjeihaaGreatHPTapeToSto1
import Derived.Deep.DeepCutAuto
import Derived.Deep.RegionLawGrows
import Derived.Deep.CutBlock
namespace Go.Proofs.YthhibagcpjeihaaGreat
open Go.RowKit
open M
set_option linter.unusedVariables false
set_option linter.unusedSimpArgs false
set_option maxRecDepth 100000
set_option maxHeartbeats 8000000
def addX (num : Int) (p : Pla) (g cap : Nat) : FR := ⟨⟨num, p, emptySeats p, 1⟩, g, cap⟩
structure AddI (w wx : World) (num : Int) (p : Pla) (cs : Array Value) (bb b0 g cap : Nat) : Prop where
 box : Has wx bb (friV (addX num p g cap)) 134
 cmd : Has wx b0 cs 41
 row : RowS wx g cap (emptySeats p)
 nb : w.heap.size ≤ bb
 ng : w.heap.size ≤ g
 ne : bb ≠ b0
 mod : Mod No w wx
theorem AddI.still {w wx w2 : World} {num : Int} {p : Pla} {cs : Array Value} {bb b0 g cap : Nat} (h : AddI w wx num p cs bb b0 g cap) (hm : Mod No wx w2) : AddI w w2 num p cs bb b0 g cap :=
 ⟨hm.has h.box (fun x => x), hm.has h.cmd (fun x => x), h.row.mod hm (fun x => x), h.nb, h.ng, h.ne, h.mod.trans hm⟩
theorem AddI.made {w w3 w5 : World} {num : Int} {p : Pla} {cs : Array Value} {b0 g cap : Nat} (hm : Mod No w w3) (h5 : Mod No w3 w5) (hc : Has w3 b0 cs 41) (hr : RowS w5 g cap (emptySeats p)) (hg : w3.heap.size < g) :
  AddI w (w5.alloc (.cells #[.int .i64 num, .int .i64 p.rows, .int .i64 p.cols, .int .i64 p.front, .int .i64 p.l0, .int .i64 p.l1, .int .i64 p.l2, .int .i64 p.l3, .slice (some ⟨g, 0, none⟩) (emptySeats p).length cap, .int .i64 1] 134)) num p cs w5.heap.size b0 g cap := by
 show AddI w (w5.alloc (.cells (friV (addX num p g cap)) 134)) num p cs w5.heap.size b0 g cap
 have h6 : Mod No w5 (w5.alloc (.cells (friV (addX num p g cap)) 134)) := (Mod.refl _ _).alloc _
 have c5 := h5.has hc (fun x => x)
 have := hm.size
 have := h5.size
 exact ⟨Has.new _ _ _, h6.has c5 (fun x => x), hr.mod h6 (fun x => x), by omega, by omega, by have := c5.lt; omega, (hm.trans h5).trans h6⟩
theorem AddI.made2 {w w3 w5 : World} {num : Int} {p : Pla} {cs : Array Value} {bb b0 g cap : Nat} (hm : Mod No w w3) (h5 : Mod No w3 w5) (hc : Has w3 b0 cs 41) (hz : Has w3 bb #[.int .i64 0, .int .i64 0, .int .i64 0, .int .i64 0, .int .i64 0, .int .i64 0, .int .i64 0, .int .i64 0, .slice none 0 0, .int .i64 0] 134) (hbb : w.heap.size ≤ bb) (hr : RowS w5 g cap (emptySeats p)) (hg : w3.heap.size < g) :
  AddI w ((((((((((w5.setCell ⟨bb, 0, none⟩ (.int .i64 num)).setCell ⟨bb, 1, none⟩ (.int .i64 p.rows)).setCell ⟨bb, 2, none⟩ (.int .i64 p.cols)).setCell ⟨bb, 3, none⟩ (.int .i64 p.front)).setCell ⟨bb, 4, none⟩ (.int .i64 p.l0)).setCell ⟨bb, 5, none⟩ (.int .i64 p.l1)).setCell ⟨bb, 6, none⟩ (.int .i64 p.l2)).setCell ⟨bb, 7, none⟩ (.int .i64 p.l3)).setCell ⟨bb, 8, none⟩ (.slice (some ⟨g, 0, none⟩) (emptySeats p).length cap)).setCell ⟨bb, 9, none⟩ (.int .i64 1)) num p cs bb b0 g cap := by
 have z5 := h5.has hz (fun x => x)
 have c5 := h5.has hc (fun x => x)
 have hlt := hz.lt
 have hne : bb ≠ b0 := hz.ne hc (by decide)
 have hgb : g ≠ bb := by omega
 have m6 : Mod (fun k => k = bb) w5 ((((((((((w5.setCell ⟨bb, 0, none⟩ (.int .i64 num)).setCell ⟨bb, 1, none⟩ (.int .i64 p.rows)).setCell ⟨bb, 2, none⟩ (.int .i64 p.cols)).setCell ⟨bb, 3, none⟩ (.int .i64 p.front)).setCell ⟨bb, 4, none⟩ (.int .i64 p.l0)).setCell ⟨bb, 5, none⟩ (.int .i64 p.l1)).setCell ⟨bb, 6, none⟩ (.int .i64 p.l2)).setCell ⟨bb, 7, none⟩ (.int .i64 p.l3)).setCell ⟨bb, 8, none⟩ (.slice (some ⟨g, 0, none⟩) (emptySeats p).length cap)).setCell ⟨bb, 9, none⟩ (.int .i64 1)) :=
  ((((((((((Mod.refl _ w5).at 0 _).at 1 _).at 2 _).at 3 _).at 4 _).at 5 _).at 6 _).at 7 _).at 8 _).at 9 _
 have e0 : Has (w5.setCell ⟨bb, 0, none⟩ (.int .i64 num)) bb #[.int .i64 num, .int .i64 0, .int .i64 0, .int .i64 0, .int .i64 0, .int .i64 0, .int .i64 0, .int .i64 0, .slice none 0 0, .int .i64 0] 134 := z5.set 0 _
 have e1 : Has ((w5.setCell ⟨bb, 0, none⟩ (.int .i64 num)).setCell ⟨bb, 1, none⟩ (.int .i64 p.rows)) bb #[.int .i64 num, .int .i64 p.rows, .int .i64 0, .int .i64 0, .int .i64 0, .int .i64 0, .int .i64 0, .int .i64 0, .slice none 0 0, .int .i64 0] 134 := e0.set 1 _
 have e2 : Has (((w5.setCell ⟨bb, 0, none⟩ (.int .i64 num)).setCell ⟨bb, 1, none⟩ (.int .i64 p.rows)).setCell ⟨bb, 2, none⟩ (.int .i64 p.cols)) bb #[.int .i64 num, .int .i64 p.rows, .int .i64 p.cols, .int .i64 0, .int .i64 0, .int .i64 0, .int .i64 0, .int .i64 0, .slice none 0 0, .int .i64 0] 134 := e1.set 2 _
 have e3 : Has ((((w5.setCell ⟨bb, 0, none⟩ (.int .i64 num)).setCell ⟨bb, 1, none⟩ (.int .i64 p.rows)).setCell ⟨bb, 2, none⟩ (.int .i64 p.cols)).setCell ⟨bb, 3, none⟩ (.int .i64 p.front)) bb #[.int .i64 num, .int .i64 p.rows, .int .i64 p.cols, .int .i64 p.front, .int .i64 0, .int .i64 0, .int .i64 0, .int .i64 0, .slice none 0 0, .int .i64 0] 134 := e2.set 3 _
 have e4 : Has (((((w5.setCell ⟨bb, 0, none⟩ (.int .i64 num)).setCell ⟨bb, 1, none⟩ (.int .i64 p.rows)).setCell ⟨bb, 2, none⟩ (.int .i64 p.cols)).setCell ⟨bb, 3, none⟩ (.int .i64 p.front)).setCell ⟨bb, 4, none⟩ (.int .i64 p.l0)) bb #[.int .i64 num, .int .i64 p.rows, .int .i64 p.cols, .int .i64 p.front, .int .i64 p.l0, .int .i64 0, .int .i64 0, .int .i64 0, .slice none 0 0, .int .i64 0] 134 := e3.set 4 _
 have e5 : Has ((((((w5.setCell ⟨bb, 0, none⟩ (.int .i64 num)).setCell ⟨bb, 1, none⟩ (.int .i64 p.rows)).setCell ⟨bb, 2, none⟩ (.int .i64 p.cols)).setCell ⟨bb, 3, none⟩ (.int .i64 p.front)).setCell ⟨bb, 4, none⟩ (.int .i64 p.l0)).setCell ⟨bb, 5, none⟩ (.int .i64 p.l1)) bb #[.int .i64 num, .int .i64 p.rows, .int .i64 p.cols, .int .i64 p.front, .int .i64 p.l0, .int .i64 p.l1, .int .i64 0, .int .i64 0, .slice none 0 0, .int .i64 0] 134 := e4.set 5 _
 have e6 : Has (((((((w5.setCell ⟨bb, 0, none⟩ (.int .i64 num)).setCell ⟨bb, 1, none⟩ (.int .i64 p.rows)).setCell ⟨bb, 2, none⟩ (.int .i64 p.cols)).setCell ⟨bb, 3, none⟩ (.int .i64 p.front)).setCell ⟨bb, 4, none⟩ (.int .i64 p.l0)).setCell ⟨bb, 5, none⟩ (.int .i64 p.l1)).setCell ⟨bb, 6, none⟩ (.int .i64 p.l2)) bb #[.int .i64 num, .int .i64 p.rows, .int .i64 p.cols, .int .i64 p.front, .int .i64 p.l0, .int .i64 p.l1, .int .i64 p.l2, .int .i64 0, .slice none 0 0, .int .i64 0] 134 := e5.set 6 _
 have e7 : Has ((((((((w5.setCell ⟨bb, 0, none⟩ (.int .i64 num)).setCell ⟨bb, 1, none⟩ (.int .i64 p.rows)).setCell ⟨bb, 2, none⟩ (.int .i64 p.cols)).setCell ⟨bb, 3, none⟩ (.int .i64 p.front)).setCell ⟨bb, 4, none⟩ (.int .i64 p.l0)).setCell ⟨bb, 5, none⟩ (.int .i64 p.l1)).setCell ⟨bb, 6, none⟩ (.int .i64 p.l2)).setCell ⟨bb, 7, none⟩ (.int .i64 p.l3)) bb #[.int .i64 num, .int .i64 p.rows, .int .i64 p.cols, .int .i64 p.front, .int .i64 p.l0, .int .i64 p.l1, .int .i64 p.l2, .int .i64 p.l3, .slice none 0 0, .int .i64 0] 134 := e6.set 7 _
 have e8 : Has (((((((((w5.setCell ⟨bb, 0, none⟩ (.int .i64 num)).setCell ⟨bb, 1, none⟩ (.int .i64 p.rows)).setCell ⟨bb, 2, none⟩ (.int .i64 p.cols)).setCell ⟨bb, 3, none⟩ (.int .i64 p.front)).setCell ⟨bb, 4, none⟩ (.int .i64 p.l0)).setCell ⟨bb, 5, none⟩ (.int .i64 p.l1)).setCell ⟨bb, 6, none⟩ (.int .i64 p.l2)).setCell ⟨bb, 7, none⟩ (.int .i64 p.l3)).setCell ⟨bb, 8, none⟩ (.slice (some ⟨g, 0, none⟩) (emptySeats p).length cap)) bb #[.int .i64 num, .int .i64 p.rows, .int .i64 p.cols, .int .i64 p.front, .int .i64 p.l0, .int .i64 p.l1, .int .i64 p.l2, .int .i64 p.l3, .slice (some ⟨g, 0, none⟩) (emptySeats p).length cap, .int .i64 0] 134 := e7.set 8 _
 have e9 : Has ((((((((((w5.setCell ⟨bb, 0, none⟩ (.int .i64 num)).setCell ⟨bb, 1, none⟩ (.int .i64 p.rows)).setCell ⟨bb, 2, none⟩ (.int .i64 p.cols)).setCell ⟨bb, 3, none⟩ (.int .i64 p.front)).setCell ⟨bb, 4, none⟩ (.int .i64 p.l0)).setCell ⟨bb, 5, none⟩ (.int .i64 p.l1)).setCell ⟨bb, 6, none⟩ (.int .i64 p.l2)).setCell ⟨bb, 7, none⟩ (.int .i64 p.l3)).setCell ⟨bb, 8, none⟩ (.slice (some ⟨g, 0, none⟩) (emptySeats p).length cap)).setCell ⟨bb, 9, none⟩ (.int .i64 1)) bb #[.int .i64 num, .int .i64 p.rows, .int .i64 p.cols, .int .i64 p.front, .int .i64 p.l0, .int .i64 p.l1, .int .i64 p.l2, .int .i64 p.l3, .slice (some ⟨g, 0, none⟩) (emptySeats p).length cap, .int .i64 1] 134 := e8.set 9 _
 refine ⟨e9, m6.has c5 (fun e => hne e.symm), hr.mod m6 hgb, hbb, by have := hm.size; have := h5.size; omega, hne, (hm.trans h5).trans' m6 (fun i hi hl => by omega)⟩
theorem ins_get {α : Type} (xs : List α) (x : α) (n i : Nat) (hn : n ≤ xs.length) (hi : i < (xs.take n ++ x :: xs.drop n).length) :
  (∃ h : i < xs.length, i < n ∧ (xs.take n ++ x :: xs.drop n)[i] = xs[i]) ∨ (i = n ∧ (xs.take n ++ x :: xs.drop n)[i] = x) ∨ (∃ h : i - 1 < xs.length, n < i ∧ (xs.take n ++ x :: xs.drop n)[i] = xs[i - 1]) := by
 have hl : (xs.take n).length = n := by rw [List.length_take]; omega
 have hi' : i < xs.length + 1 := by simp at hi; omega
 rcases Nat.lt_trichotomy i n with h | h | h
 ·refine .inl ⟨by omega, h, ?_⟩
  rw [List.getElem_append_left (by omega), List.getElem_take]
 ·refine .inr (.inl ⟨h, ?_⟩)
  subst h
  rw [List.getElem_append_right (by omega)]
  simp [hl]
 ·refine .inr (.inr ⟨by omega, h, ?_⟩)
  rw [List.getElem_append_right (by omega)]
  obtain ⟨k, hk⟩ : ∃ k, i = n + 1 + k := ⟨i - n - 1, by omega⟩
  subst hk
  simp only [hl, show n + 1 + k - n = k + 1 by omega, List.getElem_cons_succ, List.getElem_drop]
  congr 1
  omega
theorem worR_insert {w w' : World} {ow : Nat → Nat} {wb gf cap' g cap n : Nat} {v : Value} {xs : List FR} {now : Int} (h : WorR w ow wb v xs now) (hm : Mod (fun k => k = wb) w w') (num : Int) (p : Pla) (hn : n ≤ xs.length) (h20 : xs.length < 20)
  (hh : Has w' wb #[.slice (some ⟨gf, 0, none⟩) (xs.length + 1) cap', .int .i64 now] 72) (hr : RowF w' gf cap' (xs.take n ++ addX num p g cap :: xs.drop n)) (hs : RowS w' g cap (emptySeats p))
  (hg : w.heap.size ≤ g) (hgf : w.heap.size ≤ gf) (hne : g ≠ gf) (hwf : Wf p (emptySeats p)) :
  ∃ ow', WorR w' ow' wb (.slice (some ⟨gf, 0, none⟩) (xs.length + 1) cap') (xs.take n ++ addX num p g cap :: xs.drop n) now ∧ ∀ k, ow' k ≠ 0 → ow k ≠ 0 ∨ w.heap.size ≤ k := by
 have hlen : (xs.take n ++ addX num p g cap :: xs.drop n).length = xs.length + 1 := by simp; omega
 refine ⟨fun k => if k = gf then 2 else if k = g then n + 3 else if ow k = 2 then 0 else if n + 3 ≤ ow k then ow k + 1 else ow k, ⟨hh, .inr ⟨gf, cap', by rw [hlen], hr, by simp only [if_pos]⟩, ?_, fun k hk => ?_, fun i hi => ?_, by rw [hlen]; omega⟩, fun k hk => ?_⟩
 ·have hw := h.old wb (by rw [h.mine]; omega)
  have e := h.mine
  rw [if_neg (by omega), if_neg (by omega), if_neg (by omega), if_neg (by omega), e]
 ·by_cases e1 : k = gf
  ·subst e1; obtain ⟨cur, q, _⟩ := hr.cur; exact q.lt
  ·by_cases e2 : k = g
   ·subst e2; exact hs.lt
   ·rw [if_neg e1, if_neg e2] at hk
    have : ow k ≠ 0 := by
     intro e
     rw [e] at hk
     simp at hk
    exact Nat.lt_of_lt_of_le (h.old k this) hm.size
 ·have hbig : ∀ j (hj : j < xs.length), xs[j].g < w.heap.size ∧ ow xs[j].g = j + 3 := fun j hj => ⟨h.old _ (by rw [(h.seats j hj).2.1]; omega), (h.seats j hj).2.1⟩
  have hwbne : ∀ j (hj : j < xs.length), ¬ xs[j].g = wb := fun j hj e => by have := (hbig j hj).2; rw [e, h.mine] at this; omega
  rcases ins_get xs (addX num p g cap) n i hn hi with ⟨h1, h2, h3⟩ | ⟨h2, h3⟩ | ⟨h1, h2, h3⟩
  ·rw [h3]
   obtain ⟨q1, q2, q3⟩ := h.seats i h1
   refine ⟨q1.mod hm (hwbne i h1), ?_, q3⟩
   have := hbig i h1
   rw [if_neg (by omega), if_neg (by omega), if_neg (by omega), if_neg (by omega)]
   exact this.2
  ·rw [h3]
   refine ⟨hs, ?_, hwf⟩
   show (if g = gf then 2 else if g = g then n + 3 else if ow g = 2 then 0 else if n + 3 ≤ ow g then ow g + 1 else ow g) = i + 3
   rw [if_neg hne, if_pos rfl, h2]
  ·rw [h3]
   obtain ⟨q1, q2, q3⟩ := h.seats (i - 1) h1
   refine ⟨q1.mod hm (hwbne (i - 1) h1), ?_, q3⟩
   have := hbig (i - 1) h1
   rw [if_neg (by omega), if_neg (by omega), if_neg (by omega), if_pos (by omega)]
   omega
 ·by_cases e1 : k = gf
  ·right; omega
  ·by_cases e2 : k = g
   ·right; omega
   ·have hk : (if k = gf then 2 else if k = g then n + 3 else if ow k = 2 then 0 else if n + 3 ≤ ow k then ow k + 1 else ow k) ≠ 0 := hk
    rw [if_neg e1, if_neg e2] at hk
    left
    intro e
    rw [e] at hk
    simp at hk
theorem friL_one (l : List FR) : ∀ u ∈ l.flatMap friL, u.oneCell' = true := by
 intro u hu
 obtain ⟨x, _, hx⟩ := List.mem_flatMap.1 hu
 simp [friL, friV] at hx
 rcases hx with rfl | rfl | rfl | rfl | rfl | rfl | rfl | rfl | rfl | rfl <;> rfl
theorem reads_take {w : World} {gf cap : Nat} {xs : List FR} (h : RowF w gf cap xs) (i : Nat) (hi : i ≤ xs.length) (c : Nat) : Reads w (.slice (some ⟨gf, 0, none⟩) i c) i ((xs.take i).flatMap friL) :=
 .inr ⟨⟨gf, 0, none⟩, c, rfl, fun j u hu => by
  have hj : j < ((xs.take i).flatMap friL).length := (List.getElem?_eq_some_iff.1 hu).1
  rw [flat_len 10 friL friL_len, List.length_take] at hj
  have hk : j / 10 < i := by omega
  have e : j = j / 10 * 10 + j % 10 := by omega
  rw [e, flat_at 10 (by omega) friL friL_len (xs.take i) (j / 10) (by rw [List.length_take]; omega) (j % 10) (by omega), List.getElem_take] at hu
  rw [Addr.add_mid, Nat.zero_add, e, h.cell (j / 10) (by omega) (j % 10) (by omega), ← Array.getElem?_toList]
  exact hu⟩
theorem reads_drop {w : World} {gf cap : Nat} {xs : List FR} (h : RowF w gf cap xs) (i : Nat) (hi : i ≤ xs.length) (c : Nat) : Reads w (.slice (some ⟨gf, i * 10, none⟩) (xs.length - i) c) (xs.length - i) ((xs.drop i).flatMap friL) :=
 .inr ⟨⟨gf, i * 10, none⟩, c, rfl, fun j u hu => by
  have hj : j < ((xs.drop i).flatMap friL).length := (List.getElem?_eq_some_iff.1 hu).1
  rw [flat_len 10 friL friL_len, List.length_drop] at hj
  have hk : j / 10 < xs.length - i := by omega
  have e : j = j / 10 * 10 + j % 10 := by omega
  rw [e, flat_at 10 (by omega) friL friL_len (xs.drop i) (j / 10) (by rw [List.length_drop]; omega) (j % 10) (by omega), List.getElem_drop] at hu
  rw [Addr.add_mid, e, show i * 10 + (j / 10 * 10 + j % 10) = (i + j / 10) * 10 + j % 10 by omega, h.cell (i + j / 10) (by omega) (j % 10) (by omega), ← Array.getElem?_toList]
  exact hu⟩
theorem reads_drop0 {w : World} {gf : Nat} {xs : List FR} (i : Nat) (hi : i = xs.length) (c : Nat) : Reads w (.slice (some ⟨gf, 0, none⟩) (xs.length - i) c) (xs.length - i) ((xs.drop i).flatMap friL) :=
 .inr ⟨⟨gf, 0, none⟩, c, rfl, fun j u hu => by
  rw [hi, List.drop_length] at hu
  simp at hu⟩
theorem reads_fr (w : World) (T : TypeId) (x : FR) : Reads (w.alloc (.cells (friV x) T)) (.slice (some ⟨w.heap.size, 0, none⟩) 1 1) 1 (friL x) :=
 .inr ⟨⟨w.heap.size, 0, none⟩, 1, rfl, fun j u hu => by
  have hN := Has.new w (friV x) T
  rw [Addr.add_mid, Nat.zero_add, hN.cell, ← Array.getElem?_toList]
  exact hu⟩
theorem step_call2 {P : Program} {ops : Array Oper} {o : Oper} {a : Act} {w : World} {K : Act → World → Prop} {Q : Exit → Act → World → Prop} {E : Prop}
  (hg : o.guard = none) (f : FuncId) (args : Array Operand) (tys : Array TypeId) (hop : o.op = Op.call { callee := Callee.value (Operand.func f), args := args, argTypes := tys })
  (vs : Array Value) (hvs : args.map a.eval = vs) (hcf : ∀ W, (callFunc f vs).run P W = .ok (.enter f vs) W) (R : Value → World → Prop) (hc : Calls P f vs w fun e w' => ∃ v, e = .returned v ∧ R v w')
  (hK : ∀ v w', R v w' → K (a.put o.dst v) w') : if Region.wanted o (yielded ops a.tmps) = true then Oper.wp P o a w K Q else E := by
 have hw : Region.wanted o (yielded ops a.tmps) = true := by simp [Region.wanted, hg]
 rw [if_pos hw]
 unfold Oper.wp execOp
 simp [go_sem, hop, hvs]
 rw [hcf]
 simp [go_sem]
 refine hc.mono ?_
 rintro e w' ⟨v, rfl, hr⟩
 exact hK _ _ hr
theorem stays_new {w : World} {v : Value} (h : Stays w (.slice none 0 0) v) : ∀ k, v.ownBlock = some k → No k ∨ w.heap.size ≤ k := fun k hk => by
 rcases h k hk with h | h
 ·simp [Value.ownBlock] at h
 ·exact .inr h
theorem stays_new2 {a w : World} {v v' : Value} (h : ∀ k, v.ownBlock = some k → No k ∨ a.heap.size ≤ k) (hm : a.heap.size ≤ w.heap.size) (hs : Stays w v v') : ∀ k, v'.ownBlock = some k → No k ∨ a.heap.size ≤ k := fun k hk => by
 rcases hs k hk with e | e
 ·exact h k e
 ·exact .inr (by omega)
structure AddedP (w w' : World) (ow : Nat → Nat) (wb : Nat) (xs : List FR) (now : Int) (num : Int) (p : Pla) : Prop where
 mod : Mod (fun k => k = wb) w w'
 ex : ∃ v' n g cap ow', n ≤ xs.length ∧ (∀ j (hj : j < xs.length), j < n → xs[j].f.num < num) ∧ (∀ hj : n < xs.length, ¬ xs[n].f.num < num) ∧ WorR w' ow' wb v' (xs.take n ++ addX num p g cap :: xs.drop n) now ∧ ∀ k, ow' k ≠ 0 → ow k ≠ 0 ∨ w.heap.size ≤ k
theorem added_end {w wc : World} {ow : Nat → Nat} {wb bb b0 g cap i : Nat} {v0 : Value} {xs : List FR} {now flight : Int} {pl : Pla} {cs : Array Value} (h : WorR w ow wb v0 xs now) (hI : AddI w wc flight pl cs bb b0 g cap) (hwf : Wf pl (emptySeats pl)) (hi : i ≤ xs.length) (h20 : xs.length < 20)
  (w7 : World) (v3 : Value) (hm : Mod No wc w7) (hv : ∀ k, v3.ownBlock = some k → No k ∨ wc.heap.size ≤ k) (n3 : Nat) (l3 : List Value) (hl : l3 = (xs.take i ++ addX flight pl g cap :: xs.drop i).flatMap friL) (hn : n3 = xs.length + 1) (ho : w7.ownsRow 0 134 10 v3 n3 l3) :
  Mod (fun k => k = wb) w (w7.setCell ⟨wb, 0, none⟩ v3) ∧ ∃ v' n g cap ow', n ≤ xs.length ∧ n = i ∧ WorR (w7.setCell ⟨wb, 0, none⟩ v3) ow' wb v' (xs.take n ++ addX flight pl g cap :: xs.drop n) now ∧ ∀ k, ow' k ≠ 0 → ow k ≠ 0 ∨ w.heap.size ≤ k := by
 subst hl hn
 have hlen : (xs.take i ++ addX flight pl g cap :: xs.drop i).length = xs.length + 1 := by simp; omega
 rw [← hlen] at ho
 have hW := hI.mod.trans hm
 have hM : Mod (fun k => k = wb) w (w7.setCell ⟨wb, 0, none⟩ v3) := (hW.mono (fun _ _ x => x.elim)).at 0 v3
 obtain ⟨gf, c', rfl⟩ : ∃ gf c', v3 = .slice (some ⟨gf, 0, none⟩) (xs.take i ++ addX flight pl g cap :: xs.drop i).length c' := by
  obtain ⟨_, h1 | ⟨g', cap', cur, hv', _⟩⟩ := ho
  ·rw [hlen] at h1; omega
  ·exact ⟨g', cap', hv'⟩
 have hr := (rowF_of ho).2
 have hgf : wc.heap.size ≤ gf := by
  rcases hv gf rfl with e | e
  ·exact e.elim
  ·exact e
 have hglt := hI.row.lt
 have hwlt := hI.mod.size
 have hb : wb < w.heap.size := h.has.lt
 have hng := hI.ng
 have hh := (hW.has h.has (fun x => x)).set 0 (.slice (some ⟨gf, 0, none⟩) (xs.take i ++ addX flight pl g cap :: xs.drop i).length c')
 have hx : Has (w7.setCell ⟨wb, 0, none⟩ (.slice (some ⟨gf, 0, none⟩) (xs.take i ++ addX flight pl g cap :: xs.drop i).length c')) wb #[.slice (some ⟨gf, 0, none⟩) (xs.length + 1) c', .int .i64 now] 72 := by
  rw [hlen] at hh ⊢
  exact hh
 have m7 : Mod (fun k => k = wb) w7 (w7.setCell ⟨wb, 0, none⟩ (.slice (some ⟨gf, 0, none⟩) (xs.take i ++ addX flight pl g cap :: xs.drop i).length c')) := (Mod.refl _ w7).at 0 _
 obtain ⟨ow', q1, q2⟩ := worR_insert h hM flight pl hi h20 hx (hr.mod m7 (by omega)) ((hI.row.mod hm (fun x => x)).mod m7 (by omega)) hng (by omega) (by omega) hwf
 exact ⟨hM, _, i, g, cap, ow', hi, rfl, q1, q2⟩
theorem added_row {w : World} {ow : Nat → Nat} {wb gf0 cap0 : Nat} {xs : List FR} {now : Int} (h : WorR w ow wb (.slice (some ⟨gf0, 0, none⟩) xs.length cap0) xs now) (hne : 0 < xs.length) (c : Cmd) (hf : findN xs c.flight = -1) (hp1 : c.pla.sized = true) (hp2 : c.pla.limited = true) (h20 : xs.length < 20) :
  Calls Tryz.prog 53 #[.pointer (some ⟨wb, 0, none⟩), .agg (cmdCells c)] w fun e w' => e = .returned (.int .i64 0) ∧ AddedP w w' ow wb xs now c.flight c.pla := by
 have HF := (h.mod ((Mod.refl No w).alloc (.cells (cmdCells c) 41)) (fun _ _ x => x)).find c.flight
 rw [hf] at HF
 have HF := hide HF
 have HS := hide fun W => rsized_any c.pla W
 have HL := hide fun W => rlimited_any c.pla W
 have HE := hide fun W => (show Calls Tryz.prog 84 #[plaV c.pla] W fun e w' => ∃ v, e = .returned v ∧ ∃ g cap, v = .slice (some ⟨g, 0, none⟩) (emptySeats c.pla).length cap ∧ RowS w' g cap (emptySeats c.pla) ∧ W.heap.size < g ∧ Mod No W w' from
  (rempty_any c.pla hp1 W).mono fun e w' ⟨g, cap, h1, h2⟩ => ⟨_, h1, g, cap, rfl, h2⟩)
 have HWF := hide (empty_wf hp1 hp2)
 have M0 := hide ((Mod.refl No w).alloc (.cells (cmdCells c) 41))
 have B0 := hide (Has.new w (cmdCells c) 41)
 rw [hp1] at HS
 rw [hp2] at HL
 obtain ⟨og, rf⟩ := h.parts rfl hne
 have RF := hide rf
 have H := hide h
 obtain ⟨kind, flight, ar, ac, tr, tc, party, cls, time, pl⟩ := c
 simp only at *
 clear h hf hp1 hp2 rf og
 unfold plaV at HS HL HE
 unfold cmdCells at *
 go_enter Tryz.func53, Tryz.ntmps53
 go_wp2_with fail
 refine (unhide HF).mono ?_
 rintro e w1 ⟨rfl, rfl⟩
 have hb := (unhide B0).cell
 have lb := (unhide B0).lt
 go_wp2_with fail
 refine ((unhide HS) _).mono ?_
 rintro e w2 ⟨rfl, m2⟩
 have hb2 := (m2.has (unhide B0) (fun x => x)).cell
 have lb2 := (m2.has (unhide B0) (fun x => x)).lt
 clear hb lb
 go_wp2_with fail
 refine ((unhide HL) _).mono ?_
 rintro e w3 ⟨rfl, m3⟩
 have M3 := hide (((unhide M0).trans m2).trans m3)
 have B3 := hide (m3.has (m2.has (unhide B0) (fun x => x)) (fun x => x))
 clear hb2 lb2 m2 m3 B0 M0 HF HS HL
 generalize w.heap.size = b0 at *
 have hb3 := (unhide B3).cell
 have lb3 := (unhide B3).lt
 go_upto_region 8 with fail
 go_cut [8] (fun s8 wx => ∃ bb g cap, s8 = .pointer (some ⟨bb, 0, none⟩) ∧ Hid (AddI w wx flight pl #[.int .i64 kind, .int .i64 flight, .int .i64 ar, .int .i64 ac, .int .i64 tr, .int .i64 tc, .int .i64 party, .int .i64 cls, .int .i64 time, .int .i64 pl.rows, .int .i64 pl.cols, .int .i64 pl.front, .int .i64 pl.l0, .int .i64 pl.l1, .int .i64 pl.l2, .int .i64 pl.l3] bb b0 g cap))
 case first =>
  have B3d := hide (unhide B3).drew
  have M3d := hide (unhide M3).drew
  have mz : Mod No w3 ((w3.alloc (.cells #[.int .i64 0, .int .i64 0, .int .i64 0, .int .i64 0, .int .i64 0, .int .i64 0, .int .i64 0, .int .i64 0, .slice none 0 0, .int .i64 0] 134)).drew) := ((Mod.refl _ w3).alloc _).drew
  have B3z := hide (mz.has (unhide B3) (fun x => x))
  have M3z := hide ((unhide M3).trans mz)
  have Z3z := hide (Has.new w3 #[.int .i64 0, .int .i64 0, .int .i64 0, .int .i64 0, .int .i64 0, .int .i64 0, .int .i64 0, .int .i64 0, .slice none 0 0, .int .i64 0] 134).drew
  have LZ := hide (show b0 ≤ w3.heap.size from Nat.le_of_lt lb3)
  clear mz
  go_region_law (first
   |(refine step_call2 rfl 84 _ _ rfl #[.agg #[.int .i64 pl.rows, .int .i64 pl.cols, .int .i64 pl.front, .int .i64 pl.l0, .int .i64 pl.l1, .int .i64 pl.l2, .int .i64 pl.l3]] (by simp [Act.eval, Act.put]) (fun W => by kernel_rfl) _ ((unhide HE) w3.drew) ?_; rintro v5 w5 ⟨g5, cap5, rfl, h5, z5, m5⟩; have hb5 := (m5.has (unhide B3d) (fun x => x)).cell; have lb5 := (m5.has (unhide B3d) (fun x => x)).lt)
   |(refine step_call2 rfl 84 _ _ rfl #[.agg #[.int .i64 pl.rows, .int .i64 pl.cols, .int .i64 pl.front, .int .i64 pl.l0, .int .i64 pl.l1, .int .i64 pl.l2, .int .i64 pl.l3]] (by simp [Act.eval, Act.put]) (fun W => by kernel_rfl) _ ((unhide HE) _) ?_; rintro v5 w5 ⟨g5, cap5, rfl, h5, z5, m5⟩; have hb5 := (m5.has (unhide B3z) (fun x => x)).cell; have lb5 := (m5.has (unhide B3z) (fun x => x)).lt; have zb5 := (m5.has (unhide Z3z) (fun x => x)).cell; have zf5 := (m5.has (unhide Z3z) (fun x => x)).frozen; have zl5 := (m5.has (unhide Z3z) (fun x => x)).lt))
  all_goals go_wp2
  all_goals go_meet
  all_goals first
   | with_reducible exact ⟨_, g5, cap5, rfl, hide (AddI.made (unhide M3d) m5 (unhide B3d) h5 z5)⟩
   | with_reducible exact ⟨_, g5, cap5, rfl, hide (AddI.made2 (unhide M3z) m5 (unhide B3z) (unhide Z3z) (unhide M3).size h5 z5)⟩
 case rest =>
  obtain ⟨bb, g, cap, rfl, I1⟩ := hcut
  obtain ⟨i126, r0, r1, r2, r3⟩ := info_parts info157
  clear B3 M3 HE hb3 lb3
  apply_assumption
  go_upto_block 0 with fail
  go_cut [9] (fun s9 wx => ∃ i : Nat, s9 = .int .i64 i ∧ i ≤ xs.length ∧ Hid (∀ j (hj : j < xs.length), j < i → xs[j].f.num < flight) ∧ Hid (∀ hj : i < xs.length, ¬ xs[i].f.num < flight) ∧ Hid (AddI w wx flight pl #[.int .i64 kind, .int .i64 flight, .int .i64 ar, .int .i64 ac, .int .i64 tr, .int .i64 tc, .int .i64 party, .int .i64 cls, .int .i64 time, .int .i64 pl.rows, .int .i64 pl.cols, .int .i64 pl.front, .int .i64 pl.l0, .int .i64 pl.l1, .int .i64 pl.l2, .int .i64 pl.l3] bb b0 g cap))
  case first =>
   go_wp2_with fail
   go_loopw [9] (fun s9 wr => ∃ i : Nat, s9 = .int .i64 i ∧ i ≤ xs.length ∧ Hid (∀ j (hj : j < xs.length), j < i → xs[j].f.num < flight) ∧ Hid (AddI w wr flight pl #[.int .i64 kind, .int .i64 flight, .int .i64 ar, .int .i64 ac, .int .i64 tr, .int .i64 tc, .int .i64 party, .int .i64 cls, .int .i64 time, .int .i64 pl.rows, .int .i64 pl.cols, .int .i64 pl.front, .int .i64 pl.l0, .int .i64 pl.l1, .int .i64 pl.l2, .int .i64 pl.l3] bb b0 g cap)) (fun s9 _ => xs.length - (intOf s9).toNat)
   case atStart => exact ⟨0, rfl, by omega, fun j hj h => absurd h (Nat.not_lt_zero _), I1⟩
   case round =>
    obtain ⟨i, rfl, hi, HLO, I2⟩ := hrel
    clear I1
    have vb : wr.cell? ⟨wb, 0, none⟩ = some (.slice (some ⟨gf0, 0, none⟩) xs.length cap0) := ((unhide I2).mod.has (unhide H).has (fun x => x)).cell 0
    have cb : wr.cell? ⟨b0, 1, none⟩ = some (.int .i64 flight) := (unhide I2).cmd.cell 1
    have cl := (unhide I2).cmd.lt
    have vl := ((unhide I2).mod.has (unhide H).has (fun x => x)).lt
    have h0i : (0 : Int) ≤ i := by omega
    by_cases hix : i < xs.length
    ·have hixi : (i : Int) < (xs.length : Int) := by omega
     have hd0 : decide ((i : Int) < (xs.length : Int)) = true := by simpa using hixi
     have hi1 : IntKind.i64.wrap ((i : Int) + 1) = ((i + 1 : Nat) : Int) := by rw [wrap_id _ (by omega) (by omega)]; rfl
     have rf1 := (unhide RF).mod (unhide I2).mod (fun x => x)
     have g0 : wr.cell? ⟨gf0, i * 10, none⟩ = some (.int .i64 xs[i].f.num) := rf1.cell i hix 0 (by omega)
     by_cases hlt : xs[i].f.num < flight
     ·have hd1 : decide (xs[i].f.num < flight) = true := by simpa using hlt
      have HLO2 := hide (show ∀ j (hj : j < xs.length), j < i + 1 → xs[j].f.num < flight from fun j hj hji => by
       by_cases e : j = i
       ·subst e; exact hlt
       ·exact (unhide HLO) j hj (by omega))
      clear rf1 HLO
      go_wp2_with fail
      go_quiet (fail)
      go_wp2
      exact ⟨⟨i + 1, rfl, by omega, HLO2, (unhide I2).still ((Mod.refl No _).drewN _)⟩, by simp [intOf]; omega⟩
     ·have hd1 : decide (xs[i].f.num < flight) = false := by simpa using hlt
      have HHI := hide (show ∀ hj : i < xs.length, ¬ xs[i].f.num < flight from fun _ => hlt)
      clear rf1
      go_wp2_with fail
      go_quiet (fail)
      go_wp2
      go_meet
      exact ⟨i, rfl, by omega, HLO, HHI, (unhide I2).still ((Mod.refl No _).drewN _)⟩
    ·have hixi : ¬ (i : Int) < (xs.length : Int) := by omega
     have hd0 : decide ((i : Int) < (xs.length : Int)) = false := by simpa using hixi
     have HHI := hide (show ∀ hj : i < xs.length, ¬ xs[i].f.num < flight from fun hj => absurd hj hix)
     go_wp2_with fail
     go_quiet (fail)
     go_wp2
     go_meet
     exact ⟨i, rfl, by omega, HLO, HHI, (unhide I2).still ((Mod.refl No _).drewN _)⟩
  case rest =>
   obtain ⟨i, rfl, hi, HLO, HHI, I2⟩ := hcut
   have vb := ((unhide I2).mod.has (unhide H).has (fun x => x)).cell 0
   have vl := ((unhide I2).mod.has (unhide H).has (fun x => x)).lt
   have h0i : (0 : Int) ≤ i := by omega
   have hii : (i : Int) ≤ (xs.length : Int) := by omega
   have hcap := (unhide RF).le
   have hic : (i : Int) ≤ (cap0 : Int) := by omega
   have hicn : i ≤ cap0 := by omega
   clear I1
   have I3 := I2
   have RFW := hide ((unhide RF).mod (unhide I2).mod (fun x => x))
   go_upto_region 13 with fail
   have HREAD := hide (reads_take (unhide RFW) i hi cap0)
   have HONE := hide (friL_one (xs.take i))
   have HLEN := hide (show ((xs.take i).flatMap friL).length = i * 10 from by rw [flat_len 10 friL friL_len, List.length_take, Nat.min_eq_left hi])
   have HX1 := hide (show ∀ u ∈ friL (addX flight pl g cap), u.oneCell' = true from fun u hu => friL_one [addX flight pl g cap] u (by simpa using hu))
   go_upto_region 15 with (first
    |(at_builtin; refine wpList_append_row rfl (.tmp 59) (.tmp 65) 70 rfl 134 i126 _ 10 96 Tryz.underlying70 r0 r1 r2 r3 rfl (by decide) (.slice none 0 0) 0 [] (by simp [Act.eval]) (by exact World.ownsRow_nil _ _ _ _) (.slice (some ⟨gf0, 0, none⟩) i cap0) i ((xs.take i).flatMap friL) (by simp [Act.eval]) (by exact unhide HREAD) (unhide HLEN) (unhide HONE) (by unfold maxLen; omega) (by omega) ?_; intro v1 w4 ho4 hg4 hs4;
      rw [Nat.zero_add, List.nil_append] at ho4; have HO4 := hide ho4; have HS4 := hide hs4; have M4 := hide ((Mod.refl No _).grown hg4 (by simp [Value.ownBlock])); clear ho4 hg4 hs4; have I4 := hide ((unhide I3).still (unhide M4)); have bx4 := (unhide I4).box.cell; have bl4 := (unhide I4).box.lt; unfold friV addX at bx4; have m5 : Mod No w4 (w4.alloc (.cells (friV (addX flight pl g cap)) 134)) := (Mod.refl _ _).alloc _; have HO5 := hide (m5.owns (unhide HO4) (fun _ _ x => x)); have HR5 := hide (reads_fr w4 134 (addX flight pl g cap)); clear m5 I4)
    |(at_builtin; refine wpList_append_row rfl (.tmp 67) (.tmp 69) 70 rfl 134 i126 _ 10 96 Tryz.underlying70 r0 r1 r2 r3 rfl (by decide) v1 i ((xs.take i).flatMap friL) (by simp [Act.eval]) (by exact unhide HO5) (.slice (some ⟨w4.heap.size, 0, none⟩) 1 1) 1 (friL (addX flight pl g cap)) (by simp [Act.eval]) (by exact unhide HR5) rfl (unhide HX1) (by unfold maxLen; omega) (by omega) ?_; intro v2 w6 ho6 hg6 hs6;
      clear bx4 bl4; obtain ⟨a2, c2, rfl⟩ := slice_of_owns ho6; have HO6 := hide ho6; have HS6 := hide hs6; have M6 := hide (((unhide M4).alloc _).grown hg6 (stays_new (unhide HS4))); clear ho6 hg6 hs6; have W6 := (unhide I3).mod.trans (unhide M6); have vb6 : w6.cell? ⟨wb, 0, none⟩ = some (.slice (some ⟨gf0, 0, none⟩) xs.length cap0) := (W6.has (unhide H).has (fun x => x)).cell 0; have vf6 := (W6.has (unhide H).has (fun x => x)).frozen; have vl6 := (W6.has (unhide H).has (fun x => x)).lt; have HR6 := hide (reads_drop ((unhide RF).mod W6 (fun x => x)) i hi (cap0 - i)); clear W6))
   have HONE2 := hide (friL_one (xs.drop i))
   have HLEN2 := hide (show ((xs.drop i).flatMap friL).length = (xs.length - i) * 10 from by rw [flat_len 10 friL friL_len, List.length_drop])
   have SN6 := hide (stays_new2 (stays_new (unhide HS4)) (by have := (unhide M4).size; simp; omega) (unhide HS6))
   have FIN := hide (added_end (xs := xs) (now := now) (ow := ow) (i := i) (unhide H) (unhide I3) (unhide HWF) hi h20)
   by_cases hci : cap0 = i
   ·have HR7 := hide (reads_drop0 (w := w6) (gf := gf0) (xs := xs) i (by omega) 0)
    go_wp2_with (at_builtin; refine wpList_append_row rfl (.tmp 72) (.tmp 78) 70 rfl 134 i126 _ 10 96 Tryz.underlying70 r0 r1 r2 r3 rfl (by decide) (.slice a2 (i + 1) c2) (i + 1) ((xs.take i).flatMap friL ++ friL (addX flight pl g cap)) (by simp [Act.eval]) (by exact unhide HO6) (.slice (some ⟨gf0, 0, none⟩) (xs.length - i) 0) (xs.length - i) ((xs.drop i).flatMap friL) (by simp [Act.eval]) (by exact unhide HR7) (unhide HLEN2) (unhide HONE2) (by unfold maxLen; omega) (by omega) ?_; intro v3 w7 ho7 hg7 hs7; obtain ⟨a3, c3, rfl⟩ := slice_of_owns ho7; have HO7 := hide ho7; have HS7 := hide hs7; have M7 := hide ((unhide M6).grown hg7 (unhide SN6)); clear ho7 hg7 hs7 vb6 vf6 vl6; have hw7 := ((unhide I3).mod.trans (unhide M7)).has (unhide H).has (fun x => x); have vb7 := hw7.cell 0; have vf7 := hw7.frozen; have vl7 := hw7.lt; clear hw7)
    go_ret
    obtain ⟨q1, v', n', g', cap', ow', q2, rfl, q3, q4⟩ := (unhide FIN) w7 _ (unhide M7) (stays_new2 (unhide SN6) (unhide M6).size (unhide HS7)) _ _ (by simp) (by omega) (unhide HO7)
    exact ⟨rfl, ⟨q1, v', n', g', cap', ow', q2, unhide HLO, fun hj => by have := unhide HHI hj; omega, q3, q4⟩⟩
   ·go_wp2_with (at_builtin; refine wpList_append_row rfl (.tmp 72) (.tmp 78) 70 rfl 134 i126 _ 10 96 Tryz.underlying70 r0 r1 r2 r3 rfl (by decide) (.slice a2 (i + 1) c2) (i + 1) ((xs.take i).flatMap friL ++ friL (addX flight pl g cap)) (by simp [Act.eval]) (by exact unhide HO6) (.slice (some ⟨gf0, i * 10, none⟩) (xs.length - i) (cap0 - i)) (xs.length - i) ((xs.drop i).flatMap friL) (by simp [Act.eval]) (by exact unhide HR6) (unhide HLEN2) (unhide HONE2) (by unfold maxLen; omega) (by omega) ?_; intro v3 w7 ho7 hg7 hs7; obtain ⟨a3, c3, rfl⟩ := slice_of_owns ho7; have HO7 := hide ho7; have HS7 := hide hs7; have M7 := hide ((unhide M6).grown hg7 (unhide SN6)); clear ho7 hg7 hs7 vb6 vf6 vl6; have hw7 := ((unhide I3).mod.trans (unhide M7)).has (unhide H).has (fun x => x); have vb7 := hw7.cell 0; have vf7 := hw7.frozen; have vl7 := hw7.lt; clear hw7)
    go_ret
    obtain ⟨q1, v', n', g', cap', ow', q2, rfl, q3, q4⟩ := (unhide FIN) w7 _ (unhide M7) (stays_new2 (unhide SN6) (unhide M6).size (unhide HS7)) _ _ (by simp) (by omega) (unhide HO7)
    exact ⟨rfl, ⟨q1, v', n', g', cap', ow', q2, unhide HLO, fun hj => by have := unhide HHI hj; omega, q3, q4⟩⟩
theorem added_nil {w : World} {ow : Nat → Nat} {wb : Nat} {now : Int} (h : WorR w ow wb (.slice none 0 0) [] now) (c : Cmd) (hf : findN [] c.flight = -1) (hp1 : c.pla.sized = true) (hp2 : c.pla.limited = true) :
  Calls Tryz.prog 53 #[.pointer (some ⟨wb, 0, none⟩), .agg (cmdCells c)] w fun e w' => e = .returned (.int .i64 0) ∧ AddedP w w' ow wb [] now c.flight c.pla := by
 have HF := (h.mod ((Mod.refl No w).alloc (.cells (cmdCells c) 41)) (fun _ _ x => x)).find c.flight
 rw [hf] at HF
 have HF := hide HF
 have HS := hide fun W => rsized_any c.pla W
 have HL := hide fun W => rlimited_any c.pla W
 have HE := hide fun W => (show Calls Tryz.prog 84 #[plaV c.pla] W fun e w' => ∃ v, e = .returned v ∧ ∃ g cap, v = .slice (some ⟨g, 0, none⟩) (emptySeats c.pla).length cap ∧ RowS w' g cap (emptySeats c.pla) ∧ W.heap.size < g ∧ Mod No W w' from
  (rempty_any c.pla hp1 W).mono fun e w' ⟨g, cap, h1, h2⟩ => ⟨_, h1, g, cap, rfl, h2⟩)
 have HWF := hide (empty_wf hp1 hp2)
 have M0 := hide ((Mod.refl No w).alloc (.cells (cmdCells c) 41))
 have B0 := hide (Has.new w (cmdCells c) 41)
 rw [hp1] at HS
 rw [hp2] at HL
 have H := hide h
 obtain ⟨kind, flight, ar, ac, tr, tc, party, cls, time, pl⟩ := c
 simp only at *
 clear h hf hp1 hp2
 unfold plaV at HS HL HE
 unfold cmdCells at *
 go_enter Tryz.func53, Tryz.ntmps53
 go_wp2_with fail
 refine (unhide HF).mono ?_
 rintro e w1 ⟨rfl, rfl⟩
 have hb := (unhide B0).cell
 have lb := (unhide B0).lt
 go_wp2_with fail
 refine ((unhide HS) _).mono ?_
 rintro e w2 ⟨rfl, m2⟩
 have hb2 := (m2.has (unhide B0) (fun x => x)).cell
 have lb2 := (m2.has (unhide B0) (fun x => x)).lt
 clear hb lb
 go_wp2_with fail
 refine ((unhide HL) _).mono ?_
 rintro e w3 ⟨rfl, m3⟩
 have M3 := hide (((unhide M0).trans m2).trans m3)
 have B3 := hide (m3.has (m2.has (unhide B0) (fun x => x)) (fun x => x))
 clear hb2 lb2 m2 m3 B0 M0 HF HS HL
 generalize w.heap.size = b0 at *
 have hb3 := (unhide B3).cell
 have lb3 := (unhide B3).lt
 go_upto_region 8 with fail
 go_cut [8] (fun s8 wx => ∃ bb g cap, s8 = .pointer (some ⟨bb, 0, none⟩) ∧ Hid (AddI w wx flight pl #[.int .i64 kind, .int .i64 flight, .int .i64 ar, .int .i64 ac, .int .i64 tr, .int .i64 tc, .int .i64 party, .int .i64 cls, .int .i64 time, .int .i64 pl.rows, .int .i64 pl.cols, .int .i64 pl.front, .int .i64 pl.l0, .int .i64 pl.l1, .int .i64 pl.l2, .int .i64 pl.l3] bb b0 g cap))
 case first =>
  have B3d := hide (unhide B3).drew
  have M3d := hide (unhide M3).drew
  have mz : Mod No w3 ((w3.alloc (.cells #[.int .i64 0, .int .i64 0, .int .i64 0, .int .i64 0, .int .i64 0, .int .i64 0, .int .i64 0, .int .i64 0, .slice none 0 0, .int .i64 0] 134)).drew) := ((Mod.refl _ w3).alloc _).drew
  have B3z := hide (mz.has (unhide B3) (fun x => x))
  have M3z := hide ((unhide M3).trans mz)
  have Z3z := hide (Has.new w3 #[.int .i64 0, .int .i64 0, .int .i64 0, .int .i64 0, .int .i64 0, .int .i64 0, .int .i64 0, .int .i64 0, .slice none 0 0, .int .i64 0] 134).drew
  have LZ := hide (show b0 ≤ w3.heap.size from Nat.le_of_lt lb3)
  clear mz
  go_region_law (first
   |(refine step_call2 rfl 84 _ _ rfl #[.agg #[.int .i64 pl.rows, .int .i64 pl.cols, .int .i64 pl.front, .int .i64 pl.l0, .int .i64 pl.l1, .int .i64 pl.l2, .int .i64 pl.l3]] (by simp [Act.eval, Act.put]) (fun W => by kernel_rfl) _ ((unhide HE) w3.drew) ?_; rintro v5 w5 ⟨g5, cap5, rfl, h5, z5, m5⟩; have hb5 := (m5.has (unhide B3d) (fun x => x)).cell; have lb5 := (m5.has (unhide B3d) (fun x => x)).lt)
   |(refine step_call2 rfl 84 _ _ rfl #[.agg #[.int .i64 pl.rows, .int .i64 pl.cols, .int .i64 pl.front, .int .i64 pl.l0, .int .i64 pl.l1, .int .i64 pl.l2, .int .i64 pl.l3]] (by simp [Act.eval, Act.put]) (fun W => by kernel_rfl) _ ((unhide HE) _) ?_; rintro v5 w5 ⟨g5, cap5, rfl, h5, z5, m5⟩; have hb5 := (m5.has (unhide B3z) (fun x => x)).cell; have lb5 := (m5.has (unhide B3z) (fun x => x)).lt; have zb5 := (m5.has (unhide Z3z) (fun x => x)).cell; have zf5 := (m5.has (unhide Z3z) (fun x => x)).frozen; have zl5 := (m5.has (unhide Z3z) (fun x => x)).lt))
  all_goals go_wp2
  all_goals go_meet
  all_goals first
   | with_reducible exact ⟨_, g5, cap5, rfl, hide (AddI.made (unhide M3d) m5 (unhide B3d) h5 z5)⟩
   | with_reducible exact ⟨_, g5, cap5, rfl, hide (AddI.made2 (unhide M3z) m5 (unhide B3z) (unhide Z3z) (unhide M3).size h5 z5)⟩
 case rest =>
  obtain ⟨bb, g, cap, rfl, I1⟩ := hcut
  obtain ⟨i126, r0, r1, r2, r3⟩ := info_parts info157
  clear B3 M3 HE hb3 lb3
  apply_assumption
  go_upto_block 0 with fail
  go_cut [9] (fun s9 wx => s9 = .int .i64 0 ∧ Hid (AddI w wx flight pl #[.int .i64 kind, .int .i64 flight, .int .i64 ar, .int .i64 ac, .int .i64 tr, .int .i64 tc, .int .i64 party, .int .i64 cls, .int .i64 time, .int .i64 pl.rows, .int .i64 pl.cols, .int .i64 pl.front, .int .i64 pl.l0, .int .i64 pl.l1, .int .i64 pl.l2, .int .i64 pl.l3] bb b0 g cap))
  case first =>
   go_wp2_with fail
   go_loopw [9] (fun s9 wr => s9 = .int .i64 0 ∧ Hid (AddI w wr flight pl #[.int .i64 kind, .int .i64 flight, .int .i64 ar, .int .i64 ac, .int .i64 tr, .int .i64 tc, .int .i64 party, .int .i64 cls, .int .i64 time, .int .i64 pl.rows, .int .i64 pl.cols, .int .i64 pl.front, .int .i64 pl.l0, .int .i64 pl.l1, .int .i64 pl.l2, .int .i64 pl.l3] bb b0 g cap)) (fun _ _ => 0)
   case atStart => exact ⟨rfl, I1⟩
   case round =>
    obtain ⟨rfl, I2⟩ := hrel
    clear I1
    have vb : wr.cell? ⟨wb, 0, none⟩ = some (.slice none 0 0) := ((unhide I2).mod.has (unhide H).has (fun x => x)).cell 0
    have vl := ((unhide I2).mod.has (unhide H).has (fun x => x)).lt
    go_wp2_with fail
    go_quiet (fail)
    go_wp2
    go_meet
    exact ⟨rfl, (unhide I2).still ((Mod.refl No _).drewN _)⟩
  case rest =>
   obtain ⟨rfl, I2⟩ := hcut
   have vb := ((unhide I2).mod.has (unhide H).has (fun x => x)).cell 0
   have vl := ((unhide I2).mod.has (unhide H).has (fun x => x)).lt
   clear I1
   have I3 := I2
   go_upto_region 13 with fail
   have HREAD := hide (show ∀ W, Reads W (.slice none 0 0) 0 [] from fun W => .inl ⟨rfl, rfl⟩)
   have HNIL := hide (show ∀ u ∈ ([] : List Value), u.oneCell' = true from fun u hu => by simp at hu)
   have HX1 := hide (show ∀ u ∈ friL (addX flight pl g cap), u.oneCell' = true from fun u hu => friL_one [addX flight pl g cap] u (by simpa using hu))
   go_upto_region 15 with (first
    |(at_builtin; refine wpList_append_row rfl (.tmp 59) (.tmp 65) 70 rfl 134 i126 _ 10 96 Tryz.underlying70 r0 r1 r2 r3 rfl (by decide) (.slice none 0 0) 0 [] (by simp [Act.eval]) (by exact World.ownsRow_nil _ _ _ _) (.slice none 0 0) 0 [] (by simp [Act.eval]) (by exact (unhide HREAD) _) rfl (unhide HNIL) (by unfold maxLen; omega) (by omega) ?_; intro v1 w4 ho4 hg4 hs4;
      rw [Nat.zero_add, List.nil_append] at ho4; have HO4 := hide ho4; have HS4 := hide hs4; have M4 := hide ((Mod.refl No _).grown hg4 (by simp [Value.ownBlock])); clear ho4 hg4 hs4; have I4 := hide ((unhide I3).still (unhide M4)); have bx4 := (unhide I4).box.cell; have bl4 := (unhide I4).box.lt; unfold friV addX at bx4; have m5 : Mod No w4 (w4.alloc (.cells (friV (addX flight pl g cap)) 134)) := (Mod.refl _ _).alloc _; have HO5 := hide (m5.owns (unhide HO4) (fun _ _ x => x)); have HR5 := hide (reads_fr w4 134 (addX flight pl g cap)); clear m5 I4)
    |(at_builtin; refine wpList_append_row rfl (.tmp 67) (.tmp 69) 70 rfl 134 i126 _ 10 96 Tryz.underlying70 r0 r1 r2 r3 rfl (by decide) v1 0 [] (by simp [Act.eval]) (by exact unhide HO5) (.slice (some ⟨w4.heap.size, 0, none⟩) 1 1) 1 (friL (addX flight pl g cap)) (by simp [Act.eval]) (by exact unhide HR5) rfl (unhide HX1) (by unfold maxLen; omega) (by omega) ?_; intro v2 w6 ho6 hg6 hs6;
      clear bx4 bl4; obtain ⟨a2, c2, rfl⟩ := slice_of_owns ho6; have HO6 := hide ho6; have HS6 := hide hs6; have M6 := hide (((unhide M4).alloc _).grown hg6 (stays_new (unhide HS4))); clear ho6 hg6 hs6; have W6 := (unhide I3).mod.trans (unhide M6); have vb6 : w6.cell? ⟨wb, 0, none⟩ = some (.slice none 0 0) := (W6.has (unhide H).has (fun x => x)).cell 0; have vf6 := (W6.has (unhide H).has (fun x => x)).frozen; have vl6 := (W6.has (unhide H).has (fun x => x)).lt; clear W6))
   have SN6 := hide (stays_new2 (stays_new (unhide HS4)) (by have := (unhide M4).size; simp; omega) (unhide HS6))
   have FIN := hide (added_end (xs := []) (now := now) (ow := ow) (i := 0) (unhide H) (unhide I3) (unhide HWF) (Nat.le_refl _) (by simp))
   go_wp2_with (at_builtin; refine wpList_append_row rfl (.tmp 72) (.tmp 78) 70 rfl 134 i126 _ 10 96 Tryz.underlying70 r0 r1 r2 r3 rfl (by decide) (.slice a2 (0 + 1) c2) (0 + 1) ([] ++ friL (addX flight pl g cap)) (by simp [Act.eval]) (by exact unhide HO6) (.slice none 0 0) 0 [] (by simp [Act.eval]) (by exact (unhide HREAD) _) rfl (unhide HNIL) (by unfold maxLen; omega) (by omega) ?_; intro v3 w7 ho7 hg7 hs7; obtain ⟨a3, c3, rfl⟩ := slice_of_owns ho7; have HO7 := hide ho7; have HS7 := hide hs7; have M7 := hide ((unhide M6).grown hg7 (unhide SN6)); clear ho7 hg7 hs7 vb6 vf6 vl6; have hw7 := ((unhide I3).mod.trans (unhide M7)).has (unhide H).has (fun x => x); have vb7 := hw7.cell 0; have vf7 := hw7.frozen; have vl7 := hw7.lt; clear hw7)
   go_ret
   obtain ⟨q1, v', n', g', cap', ow', q2, rfl, q3, q4⟩ := (unhide FIN) w7 _ (unhide M7) (stays_new2 (unhide SN6) (unhide M6).size (unhide HS7)) _ _ (by simp) (by simp) (unhide HO7)
   exact ⟨rfl, ⟨q1, v', 0, g', cap', ow', q2, fun j hj => absurd hj (Nat.not_lt_zero _), fun hj => absurd hj (Nat.not_lt_zero _), q3, q4⟩⟩
end Go.Proofs.YthhibagcpjeihaaGreat
