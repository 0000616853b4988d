import Derived.Test.YtlcbemcamdafjaaGreatCdoesRef21Pg2
import Derived.Deep.DeepCutAuto
import Derived.Deep.RegionLawGrows
/- The document's answer: a flight is added. -/
namespace Go.Proofs.YtlcbemcamdafjaaGreat
open Go.RowKit
open M
set_option linter.unusedVariables false
set_option linter.unusedSimpArgs false
set_option maxRecDepth 100000
set_option maxHeartbeats 8000000

/-- The new flight. -/
def addX (num : Int) (p : Pla) (g cap : Nat) : FR := ⟨⟨num, p, emptySeats p, 1⟩, g, cap⟩

/-- What stands when the new flight has been made. -/
structure AddI (w wx : World) (num : Int) (p : Pla) (cs : Array Value) (bb b0 g cap : Nat) : Prop where
  box : Has wx bb (friV (addX num p g cap)) 126
  cmd : Has wx b0 cs 41
  row : RowS wx g cap (emptySeats p)
  nb : w.heap.size ≤ bb
  ng : w.heap.size ≤ g
  ne : bb ≠ b0
  mod : Mod No w wx

theorem AddI.still {w wx w2 : World} {num : Int} {p : Pla} {cs : Array Value} {bb b0 g cap : Nat} (h : AddI w wx num p cs bb b0 g cap) (hm : Mod No wx w2) : AddI w w2 num p cs bb b0 g cap :=
  ⟨hm.has h.box (fun x => x), hm.has h.cmd (fun x => x), h.row.mod hm (fun x => x), h.nb, h.ng, h.ne, h.mod.trans hm⟩

theorem AddI.made {w w3 w5 : World} {num : Int} {p : Pla} {cs : Array Value} {b0 g cap : Nat} (hm : Mod No w w3) (h5 : Mod No w3 w5) (hc : Has w3 b0 cs 41) (hr : RowS w5 g cap (emptySeats p)) (hg : w3.heap.size < g) :
    AddI w (w5.alloc (.cells #[.int .i64 num, .int .i64 p.rows, .int .i64 p.cols, .int .i64 p.front, .int .i64 p.l0, .int .i64 p.l1, .int .i64 p.l2, .int .i64 p.l3, .slice (some ⟨g, 0, none⟩) (emptySeats p).length cap, .int .i64 1] 126)) num p cs w5.heap.size b0 g cap := by
  show AddI w (w5.alloc (.cells (friV (addX num p g cap)) 126)) num p cs w5.heap.size b0 g cap
  have h6 : Mod No w5 (w5.alloc (.cells (friV (addX num p g cap)) 126)) := (Mod.refl _ _).alloc _
  have c5 := h5.has hc (fun x => x)
  have := hm.size
  have := h5.size
  exact ⟨Has.new _ _ _, h6.has c5 (fun x => x), hr.mod h6 (fun x => x), by omega, by omega, by have := c5.lt; omega, (hm.trans h5).trans h6⟩

theorem AddI.made2 {w w3 w5 : World} {num : Int} {p : Pla} {cs : Array Value} {bb b0 g cap : Nat} (hm : Mod No w w3) (h5 : Mod No w3 w5) (hc : Has w3 b0 cs 41) (hz : Has w3 bb #[.int .i64 0, .int .i64 0, .int .i64 0, .int .i64 0, .int .i64 0, .int .i64 0, .int .i64 0, .int .i64 0, .slice none 0 0, .int .i64 0] 126) (hbb : w.heap.size ≤ bb) (hr : RowS w5 g cap (emptySeats p)) (hg : w3.heap.size < g) :
    AddI w ((((((((((w5.setCell ⟨bb, 0, none⟩ (.int .i64 num)).setCell ⟨bb, 1, none⟩ (.int .i64 p.rows)).setCell ⟨bb, 2, none⟩ (.int .i64 p.cols)).setCell ⟨bb, 3, none⟩ (.int .i64 p.front)).setCell ⟨bb, 4, none⟩ (.int .i64 p.l0)).setCell ⟨bb, 5, none⟩ (.int .i64 p.l1)).setCell ⟨bb, 6, none⟩ (.int .i64 p.l2)).setCell ⟨bb, 7, none⟩ (.int .i64 p.l3)).setCell ⟨bb, 8, none⟩ (.slice (some ⟨g, 0, none⟩) (emptySeats p).length cap)).setCell ⟨bb, 9, none⟩ (.int .i64 1)) num p cs bb b0 g cap := by
  have z5 := h5.has hz (fun x => x)
  have c5 := h5.has hc (fun x => x)
  have hlt := hz.lt
  have hne : bb ≠ b0 := hz.ne hc (by decide)
  have hgb : g ≠ bb := by omega
  have m6 : Mod (fun k => k = bb) w5 ((((((((((w5.setCell ⟨bb, 0, none⟩ (.int .i64 num)).setCell ⟨bb, 1, none⟩ (.int .i64 p.rows)).setCell ⟨bb, 2, none⟩ (.int .i64 p.cols)).setCell ⟨bb, 3, none⟩ (.int .i64 p.front)).setCell ⟨bb, 4, none⟩ (.int .i64 p.l0)).setCell ⟨bb, 5, none⟩ (.int .i64 p.l1)).setCell ⟨bb, 6, none⟩ (.int .i64 p.l2)).setCell ⟨bb, 7, none⟩ (.int .i64 p.l3)).setCell ⟨bb, 8, none⟩ (.slice (some ⟨g, 0, none⟩) (emptySeats p).length cap)).setCell ⟨bb, 9, none⟩ (.int .i64 1)) :=
    ((((((((((Mod.refl _ w5).at 0 _).at 1 _).at 2 _).at 3 _).at 4 _).at 5 _).at 6 _).at 7 _).at 8 _).at 9 _
  have e0 : Has (w5.setCell ⟨bb, 0, none⟩ (.int .i64 num)) bb #[.int .i64 num, .int .i64 0, .int .i64 0, .int .i64 0, .int .i64 0, .int .i64 0, .int .i64 0, .int .i64 0, .slice none 0 0, .int .i64 0] 126 := z5.set 0 _
  have e1 : Has ((w5.setCell ⟨bb, 0, none⟩ (.int .i64 num)).setCell ⟨bb, 1, none⟩ (.int .i64 p.rows)) bb #[.int .i64 num, .int .i64 p.rows, .int .i64 0, .int .i64 0, .int .i64 0, .int .i64 0, .int .i64 0, .int .i64 0, .slice none 0 0, .int .i64 0] 126 := e0.set 1 _
  have e2 : Has (((w5.setCell ⟨bb, 0, none⟩ (.int .i64 num)).setCell ⟨bb, 1, none⟩ (.int .i64 p.rows)).setCell ⟨bb, 2, none⟩ (.int .i64 p.cols)) bb #[.int .i64 num, .int .i64 p.rows, .int .i64 p.cols, .int .i64 0, .int .i64 0, .int .i64 0, .int .i64 0, .int .i64 0, .slice none 0 0, .int .i64 0] 126 := e1.set 2 _
  have e3 : Has ((((w5.setCell ⟨bb, 0, none⟩ (.int .i64 num)).setCell ⟨bb, 1, none⟩ (.int .i64 p.rows)).setCell ⟨bb, 2, none⟩ (.int .i64 p.cols)).setCell ⟨bb, 3, none⟩ (.int .i64 p.front)) bb #[.int .i64 num, .int .i64 p.rows, .int .i64 p.cols, .int .i64 p.front, .int .i64 0, .int .i64 0, .int .i64 0, .int .i64 0, .slice none 0 0, .int .i64 0] 126 := e2.set 3 _
  have e4 : Has (((((w5.setCell ⟨bb, 0, none⟩ (.int .i64 num)).setCell ⟨bb, 1, none⟩ (.int .i64 p.rows)).setCell ⟨bb, 2, none⟩ (.int .i64 p.cols)).setCell ⟨bb, 3, none⟩ (.int .i64 p.front)).setCell ⟨bb, 4, none⟩ (.int .i64 p.l0)) bb #[.int .i64 num, .int .i64 p.rows, .int .i64 p.cols, .int .i64 p.front, .int .i64 p.l0, .int .i64 0, .int .i64 0, .int .i64 0, .slice none 0 0, .int .i64 0] 126 := e3.set 4 _
  have e5 : Has ((((((w5.setCell ⟨bb, 0, none⟩ (.int .i64 num)).setCell ⟨bb, 1, none⟩ (.int .i64 p.rows)).setCell ⟨bb, 2, none⟩ (.int .i64 p.cols)).setCell ⟨bb, 3, none⟩ (.int .i64 p.front)).setCell ⟨bb, 4, none⟩ (.int .i64 p.l0)).setCell ⟨bb, 5, none⟩ (.int .i64 p.l1)) bb #[.int .i64 num, .int .i64 p.rows, .int .i64 p.cols, .int .i64 p.front, .int .i64 p.l0, .int .i64 p.l1, .int .i64 0, .int .i64 0, .slice none 0 0, .int .i64 0] 126 := e4.set 5 _
  have e6 : Has (((((((w5.setCell ⟨bb, 0, none⟩ (.int .i64 num)).setCell ⟨bb, 1, none⟩ (.int .i64 p.rows)).setCell ⟨bb, 2, none⟩ (.int .i64 p.cols)).setCell ⟨bb, 3, none⟩ (.int .i64 p.front)).setCell ⟨bb, 4, none⟩ (.int .i64 p.l0)).setCell ⟨bb, 5, none⟩ (.int .i64 p.l1)).setCell ⟨bb, 6, none⟩ (.int .i64 p.l2)) bb #[.int .i64 num, .int .i64 p.rows, .int .i64 p.cols, .int .i64 p.front, .int .i64 p.l0, .int .i64 p.l1, .int .i64 p.l2, .int .i64 0, .slice none 0 0, .int .i64 0] 126 := e5.set 6 _
  have e7 : Has ((((((((w5.setCell ⟨bb, 0, none⟩ (.int .i64 num)).setCell ⟨bb, 1, none⟩ (.int .i64 p.rows)).setCell ⟨bb, 2, none⟩ (.int .i64 p.cols)).setCell ⟨bb, 3, none⟩ (.int .i64 p.front)).setCell ⟨bb, 4, none⟩ (.int .i64 p.l0)).setCell ⟨bb, 5, none⟩ (.int .i64 p.l1)).setCell ⟨bb, 6, none⟩ (.int .i64 p.l2)).setCell ⟨bb, 7, none⟩ (.int .i64 p.l3)) bb #[.int .i64 num, .int .i64 p.rows, .int .i64 p.cols, .int .i64 p.front, .int .i64 p.l0, .int .i64 p.l1, .int .i64 p.l2, .int .i64 p.l3, .slice none 0 0, .int .i64 0] 126 := e6.set 7 _
  have e8 : Has (((((((((w5.setCell ⟨bb, 0, none⟩ (.int .i64 num)).setCell ⟨bb, 1, none⟩ (.int .i64 p.rows)).setCell ⟨bb, 2, none⟩ (.int .i64 p.cols)).setCell ⟨bb, 3, none⟩ (.int .i64 p.front)).setCell ⟨bb, 4, none⟩ (.int .i64 p.l0)).setCell ⟨bb, 5, none⟩ (.int .i64 p.l1)).setCell ⟨bb, 6, none⟩ (.int .i64 p.l2)).setCell ⟨bb, 7, none⟩ (.int .i64 p.l3)).setCell ⟨bb, 8, none⟩ (.slice (some ⟨g, 0, none⟩) (emptySeats p).length cap)) bb #[.int .i64 num, .int .i64 p.rows, .int .i64 p.cols, .int .i64 p.front, .int .i64 p.l0, .int .i64 p.l1, .int .i64 p.l2, .int .i64 p.l3, .slice (some ⟨g, 0, none⟩) (emptySeats p).length cap, .int .i64 0] 126 := e7.set 8 _
  have e9 : Has ((((((((((w5.setCell ⟨bb, 0, none⟩ (.int .i64 num)).setCell ⟨bb, 1, none⟩ (.int .i64 p.rows)).setCell ⟨bb, 2, none⟩ (.int .i64 p.cols)).setCell ⟨bb, 3, none⟩ (.int .i64 p.front)).setCell ⟨bb, 4, none⟩ (.int .i64 p.l0)).setCell ⟨bb, 5, none⟩ (.int .i64 p.l1)).setCell ⟨bb, 6, none⟩ (.int .i64 p.l2)).setCell ⟨bb, 7, none⟩ (.int .i64 p.l3)).setCell ⟨bb, 8, none⟩ (.slice (some ⟨g, 0, none⟩) (emptySeats p).length cap)).setCell ⟨bb, 9, none⟩ (.int .i64 1)) bb #[.int .i64 num, .int .i64 p.rows, .int .i64 p.cols, .int .i64 p.front, .int .i64 p.l0, .int .i64 p.l1, .int .i64 p.l2, .int .i64 p.l3, .slice (some ⟨g, 0, none⟩) (emptySeats p).length cap, .int .i64 1] 126 := e8.set 9 _
  refine ⟨e9, m6.has c5 (fun e => hne e.symm), hr.mod m6 hgb, hbb, by have := hm.size; have := h5.size; omega, hne, (hm.trans h5).trans' m6 (fun i hi hl => by omega)⟩

theorem ins_get {α : Type} (xs : List α) (x : α) (n i : Nat) (hn : n ≤ xs.length) (hi : i < (xs.take n ++ x :: xs.drop n).length) :
    (∃ h : i < xs.length, i < n ∧ (xs.take n ++ x :: xs.drop n)[i] = xs[i]) ∨ (i = n ∧ (xs.take n ++ x :: xs.drop n)[i] = x) ∨ (∃ h : i - 1 < xs.length, n < i ∧ (xs.take n ++ x :: xs.drop n)[i] = xs[i - 1]) := by
  have hl : (xs.take n).length = n := by rw [List.length_take]; omega
  have hi' : i < xs.length + 1 := by simp at hi; omega
  rcases Nat.lt_trichotomy i n with h | h | h
  · refine .inl ⟨by omega, h, ?_⟩
    rw [List.getElem_append_left (by omega), List.getElem_take]
  · refine .inr (.inl ⟨h, ?_⟩)
    subst h
    rw [List.getElem_append_right (by omega)]
    simp [hl]
  · refine .inr (.inr ⟨by omega, h, ?_⟩)
    rw [List.getElem_append_right (by omega)]
    obtain ⟨k, hk⟩ : ∃ k, i = n + 1 + k := ⟨i - n - 1, by omega⟩
    subst hk
    simp only [hl, show n + 1 + k - n = k + 1 by omega, List.getElem_cons_succ, List.getElem_drop]
    congr 1
    omega

/-- A flight has been laid into the row. -/
theorem worR_insert {w w' : World} {ow : Nat → Nat} {wb gf cap' g cap n : Nat} {v : Value} {xs : List FR} {now : Int} (h : WorR w ow wb v xs now) (hm : Mod (fun k => k = wb) w w') (num : Int) (p : Pla) (hn : n ≤ xs.length) (h20 : xs.length < 20)
    (hh : Has w' wb #[.slice (some ⟨gf, 0, none⟩) (xs.length + 1) cap', .int .i64 now] 72) (hr : RowF w' gf cap' (xs.take n ++ addX num p g cap :: xs.drop n)) (hs : RowS w' g cap (emptySeats p))
    (hg : w.heap.size ≤ g) (hgf : w.heap.size ≤ gf) (hne : g ≠ gf) (hwf : Wf p (emptySeats p)) :
    ∃ ow', WorR w' ow' wb (.slice (some ⟨gf, 0, none⟩) (xs.length + 1) cap') (xs.take n ++ addX num p g cap :: xs.drop n) now ∧ ∀ k, ow' k ≠ 0 → ow k ≠ 0 ∨ w.heap.size ≤ k := by
  have hlen : (xs.take n ++ addX num p g cap :: xs.drop n).length = xs.length + 1 := by simp; omega
  refine ⟨fun k => if k = gf then 2 else if k = g then n + 3 else if ow k = 2 then 0 else if n + 3 ≤ ow k then ow k + 1 else ow k, ⟨hh, .inr ⟨gf, cap', by rw [hlen], hr, by simp only [if_pos]⟩, ?_, fun k hk => ?_, fun i hi => ?_, by rw [hlen]; omega⟩, fun k hk => ?_⟩
  · have hw := h.old wb (by rw [h.mine]; omega)
    have e := h.mine
    rw [if_neg (by omega), if_neg (by omega), if_neg (by omega), if_neg (by omega), e]
  · by_cases e1 : k = gf
    · subst e1; obtain ⟨cur, q, _⟩ := hr.cur; exact q.lt
    · by_cases e2 : k = g
      · subst e2; exact hs.lt
      · rw [if_neg e1, if_neg e2] at hk
        have : ow k ≠ 0 := by
          intro e
          rw [e] at hk
          simp at hk
        exact Nat.lt_of_lt_of_le (h.old k this) hm.size
  · have hbig : ∀ j (hj : j < xs.length), xs[j].g < w.heap.size ∧ ow xs[j].g = j + 3 := fun j hj => ⟨h.old _ (by rw [(h.seats j hj).2.1]; omega), (h.seats j hj).2.1⟩
    have hwbne : ∀ j (hj : j < xs.length), ¬ xs[j].g = wb := fun j hj e => by have := (hbig j hj).2; rw [e, h.mine] at this; omega
    rcases ins_get xs (addX num p g cap) n i hn hi with ⟨h1, h2, h3⟩ | ⟨h2, h3⟩ | ⟨h1, h2, h3⟩
    · rw [h3]
      obtain ⟨q1, q2, q3⟩ := h.seats i h1
      refine ⟨q1.mod hm (hwbne i h1), ?_, q3⟩
      have := hbig i h1
      rw [if_neg (by omega), if_neg (by omega), if_neg (by omega), if_neg (by omega)]
      exact this.2
    · rw [h3]
      refine ⟨hs, ?_, hwf⟩
      show (if g = gf then 2 else if g = g then n + 3 else if ow g = 2 then 0 else if n + 3 ≤ ow g then ow g + 1 else ow g) = i + 3
      rw [if_neg hne, if_pos rfl, h2]
    · rw [h3]
      obtain ⟨q1, q2, q3⟩ := h.seats (i - 1) h1
      refine ⟨q1.mod hm (hwbne (i - 1) h1), ?_, q3⟩
      have := hbig (i - 1) h1
      rw [if_neg (by omega), if_neg (by omega), if_neg (by omega), if_pos (by omega)]
      omega
  · by_cases e1 : k = gf
    · right; omega
    · by_cases e2 : k = g
      · right; omega
      · have hk : (if k = gf then 2 else if k = g then n + 3 else if ow k = 2 then 0 else if n + 3 ≤ ow k then ow k + 1 else ow k) ≠ 0 := hk
        rw [if_neg e1, if_neg e2] at hk
        left
        intro e
        rw [e] at hk
        simp at hk

theorem friL_one (l : List FR) : ∀ u ∈ l.flatMap friL, u.oneCell' = true := by
  intro u hu
  obtain ⟨x, _, hx⟩ := List.mem_flatMap.1 hu
  simp [friL, friV] at hx
  rcases hx with rfl | rfl | rfl | rfl | rfl | rfl | rfl | rfl | rfl | rfl <;> rfl

/-- The first flights of a row; the others. -/
theorem reads_take {w : World} {gf cap : Nat} {xs : List FR} (h : RowF w gf cap xs) (i : Nat) (hi : i ≤ xs.length) (c : Nat) : Reads w (.slice (some ⟨gf, 0, none⟩) i c) i ((xs.take i).flatMap friL) :=
  .inr ⟨⟨gf, 0, none⟩, c, rfl, fun j u hu => by
    have hj : j < ((xs.take i).flatMap friL).length := (List.getElem?_eq_some_iff.1 hu).1
    rw [flat_len 10 friL friL_len, List.length_take] at hj
    have hk : j / 10 < i := by omega
    have e : j = j / 10 * 10 + j % 10 := by omega
    rw [e, flat_at 10 (by omega) friL friL_len (xs.take i) (j / 10) (by rw [List.length_take]; omega) (j % 10) (by omega), List.getElem_take] at hu
    rw [Addr.add_mid, Nat.zero_add, e, h.cell (j / 10) (by omega) (j % 10) (by omega), ← Array.getElem?_toList]
    exact hu⟩
theorem reads_drop {w : World} {gf cap : Nat} {xs : List FR} (h : RowF w gf cap xs) (i : Nat) (hi : i ≤ xs.length) (c : Nat) : Reads w (.slice (some ⟨gf, i * 10, none⟩) (xs.length - i) c) (xs.length - i) ((xs.drop i).flatMap friL) :=
  .inr ⟨⟨gf, i * 10, none⟩, c, rfl, fun j u hu => by
    have hj : j < ((xs.drop i).flatMap friL).length := (List.getElem?_eq_some_iff.1 hu).1
    rw [flat_len 10 friL friL_len, List.length_drop] at hj
    have hk : j / 10 < xs.length - i := by omega
    have e : j = j / 10 * 10 + j % 10 := by omega
    rw [e, flat_at 10 (by omega) friL friL_len (xs.drop i) (j / 10) (by rw [List.length_drop]; omega) (j % 10) (by omega), List.getElem_drop] at hu
    rw [Addr.add_mid, e, show i * 10 + (j / 10 * 10 + j % 10) = (i + j / 10) * 10 + j % 10 by omega, h.cell (i + j / 10) (by omega) (j % 10) (by omega), ← Array.getElem?_toList]
    exact hu⟩

theorem reads_drop0 {w : World} {gf : Nat} {xs : List FR} (i : Nat) (hi : i = xs.length) (c : Nat) : Reads w (.slice (some ⟨gf, 0, none⟩) (xs.length - i) c) (xs.length - i) ((xs.drop i).flatMap friL) :=
  .inr ⟨⟨gf, 0, none⟩, c, rfl, fun j u hu => by
    rw [hi, List.drop_length] at hu
    simp at hu⟩
theorem reads_fr (w : World) (T : TypeId) (x : FR) : Reads (w.alloc (.cells (friV x) T)) (.slice (some ⟨w.heap.size, 0, none⟩) 1 1) 1 (friL x) :=
  .inr ⟨⟨w.heap.size, 0, none⟩, 1, rfl, fun j u hu => by
    have hN := Has.new w (friV x) T
    rw [Addr.add_mid, Nat.zero_add, hN.cell, ← Array.getElem?_toList]
    exact hu⟩
end Go.Proofs.YtlcbemcamdafjaaGreat
