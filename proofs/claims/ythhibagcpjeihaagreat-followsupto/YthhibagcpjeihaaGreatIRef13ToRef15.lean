import Derived.Test.YthhibagcpjeihaaGreatIRef10ToRef12
import Derived.Test.YthhibagcpjeihaaGreatIPass2ToRef4
import Derived.Test.YthhibagcpjeihaaGreatILook7ToRef7
import Derived.Deep.MidRow
import Derived.Deep.DeepCutAuto
namespace Go.Proofs.YthhibagcpjeihaaGreat
open Go.RowKit
open M
set_option linter.unusedVariables false
set_option linter.unusedSimpArgs false
set_option maxRecDepth 100000
set_option maxHeartbeats 4000000
theorem RowF.set {w : World} {gf cap : Nat} {xs : List FR} (h : RowF w gf cap xs) (i : Nat) (hi : i < xs.length) (j : Nat) (hj : j < 10) (v : Value) (x : FR) (hx : friV x = (friV xs[i]).setIfInBounds j v) :
  RowF (w.setCell ⟨gf, i * 10 + j, none⟩ v) gf cap (xs.set i x) := by
 obtain ⟨cur, h1, h2, h3⟩ := h.cur
 refine ⟨⟨_, h1.set (i * 10 + j) v, by simpa using h2, fun i' hi' j' hj' => ?_⟩, by simpa using h.le, h.max⟩
 have hi2 : i' < xs.length := by simpa using hi'
 have hcur : i * 10 + j < cur.size := by
  have := h.le
  omega
 by_cases e : i' = i
 ·subst e
  simp only [List.getElem_set_self]
  rw [hx]
  by_cases e2 : j = j'
  ·subst e2
   rw [Array.getElem?_setIfInBounds_self_of_lt hcur, Array.getElem?_setIfInBounds_self_of_lt (by simpa [friV] using hj)]
  ·rw [Array.getElem?_setIfInBounds_ne (by omega), Array.getElem?_setIfInBounds_ne e2]
   exact h3 _ hi2 _ hj'
 ·rw [Array.getElem?_setIfInBounds_ne (by omega), List.getElem_set_ne (fun h => e h.symm)]
  exact h3 _ hi2 _ hj'
theorem RowF.same {w : World} {gf cap : Nat} {xs : List FR} (h : RowF w gf cap xs) (i : Nat) (hi : i < xs.length) (x : FR) (hx : friV x = friV xs[i]) : RowF w gf cap (xs.set i x) := by
 obtain ⟨cur, h1, h2, h3⟩ := h.cur
 refine ⟨⟨cur, h1, h2, fun i' hi' j' hj' => ?_⟩, by simpa using h.le, h.max⟩
 have hi2 : i' < xs.length := by simpa using hi'
 by_cases e : i' = i
 ·subst e
  simp only [List.getElem_set_self]
  rw [hx]
  exact h3 _ hi2 _ hj'
 ·rw [List.getElem_set_ne (fun h => e h.symm)]
  exact h3 _ hi2 _ hj'
structure WorR (w : World) (ow : Nat → Nat) (wb : Nat) (v : Value) (xs : List FR) (now : Int) : Prop where
 has : Has w wb #[v, .int .i64 now] 72
 fls : (xs = [] ∧ v = .slice none 0 0) ∨ ∃ gf cap, v = .slice (some ⟨gf, 0, none⟩) xs.length cap ∧ RowF w gf cap xs ∧ ow gf = 2
 mine : ow wb = 1
 old : ∀ k, ow k ≠ 0 → k < w.heap.size
 seats : ∀ i (h : i < xs.length), RowS w xs[i].g xs[i].cap xs[i].f.seats ∧ ow xs[i].g = i + 3 ∧ Wf xs[i].f.pla xs[i].f.seats
 few : xs.length ≤ 20
theorem WorR.mod {w w' : World} {ow : Nat → Nat} {wb : Nat} {v : Value} {xs : List FR} {now : Int} {S : Nat → Prop} (h : WorR w ow wb v xs now) (hm : Mod S w w') (hs : ∀ k, ow k ≠ 0 → ¬ S k) : WorR w' ow wb v xs now := by
 refine ⟨hm.has h.has (hs _ (by rw [h.mine]; omega)), ?_, h.mine, fun k hk => Nat.lt_of_lt_of_le (h.old k hk) hm.size, fun i hi => ?_, h.few⟩
 ·rcases h.fls with h1 | ⟨gf, cap, h1, h2, h3⟩
  ·exact .inl h1
  ·exact .inr ⟨gf, cap, h1, h2.mod hm (hs _ (by rw [h3]; omega)), h3⟩
 ·obtain ⟨h1, h2, h3⟩ := h.seats i hi
  exact ⟨h1.mod hm (hs _ (by rw [h2]; omega)), h2, h3⟩
theorem WorR.seatsSet {w w' : World} {ow : Nat → Nat} {wb : Nat} {v : Value} {xs : List FR} {now : Int} (h : WorR w ow wb v xs now) (i : Nat) (hi : i < xs.length) (l' : List Sea) (hl : l'.length = xs[i].f.seats.length) (hwf : Wf xs[i].f.pla l')
  (hr : RowS w' xs[i].g xs[i].cap l') (hm : Mod (fun k => k = xs[i].g) w w') : WorR w' ow wb v (xs.set i ⟨⟨xs[i].f.num, xs[i].f.pla, l', xs[i].f.ep⟩, xs[i].g, xs[i].cap⟩) now := by
 have hg := (h.seats i hi).2.1
 have ne : ∀ k, ow k ≠ i + 3 → ¬ (k = xs[i].g) := fun k hk e => by rw [e] at hk; exact hk hg
 refine ⟨hm.has h.has (ne _ (by rw [h.mine]; omega)), ?_, h.mine, fun k hk => Nat.lt_of_lt_of_le (h.old k hk) hm.size, fun j hj => ?_, by simpa using h.few⟩
 ·rcases h.fls with ⟨rfl, _⟩ | ⟨gf, cap, h1, h2, h3⟩
  ·exact absurd hi (Nat.not_lt_zero _)
  ·refine .inr ⟨gf, cap, by rw [List.length_set]; exact h1, (h2.mod hm (ne _ (by rw [h3]; omega))).same i hi _ ?_, h3⟩
   simp [friV, hl]
 ·have hj2 : j < xs.length := by simpa using hj
  by_cases e : j = i
  ·subst e
   simp only [List.getElem_set_self]
   exact ⟨hr, hg, hwf⟩
  ·rw [List.getElem_set_ne (fun h => e h.symm)]
   obtain ⟨h1, h2, h3⟩ := h.seats j hj2
   exact ⟨h1.mod hm (ne _ (by rw [h2]; omega)), h2, h3⟩
theorem WorR.epSet {w : World} {ow : Nat → Nat} {wb gf cap : Nat} {xs : List FR} {now : Int} (h : WorR w ow wb (.slice (some ⟨gf, 0, none⟩) xs.length cap) xs now) (i : Nat) (hi : i < xs.length) (ep : Int) :
  WorR (w.setCell ⟨gf, i * 10 + 9, none⟩ (.int .i64 ep)) ow wb (.slice (some ⟨gf, 0, none⟩) xs.length cap) (xs.set i ⟨⟨xs[i].f.num, xs[i].f.pla, xs[i].f.seats, ep⟩, xs[i].g, xs[i].cap⟩) now := by
 have hg : ow gf = 2 ∧ RowF w gf cap xs := by
  rcases h.fls with ⟨rfl, h2⟩ | ⟨gf', cap', h1, h2, h3⟩
  ·exact absurd hi (Nat.not_lt_zero _)
  ·injection h1 with e1 e2 e3
   injection e1 with e1
   injection e1 with e1
   subst e1 e3
   exact ⟨h3, h2⟩
 have hm : Mod (fun k => k = gf) w (w.setCell ⟨gf, i * 10 + 9, none⟩ (.int .i64 ep)) := (Mod.refl (fun k => k = gf) w).setCell (p := ⟨gf, i * 10 + 9, none⟩) (.inl rfl) _
 have ne : ∀ k, ow k ≠ 2 → ¬ (k = gf) := fun k hk e => by rw [e] at hk; exact hk hg.1
 refine ⟨hm.has h.has (ne _ (by rw [h.mine]; omega)), .inr ⟨gf, cap, by rw [List.length_set], hg.2.set i hi 9 (by omega) _ _ (by simp [friV]), hg.1⟩, h.mine, fun k hk => Nat.lt_of_lt_of_le (h.old k hk) hm.size, fun j hj => ?_, by simpa using h.few⟩
 have hj2 : j < xs.length := by simpa using hj
 obtain ⟨h1, h2, h3⟩ := h.seats j hj2
 by_cases e : j = i
 ·subst e
  simp only [List.getElem_set_self]
  exact ⟨h1.mod hm (ne _ (by rw [h2]; omega)), h2, h3⟩
 ·rw [List.getElem_set_ne (fun h => e h.symm)]
  exact ⟨h1.mod hm (ne _ (by rw [h2]; omega)), h2, h3⟩
theorem WorR.nowSet {w : World} {ow : Nat → Nat} {wb : Nat} {v : Value} {xs : List FR} {now : Int} (h : WorR w ow wb v xs now) (n : Int) : WorR (w.setCell ⟨wb, 1, none⟩ (.int .i64 n)) ow wb v xs n := by
 have hm : Mod (fun k => k = wb) w (w.setCell ⟨wb, 1, none⟩ (.int .i64 n)) := (Mod.refl (fun k => k = wb) w).setCell (p := ⟨wb, 1, none⟩) (.inl rfl) _
 have ne : ∀ k, ow k ≠ 1 → ¬ (k = wb) := fun k hk e => by rw [e] at hk; exact hk h.mine
 refine ⟨h.has.set 1 _, ?_, h.mine, fun k hk => Nat.lt_of_lt_of_le (h.old k hk) hm.size, fun i hi => ?_, h.few⟩
 ·rcases h.fls with h1 | ⟨gf, cap, h1, h2, h3⟩
  ·exact .inl h1
  ·exact .inr ⟨gf, cap, h1, h2.mod hm (ne _ (by rw [h3]; omega)), h3⟩
 ·obtain ⟨h1, h2, h3⟩ := h.seats i hi
  exact ⟨h1.mod hm (ne _ (by rw [h2]; omega)), h2, h3⟩
theorem wf_len {p : Pla} {l : List Sea} (h : Wf p l) : l.length ≤ 120 := Fli.wf.len_le h
theorem WorR.fl {w : World} {ow : Nat → Nat} {wb gf cap : Nat} {xs : List FR} {now : Int} (h : WorR w ow wb (.slice (some ⟨gf, 0, none⟩) xs.length cap) xs now) (i : Nat) (hi : i < xs.length) :
  FlR w gf (i * 10) xs[i].g xs[i].cap xs[i].f.pla xs[i].f.seats := by
 have hg : ow gf = 2 ∧ RowF w gf cap xs := by
  rcases h.fls with ⟨rfl, h2⟩ | ⟨gf', cap', h1, h2, h3⟩
  ·exact absurd hi (Nat.not_lt_zero _)
  ·injection h1 with e1 e2 e3
   injection e1 with e1
   injection e1 with e1
   subst e1 e3
   exact ⟨h3, h2⟩
 obtain ⟨h1, h2, h3⟩ := h.seats i hi
 refine ⟨h1, Nat.le_trans (wf_len h3) (by show 120 ≤ 1000; omega), fun e => by rw [e, h2] at hg; omega, hg.2.cell i hi 8 (by omega), fun j hj => ?_⟩
 have := hg.2.cell i hi (4 + j) (by omega)
 rw [← Nat.add_assoc] at this
 rw [this]
 have : j = 0 ∨ j = 1 ∨ j = 2 ∨ j = 3 := by omega
 rcases this with rfl | rfl | rfl | rfl <;> rfl
set_option maxHeartbeats 8000000
def mapTo {α : Type} (f : α → α) (k : Nat) (l : List α) : List α := (l.take k).map f ++ l.drop k
theorem mapTo_zero {α : Type} (f : α → α) (l : List α) : mapTo f 0 l = l := by simp [mapTo]
theorem mapTo_full {α : Type} (f : α → α) (l : List α) : mapTo f l.length l = l.map f := by simp [mapTo]
theorem mapTo_len {α : Type} (f : α → α) (k : Nat) (l : List α) : (mapTo f k l).length = l.length := by simp [mapTo]; omega
theorem mapTo_get {α : Type} (f : α → α) (k : Nat) (l : List α) (hk : k < l.length) : (mapTo f k l)[k]'(by rw [mapTo_len]; exact hk) = l[k] := by
 unfold mapTo
 rw [List.getElem_append_right (by simp; omega)]
 simp [Nat.min_eq_left (Nat.le_of_lt hk)]
theorem mapTo_cons {α : Type} (f : α → α) (k : Nat) (x : α) (l : List α) : mapTo f (k + 1) (x :: l) = f x :: mapTo f k l := by simp [mapTo]
theorem mapTo_succ {α : Type} (f : α → α) : ∀ (k : Nat) (l : List α) (hk : k < l.length), mapTo f (k + 1) l = (mapTo f k l).set k (f l[k])
 | _, [], hk => absurd hk (Nat.not_lt_zero _)
 | 0, x :: l, hk => by rw [mapTo_cons, mapTo_zero, mapTo_zero]; rfl
 | k + 1, x :: l, hk => by rw [mapTo_cons, mapTo_succ f k l (by simpa using hk), mapTo_cons]; rfl
def anyTo {α : Type} (f : α → Bool) (k : Nat) (l : List α) : Bool := (l.take k).any f
theorem anyTo_cons {α : Type} (f : α → Bool) (k : Nat) (x : α) (l : List α) : anyTo f (k + 1) (x :: l) = (f x || anyTo f k l) := by simp [anyTo]
theorem anyTo_succ {α : Type} (f : α → Bool) : ∀ (k : Nat) (l : List α) (hk : k < l.length), anyTo f (k + 1) l = (anyTo f k l || f l[k])
 | _, [], hk => absurd hk (Nat.not_lt_zero _)
 | 0, x :: l, hk => by rw [anyTo_cons]; simp [anyTo]
 | k + 1, x :: l, hk => by rw [anyTo_cons, anyTo_succ f k l (by simpa using hk), anyTo_cons, Bool.or_assoc]; rfl
theorem anyTo_full {α : Type} (f : α → Bool) (l : List α) : anyTo f l.length l = l.any f := by simp [anyTo]
def dueF (nw : Int) (s : Sea) : Sea := if due nw s then s.freed else s
def tickX (nw : Int) (x : FR) : FR := ⟨⟨x.f.num, x.f.pla, tickSeats nw x.f.seats, if x.f.seats.any (due nw) then IntKind.i64.wrap (x.f.ep + 1) else x.f.ep⟩, x.g, x.cap⟩
theorem tick_out (wb : Nat) (n : Int) (w : World) (h : ¬ (1 ≤ n ∧ n ≤ 100)) :
  Calls Tryz.prog 51 #[.pointer (some ⟨wb, 0, none⟩), .int .i64 n] w fun e w' => e = .returned (.int .i64 8) ∧ w' = w := by
 by_cases h1 : n < 1
 ·go_enter Tryz.func51, Tryz.ntmps51
  go_wp2
  go_ret
  exact ⟨rfl, rfl⟩
 ·have h2 : n > 100 := by omega
  go_enter Tryz.func51, Tryz.ntmps51
  go_wp2
  go_ret
  exact ⟨rfl, rfl⟩
theorem tick_none (wb : Nat) (n now : Int) (w : World) (hn : 1 ≤ n ∧ n ≤ 100) (hnow : 0 ≤ now ∧ now ≤ 4611686018427387000) (h : Has w wb #[.slice none 0 0, .int .i64 now] 72) :
  Calls Tryz.prog 51 #[.pointer (some ⟨wb, 0, none⟩), .int .i64 n] w fun e w' => e = .returned (.int .i64 0) ∧ w' = w.setCell ⟨wb, 1, none⟩ (.int .i64 (now + n)) := by
 have hc := h.cell
 have hf := h.frozen
 have h1 : ¬ n < 1 := by omega
 have h2 : ¬ n > 100 := by omega
 have hw : IntKind.i64.wrap (now + n) = now + n := wrap_fit _ (by omega) (by omega)
 clear h
 go_enter Tryz.func51, Tryz.ntmps51
 go_wp2_with fail
 go_loopw [5] (fun s5 wr => s5 = .int .i64 0 ∧ wr = w.setCell ⟨wb, 1, none⟩ (.int .i64 (now + n))) (fun _ _ => 0)
 case atStart => exact ⟨rfl, rfl⟩
 case round =>
  obtain ⟨rfl, rfl⟩ := hrel
  go_wp2
  go_ret
  exact ⟨rfl, rfl⟩
open Go.ChangeMaps (setBlock)
def pv (x : Option Nat) : Value := .pointer (x.map fun b => ⟨b, 0, none⟩)
def fileN (pt : Nat → Option Nat) : Nat := if (pt 30).isSome then 1 else 0
def tornB (pt : Nat → Option Nat) : Bool := (pt 31).isSome
def keepCells (now : Int) (pt : Nat → Option Nat) : Array Value :=
 #[.int .i64 now, pv (pt 0), pv (pt 1), pv (pt 2), pv (pt 3), pv (pt 4), pv (pt 5), pv (pt 6), pv (pt 7), pv (pt 8), pv (pt 9), pv (pt 10), pv (pt 11), pv (pt 12), pv (pt 13), pv (pt 14), pv (pt 15), pv (pt 16), pv (pt 17), pv (pt 18), pv (pt 19), pv (pt 20), .map (pt 21), .map (pt 22), .map (pt 23), .map (pt 24), .map (pt 25), .map (pt 26), .map (pt 27), .map (pt 28), pv (pt 29), .int .i64 (fileN pt), .bool (tornB pt)]
theorem keep_at (now : Int) (pt : Nat → Option Nat) (n : Nat) (hn : n < 21) : (keepCells now pt)[1 + n]? = some (pv (pt n)) := by
 have : n = 0 ∨ n = 1 ∨ n = 2 ∨ n = 3 ∨ n = 4 ∨ n = 5 ∨ n = 6 ∨ n = 7 ∨ n = 8 ∨ n = 9 ∨ n = 10 ∨ n = 11 ∨ n = 12 ∨ n = 13 ∨ n = 14 ∨ n = 15 ∨ n = 16 ∨ n = 17 ∨ n = 18 ∨ n = 19 ∨ n = 20 := by omega
 rcases this with h | h | h | h | h | h | h | h | h | h | h | h | h | h | h | h | h | h | h | h | h <;> (subst h; rfl)
theorem keep_far (now : Int) (pt : Nat → Option Nat) (i : Nat) (hi : i < 8) : (keepCells now pt)[22 + i]? = some (.map (pt (21 + i))) := by
 have : i = 0 ∨ i = 1 ∨ i = 2 ∨ i = 3 ∨ i = 4 ∨ i = 5 ∨ i = 6 ∨ i = 7 := by omega
 rcases this with h | h | h | h | h | h | h | h <;> (subst h; rfl)
def updP (pt : Nat → Option Nat) (n b : Nat) : Nat → Option Nat := fun j => if j = n then some b else pt j
theorem keep_set (now : Int) (pt : Nat → Option Nat) (n b : Nat) (hn : n < 21) : (keepCells now pt).setIfInBounds (1 + n) (pv (some b)) = keepCells now (updP pt n b) := by
 have : n = 0 ∨ n = 1 ∨ n = 2 ∨ n = 3 ∨ n = 4 ∨ n = 5 ∨ n = 6 ∨ n = 7 ∨ n = 8 ∨ n = 9 ∨ n = 10 ∨ n = 11 ∨ n = 12 ∨ n = 13 ∨ n = 14 ∨ n = 15 ∨ n = 16 ∨ n = 17 ∨ n = 18 ∨ n = 19 ∨ n = 20 := by omega
 rcases this with h | h | h | h | h | h | h | h | h | h | h | h | h | h | h | h | h | h | h | h | h <;> (subst h; rfl)
structure KeepX (w : World) (ow : Nat → Nat) (kb : Nat) (now : Int) (pt : Nat → Option Nat) (fl : Nat → Option (Pla × List Sea)) : Prop where
 has : Has w kb (keepCells now pt) 121
 mine : ow kb = 1
 old : ∀ k, ow k ≠ 0 → k < w.heap.size
 gone : ∀ n, n < 21 → fl n = none → pt n = none
 here : ∀ n p l, n < 21 → fl n = some (p, l) → ∃ b, pt n = some b ∧ Wf p l ∧ FlH w (fun k => ow k = n + 2) b p l
theorem now_any {w : World} {ow : Nat → Nat} {kb : Nat} {now : Int} {pt : Nat → Option Nat} {fl : Nat → Option (Pla × List Sea)} (h : KeepX w ow kb now pt fl) :
  Calls Tryz.prog 32 #[.pointer (some ⟨kb, 0, none⟩)] w fun e w' => e = .returned (.int .i64 now) ∧ w' = w := by
 have c0 := h.has.cell 0
 rw [show (keepCells now pt)[0]? = some (.int .i64 now) from rfl] at c0
 have hlt := h.has.lt
 clear h
 go_enter Tryz.func32, Tryz.ntmps32
 go_wp2
 go_ret
 exact ⟨rfl, rfl⟩
theorem find_no (kb : Nat) (n : Int) (hn : ¬ (1 ≤ n ∧ n ≤ 20)) (w : World) :
  Calls Tryz.prog 59 #[.pointer (some ⟨kb, 0, none⟩), .int .i64 n] w fun e w' => e = .returned (.pointer none) ∧ w' = w := by
 by_cases h1 : n < 1
 ·go_enter Tryz.func59, Tryz.ntmps59
  go_wp2
  go_ret
  exact ⟨rfl, rfl⟩
 ·have h2 : n > 20 := by omega
  go_enter Tryz.func59, Tryz.ntmps59
  go_wp2
  go_ret
  exact ⟨rfl, rfl⟩
theorem find_cell (kb : Nat) (n : Nat) (hn : 1 ≤ n ∧ n ≤ 20) (x : Value) (cs : Array Value) (w : World) (h : Has w kb cs 121) (hc : cs[1 + n]? = some x) :
  Calls Tryz.prog 59 #[.pointer (some ⟨kb, 0, none⟩), .int .i64 n] w fun e w' => e = .returned x ∧ w' = w := by
 have c := h.cell (1 + n)
 rw [hc] at c
 have hlt := h.lt
 clear h hc
 have h1 : ¬ (n : Int) < 1 := by omega
 have h2 : ¬ (n : Int) > 20 := by omega
 have h3 : (n : Int) < 21 := by omega
 have h4 : (0 : Int) ≤ n := by omega
 go_enter Tryz.func59, Tryz.ntmps59
 go_wp2
 go_ret
 exact ⟨rfl, rfl⟩
theorem find_any {w : World} {ow : Nat → Nat} {kb : Nat} {now : Int} {pt : Nat → Option Nat} {fl : Nat → Option (Pla × List Sea)} (h : KeepX w ow kb now pt fl) (n : Nat) (hn : 1 ≤ n ∧ n ≤ 20) :
  Calls Tryz.prog 59 #[.pointer (some ⟨kb, 0, none⟩), .int .i64 n] w fun e w' => e = .returned (pv (pt n)) ∧ w' = w :=
 find_cell kb n hn _ _ w h.has (keep_at now pt n (by omega))
set_option maxHeartbeats 2000000
theorem KeepX.mod {w w' : World} {ow : Nat → Nat} {kb : Nat} {now : Int} {pt : Nat → Option Nat} {fl : Nat → Option (Pla × List Sea)} (h : KeepX w ow kb now pt fl) {S : Nat → Prop} (hm : Mod S w w') (hs : ∀ k, ow k ≠ 0 → ¬ S k) : KeepX w' ow kb now pt fl := by
 refine ⟨hm.has h.has (hs _ (by rw [h.mine]; omega)), h.mine, fun k hk => Nat.lt_of_lt_of_le (h.old k hk) hm.size, h.gone, fun n p l hn hf => ?_⟩
 obtain ⟨b, h1, h2, h3⟩ := h.here n p l hn hf
 exact ⟨b, h1, h2, h3.mod hm (fun k hk => hs k (by omega))⟩
theorem KeepX.flight {w w' : World} {ow : Nat → Nat} {kb : Nat} {now : Int} {pt : Nat → Option Nat} {fl : Nat → Option (Pla × List Sea)} (h : KeepX w ow kb now pt fl) {n : Nat} {b : Nat} {p : Pla} {l : List Sea}
  (hm : Mod (fun k => ow k = n + 2) w w') (hp : pt n = some b) (hw : Wf p l) (hf : FlH w' (fun k => ow k = n + 2) b p l) : KeepX w' ow kb now pt (fun j => if j = n then some (p, l) else fl j) := by
 refine ⟨hm.has h.has (by rw [h.mine]; omega), h.mine, fun k hk => Nat.lt_of_lt_of_le (h.old k hk) hm.size, fun j hj hn => ?_, fun j p' l' hj hn => ?_⟩
 ·by_cases e : j = n
  ·rw [if_pos e] at hn; exact absurd hn (by simp)
  ·rw [if_neg e] at hn; exact h.gone j hj hn
 ·by_cases e : j = n
  ·rw [if_pos e] at hn
   simp only [Option.some.injEq, Prod.mk.injEq] at hn
   obtain ⟨rfl, rfl⟩ := hn
   subst e
   exact ⟨b, hp, hw, hf⟩
  ·rw [if_neg e] at hn
   obtain ⟨b', h1, h2, h3⟩ := h.here j p' l' hj hn
   exact ⟨b', h1, h2, h3.mod hm (fun k hk hk' => by omega)⟩
theorem KeepX.congr {w : World} {ow : Nat → Nat} {kb : Nat} {now : Int} {pt : Nat → Option Nat} {fl fl' : Nat → Option (Pla × List Sea)} (h : KeepX w ow kb now pt fl) (hf : ∀ n, n < 21 → fl n = fl' n) : KeepX w ow kb now pt fl' :=
 ⟨h.has, h.mine, h.old, fun n hn hf' => h.gone n hn (by rw [hf n hn]; exact hf'), fun n p l hn hf' => h.here n p l hn (by rw [hf n hn]; exact hf')⟩
theorem KeepX.later {w : World} {ow : Nat → Nat} {kb : Nat} {now : Int} {pt : Nat → Option Nat} {fl : Nat → Option (Pla × List Sea)} (h : KeepX w ow kb now pt fl) (nw : Int) : KeepX (w.setCell ⟨kb, 0, none⟩ (.int .i64 nw)) ow kb nw pt fl := by
 have hm : Mod (fun k => k = kb) w (w.setCell ⟨kb, 0, none⟩ (.int .i64 nw)) := (Mod.refl _ w).at 0 _
 refine ⟨?_, h.mine, fun k hk => Nat.lt_of_lt_of_le (h.old k hk) hm.size, h.gone, fun n p l hn hf => ?_⟩
 ·have := h.has.set 0 (.int .i64 nw)
  rw [show (keepCells now pt).setIfInBounds 0 (.int .i64 nw) = keepCells nw pt from rfl] at this
  exact this
 ·obtain ⟨b, h1, h2, h3⟩ := h.here n p l hn hf
  exact ⟨b, h1, h2, h3.mod hm (fun k hk e => by subst e; rw [h.mine] at hk; omega)⟩
def tickF (nw : Int) (x : Pla × List Sea) : Pla × List Sea := (tickP nw x.1 x.2, tickSeats nw x.2)
theorem tick_wf {p : Pla} {l : List Sea} (h : Wf p l) (nw : Int) : Wf p (tickSeats nw l) := by
 refine ⟨h.sized, h.limited, by simpa [tickSeats] using h.len, fun i hi => ?_, fun s hs => ?_⟩
 ·have hi' : i < l.length := by simpa [tickSeats] using hi
  have := h.place i hi'
  simp only [tickSeats, List.getElem_map] at this ⊢
  split
  ·exact this
  ·exact this
 ·simp only [tickSeats, List.mem_map] at hs
  obtain ⟨x, hx, rfl⟩ := hs
  split
  ·exact freed_wf x
  ·exact h.seat x hx
theorem tickP_wf {p : Pla} {l : List Sea} (h : Wf p l) (nw : Int) : Wf (tickP nw p l) (tickSeats nw l) := by
 unfold tickP
 split
 ·exact (tick_wf h nw).next
 ·exact tick_wf h nw
theorem passH_any {S : Nat → Prop} {b : Nat} {p : Pla} {l : List Sea} {w : World} (h : FlH w S b p l) (hwf : Wf p l) (now : Int) :
  Calls Tryz.prog 95 #[.agg #[.int .i64 now], .pointer (some ⟨b, 0, none⟩)] w fun e w' => e = .returned (.tuple #[]) ∧ FlH w' S b (tickP now p l) (tickSeats now l) ∧ Mod S w w' := by
 obtain ⟨m, es, clock, h1, h2, h3, h4, h5, h6⟩ := h
 refine (pass_any ⟨h1, h2, h3, h4⟩ hwf now).mono ?_
 rintro e w' ⟨rfl, ⟨es', hx⟩, hm⟩
 exact ⟨rfl, ⟨m, es', clock, hx.has, hx.map, hx.ok, hx.rel, h5, h6⟩, hm.mono (by rintro k _ (rfl | rfl); exact h5; exact h6)⟩
theorem under90 : Tryz.prog.underlying 115 = some (.array 21 114) := by kernel_rfl
theorem size90 : (Tryz.prog.info? 115).map (·.size) = some 21 := by kernel_rfl
def ptrs (pt : Nat → Option Nat) : List Value := [pv (pt 0), pv (pt 1), pv (pt 2), pv (pt 3), pv (pt 4), pv (pt 5), pv (pt 6), pv (pt 7), pv (pt 8), pv (pt 9), pv (pt 10), pv (pt 11), pv (pt 12), pv (pt 13), pv (pt 14), pv (pt 15), pv (pt 16), pv (pt 17), pv (pt 18), pv (pt 19), pv (pt 20)]
theorem idx90 (pt : Nat → Option Nat) (n : Nat) (hn : n < 21) (w : World) : (Instr.index 115 (.agg (ptrs pt).toArray) (.int .i64 (n : Int))).run Tryz.prog w = .ok (pv (pt n)) w := by
 have : n = 0 ∨ n = 1 ∨ n = 2 ∨ n = 3 ∨ n = 4 ∨ n = 5 ∨ n = 6 ∨ n = 7 ∨ n = 8 ∨ n = 9 ∨ n = 10 ∨ n = 11 ∨ n = 12 ∨ n = 13 ∨ n = 14 ∨ n = 15 ∨ n = 16 ∨ n = 17 ∨ n = 18 ∨ n = 19 ∨ n = 20 := by omega
 rcases this with h | h | h | h | h | h | h | h | h | h | h | h | h | h | h | h | h | h | h | h | h <;> (subst h; rfl)
theorem keep_range {w : World} {kb : Nat} {now : Int} {pt : Nat → Option Nat} (h : Has w kb (keepCells now pt) 121) : w.rangeAt kb 1 (ptrs pt) := by
 intro j v hj
 rw [h.cell]
 by_cases hl : j < 21
 ·rw [keep_at now pt j hl]
  have : j = 0 ∨ j = 1 ∨ j = 2 ∨ j = 3 ∨ j = 4 ∨ j = 5 ∨ j = 6 ∨ j = 7 ∨ j = 8 ∨ j = 9 ∨ j = 10 ∨ j = 11 ∨ j = 12 ∨ j = 13 ∨ j = 14 ∨ j = 15 ∨ j = 16 ∨ j = 17 ∨ j = 18 ∨ j = 19 ∨ j = 20 := by omega
  rcases this with h | h | h | h | h | h | h | h | h | h | h | h | h | h | h | h | h | h | h | h | h <;> (subst h; exact hj)
 ·rw [List.getElem?_eq_none (by simp [ptrs]; omega)] at hj
  exact absurd hj (by simp)
theorem kpass_any {w : World} {ow : Nat → Nat} {kb : Nat} {now : Int} {pt : Nat → Option Nat} {fl : Nat → Option (Pla × List Sea)} (h : KeepX w ow kb now pt fl) (nw : Int) :
  Calls Tryz.prog 72 #[.pointer (some ⟨kb, 0, none⟩), .agg #[.int .i64 nw]] w fun e w' =>
   e = .returned (.tuple #[]) ∧ KeepX w' ow kb nw pt (fun n => (fl n).map (tickF nw)) ∧ Mod (fun k => ow k ≠ 0 ∧ ow k < 30) w w' := by
 have hlt := h.has.lt
 have c0 := h.has.cell 0
 rw [show (keepCells now pt)[0]? = some (.int .i64 now) from rfl] at c0
 have fz := h.has.frozen
 have H := hide h
 clear h
 go_enter Tryz.func72, Tryz.ntmps72
 go_upto_region 2 with fail
 have k2 : KeepX ((w.setCell ⟨kb, 0, none⟩ (.int .i64 nw)).alloc (.cells #[.int .i64 nw] 159)) ow kb nw pt fl := ((unhide H).later nw).mod ((Mod.refl No _).alloc _) (fun _ _ x => x)
 have m2 : Mod (fun k => ow k ≠ 0 ∧ ow k < 30) w ((w.setCell ⟨kb, 0, none⟩ (.int .i64 nw)).alloc (.cells #[.int .i64 nw] 159)) := ((Mod.refl _ w).setCell (p := ⟨kb, 0, none⟩) (.inl (by show ow kb ≠ 0 ∧ ow kb < 30; rw [(unhide H).mine]; omega)) _).alloc _
 have b2 : Has ((w.setCell ⟨kb, 0, none⟩ (.int .i64 nw)).alloc (.cells #[.int .i64 nw] 159)) w.heap.size #[.int .i64 nw] 159 := by
  have := Has.new (w.setCell ⟨kb, 0, none⟩ (.int .i64 nw)) #[.int .i64 nw] 159
  rw [World.size_setCell] at this
  exact this
 have n0 := hide (show ow w.heap.size = 0 from by
  by_cases hz : ow w.heap.size = 0
  ·exact hz
  ·exact absurd ((unhide H).old _ hz) (by omega))
 have hr := keep_range k2.has
 have hlt2 := k2.has.lt
 have K2 := hide k2
 have M2 := hide m2
 have B2 := hide b2
 clear k2 m2 b2 H c0 fz
 generalize (w.setCell ⟨kb, 0, none⟩ (.int .i64 nw)).alloc (.cells #[.int .i64 nw] 159) = w2 at *
 go_wp2_with (refine wpList_load_mid rfl 115 _ rfl kb 1 rfl (ptrs pt) (.array 21 114) hr under90 rfl size90 ?_)
 go_loopw [15] (fun i wr => ∃ k : Nat, i = .int .i64 k ∧ k ≤ 21 ∧ Hid (KeepX wr ow kb nw pt (fun n => if n < k then (fl n).map (tickF nw) else fl n)) ∧ Hid (Mod (fun k => ow k ≠ 0 ∧ ow k < 30) w wr) ∧ Hid (Has wr w.heap.size #[.int .i64 nw] 159)) (fun i _ => 21 - (intOf i).toNat)
 case atStart => exact ⟨0, rfl, by omega, (unhide K2).congr (fun n _ => by rw [if_neg (by omega)]), M2, B2⟩
 case round =>
  obtain ⟨k, rfl, hk, K3, M3, B3⟩ := hrel
  clear hr K2 M2 B2 hlt2
  by_cases h21 : k < 21
  ·have hki : (k : Int) < 21 := by omega
   have hk0 : IntKind.i64.wrap ((k : Int) + 1) = ((k + 1 : Nat) : Int) := by rw [wrap_id _ (by omega) (by omega)]; rfl
   have hix := idx90 pt k h21 wr
   cases hfl : fl k with
   | none =>
    have hp := (unhide K3).gone k h21 (by simp [hfl])
    rw [hp] at hix
    rw [show pv none = .pointer none from rfl] at hix
    have K4 := hide ((unhide K3).congr (fl' := fun n => if n < k + 1 then (fl n).map (tickF nw) else fl n) (fun n hn => by
     by_cases e : n = k
     ·subst e; simp [hfl]
     ·by_cases e2 : n < k
      ·simp only [if_pos e2, if_pos (show n < k + 1 by omega)]
      ·simp only [if_neg e2, if_neg (show ¬ n < k + 1 by omega)]))
    clear hfl hp K3
    go_wp2
    exact ⟨⟨k + 1, rfl, by omega, K4, M3, B3⟩, by simp [intOf]; omega⟩
   | some x =>
    obtain ⟨p, l⟩ := x
    obtain ⟨b, hp, hw, hf⟩ := (unhide K3).here k p l h21 (by simp [hfl])
    rw [hp] at hix
    rw [show pv (some b) = .pointer (some ⟨b, 0, none⟩) from rfl] at hix
    have cb := (unhide B3).cell
    have lb := (unhide B3).lt
    have HF := hide (passH_any hf hw nw)
    have HW := hide hw
    have HP := hide hp
    have HFL := hide hfl
    clear hfl hp hw hf
    go_wp2_with fail
    refine (unhide HF).mono ?_
    rintro e w4 ⟨rfl, hf4, hm4⟩
    have K4 := hide (((unhide K3).flight hm4 (unhide HP) (tickP_wf (unhide HW) nw) hf4).congr (fl' := fun n => if n < k + 1 then (fl n).map (tickF nw) else fl n) (fun n hn => by
     by_cases e : n = k
     ·subst e; simp [unhide HFL, tickF]
     ·by_cases e2 : n < k
      ·simp only [if_neg e, if_pos e2, if_pos (show n < k + 1 by omega)]
      ·simp only [if_neg e, if_neg e2, if_neg (show ¬ n < k + 1 by omega)]))
    have M4 := hide ((unhide M3).trans (hm4.mono (fun _ _ (h : ow _ = k + 2) => by show ow _ ≠ 0 ∧ ow _ < 30; omega)))
    have B4 := hide (hm4.has (unhide B3) (by rw [unhide n0]; omega))
    clear hf4 hm4 K3 M3 B3 HF cb
    go_wp2
    exact ⟨⟨k + 1, rfl, by omega, K4, M4, B4⟩, by simp [intOf]; omega⟩
  ·have hki : ¬ (k : Int) < 21 := by omega
   go_wp2
   go_end0
   exact ⟨rfl, (unhide K3).congr (fun n hn => by rw [if_pos (by omega)]), unhide M3⟩
set_option maxHeartbeats 8000000
theorem WorR.parts {w : World} {ow : Nat → Nat} {wb gf cap : Nat} {xs ys : List FR} {now : Int} (h : WorR w ow wb (.slice (some ⟨gf, 0, none⟩) xs.length cap) ys now) (hl : ys.length = xs.length) (hne : 0 < xs.length) : ow gf = 2 ∧ RowF w gf cap ys := by
 rcases h.fls with ⟨rfl, h2⟩ | ⟨gf', cap', h1, h2, h3⟩
 ·simp at hl; omega
 ·injection h1 with e1 e2 e3
  injection e1 with e1
  injection e1 with e1
  subst e1 e3
  exact ⟨h3, h2⟩
theorem tick_step {w w3 : World} {ow : Nat → Nat} {wb gf cap : Nat} {xs : List FR} {nw : Int} {i : Nat} (hi : i < xs.length) (h : WorR w ow wb (.slice (some ⟨gf, 0, none⟩) xs.length cap) (mapTo (tickX nw) i xs) nw)
  (hr : RowS w3 xs[i].g xs[i].cap (tickSeats nw xs[i].f.seats)) (hm : Mod (fun k => k = xs[i].g) w w3) :
  (xs[i].f.seats.any (due nw) = false → WorR w3 ow wb (.slice (some ⟨gf, 0, none⟩) xs.length cap) (mapTo (tickX nw) (i + 1) xs) nw) ∧
  (xs[i].f.seats.any (due nw) = true → WorR (w3.setCell ⟨gf, i * 10 + 9, none⟩ (.int .i64 (IntKind.i64.wrap (xs[i].f.ep + 1)))) ow wb (.slice (some ⟨gf, 0, none⟩) xs.length cap) (mapTo (tickX nw) (i + 1) xs) nw) := by
 have hlt : i < (mapTo (tickX nw) i xs).length := by rw [mapTo_len]; exact hi
 have hg := mapTo_get (tickX nw) i xs hi
 have hs := mapTo_succ (tickX nw) i xs hi
 have hwf : Wf xs[i].f.pla xs[i].f.seats := by have := (h.seats i hlt).2.2; rwa [hg] at this
 have h1 := h.seatsSet (w' := w3) i hlt (tickSeats nw xs[i].f.seats) (by rw [hg]; simp [tickSeats]) (by rw [hg]; exact tick_wf hwf nw) (by rw [hg]; exact hr) (by rw [hg]; exact hm)
 simp only [hg] at h1
 refine ⟨fun hd => ?_, fun hd => ?_⟩
 ·rw [hs]
  unfold tickX
  simp only [hd]
  exact h1
 ·have hl2 : (List.set (mapTo (tickX nw) i xs) i ⟨⟨xs[i].f.num, xs[i].f.pla, tickSeats nw xs[i].f.seats, xs[i].f.ep⟩, xs[i].g, xs[i].cap⟩).length = xs.length := by rw [List.length_set, mapTo_len]
  have e : (Value.slice (some ⟨gf, 0, none⟩) xs.length cap) = .slice (some ⟨gf, 0, none⟩) (List.set (mapTo (tickX nw) i xs) i ⟨⟨xs[i].f.num, xs[i].f.pla, tickSeats nw xs[i].f.seats, xs[i].f.ep⟩, xs[i].g, xs[i].cap⟩).length cap := by rw [hl2]
  rw [e] at h1
  have h2 := h1.epSet i (by rw [hl2]; exact hi) (IntKind.i64.wrap (xs[i].f.ep + 1))
  rw [← e] at h2
  simp only [List.getElem_set_self, List.set_set] at h2
  rw [hs]
  unfold tickX
  simp only [hd, if_true]
  exact h2
theorem tick_row (wb gf cap : Nat) (xs : List FR) (ow : Nat → Nat) (n now : Int) (w : World) (hn : 1 ≤ n ∧ n ≤ 100) (hnow : 0 ≤ now ∧ now ≤ 4611686018427387000) (h : WorR w ow wb (.slice (some ⟨gf, 0, none⟩) xs.length cap) xs now) (hne : 0 < xs.length) :
  Calls Tryz.prog 51 #[.pointer (some ⟨wb, 0, none⟩), .int .i64 n] w fun e w' => e = .returned (.int .i64 0) ∧ WorR w' ow wb (.slice (some ⟨gf, 0, none⟩) xs.length cap) (xs.map (tickX (now + n))) (now + n) ∧ Mod (fun k => ow k ≠ 0) w w' := by
 have hc := h.has.cell
 have hf := h.has.frozen
 have h1 : ¬ n < 1 := by omega
 have h2 : ¬ n > 100 := by omega
 have hw : IntKind.i64.wrap (now + n) = now + n := wrap_fit _ (by omega) (by omega)
 have I0 := hide (h.nowSet (now + n))
 have M0 := hide (show Mod (fun k => ow k ≠ 0) w (w.setCell ⟨wb, 1, none⟩ (.int .i64 (now + n))) from (Mod.refl _ w).setCell (p := ⟨wb, 1, none⟩) (.inl (by show ow wb ≠ 0; rw [h.mine]; omega)) _)
 have few := h.few
 have MINE := hide h.mine
 have NE := hide hne
 clear h hne
 go_enter Tryz.func51, Tryz.ntmps51
 go_wp2_with fail
 go_loopw [5] (fun s5 wr => ∃ i : Nat, s5 = .int .i64 i ∧ i ≤ xs.length ∧ Hid (WorR wr ow wb (.slice (some ⟨gf, 0, none⟩) xs.length cap) (mapTo (tickX (now + n)) i xs) (now + n)) ∧ Hid (Mod (fun k => ow k ≠ 0) w wr)) (fun s5 _ => xs.length - (intOf s5).toNat)
 case atStart => exact ⟨0, rfl, by omega, by rw [mapTo_zero]; exact I0, M0⟩
 case round =>
  obtain ⟨i, rfl, hi, I1, M1⟩ := hrel
  clear I0 M0 hc hf
  have hc1 := (unhide I1).has.cell
  by_cases hix : i < xs.length
  ·have hixi : (i : Int) < (xs.length : Int) := by omega
   have h0i : (0 : Int) ≤ i := by omega
   have hi1 : IntKind.i64.wrap ((i : Int) + 1) = ((i + 1 : Nat) : Int) := by rw [wrap_id _ (by omega) (by omega)]; rfl
   have hlt : i < (mapTo (tickX (now + n)) i xs).length := by rw [mapTo_len]; exact hix
   obtain ⟨og, rf⟩ := (unhide I1).parts (by rw [mapTo_len]) (unhide NE)
   obtain ⟨rs, os, wf⟩ := (unhide I1).seats i hlt
   rw [mapTo_get _ _ _ hix] at rs os wf
   have sl := rf.cell i hlt 8 (by omega)
   have ec := rf.cell i hlt 9 (by omega)
   rw [mapTo_get _ _ _ hix] at sl ec
   have sl : wr.cell? ⟨gf, i * 10 + 8, none⟩ = some (.slice (some ⟨xs[i].g, 0, none⟩) xs[i].f.seats.length xs[i].cap) := sl
   have ec : wr.cell? ⟨gf, i * 10 + 9, none⟩ = some (.int .i64 xs[i].f.ep) := ec
   have nc : wr.cell? ⟨wb, 1, none⟩ = some (.int .i64 (now + n)) := (unhide I1).has.cell 1
   have gne : ¬ gf = xs[i].g := fun e => by rw [e, os] at og; omega
   have wne : ¬ wb = xs[i].g := fun e => by have := unhide MINE; rw [e, os] at this; omega
   have SL := hide fun W (hW : Mod (fun k => k = xs[i].g) wr W) => cell_keep hW sl gne
   have EC := hide fun W (hW : Mod (fun k => k = xs[i].g) wr W) => cell_keep hW ec gne
   have NC := hide fun W (hW : Mod (fun k => k = xs[i].g) wr W) => cell_keep hW nc wne
   have V0 := hide fun W (hW : Mod (fun k => k = xs[i].g) wr W) => (show W.cell? ⟨wb, 0, none⟩ = some (.slice (some ⟨gf, 0, none⟩) xs.length cap) from cell_keep hW ((unhide I1).has.cell 0) wne)
   have GFZ := hide fun W (hW : Mod (fun k => k = xs[i].g) wr W) => (rf.mod hW gne)
   have RS := hide rs
   have WF := hide wf
   have hl120 : xs[i].f.seats.length ≤ 120 := wf_len wf
   have ST := hide fun (w3 : World) => tick_step (w3 := w3) hix (unhide I1)
   have OG := hide og
   have OS := hide os
   clear rs os wf ec nc gne wne rf og
   have hep : ∃ ep, xs[i].f.ep = ep := ⟨_, rfl⟩
   obtain ⟨ep, hep⟩ := hep
   rw [hep] at EC ST
   generalize xs[i].f.seats = l at *
   generalize xs[i].g = g at *
   generalize xs[i].cap = cp at *
   clear hep
   generalize wr = w0 at *
   go_wp2_with fail
   go_loopw [7, 8] (fun s7 s8 wx => ∃ k : Nat, s8 = .int .i64 k ∧ s7 = .bool (anyTo (due (now + n)) k l) ∧ k ≤ l.length ∧ Hid (RowS wx g cp (mapTo (dueF (now + n)) k l)) ∧ Hid (Mod (fun k => k = g) w0 wx)) (fun _ s8 _ => l.length - (intOf s8).toNat)
   case atStart => exact ⟨0, rfl, rfl, by omega, by rw [mapTo_zero]; exact RS, Mod.refl _ _⟩
   case round =>
    obtain ⟨k, rfl, rfl, hk, R2, M2⟩ := hrel
    have sl2 := (unhide SL) _ (unhide M2)
    have nc2 := (unhide NC) _ (unhide M2)
    have v02 := (unhide V0) _ (unhide M2)
    clear hc1 sl RS
    by_cases hkl : k < l.length
    ·have hkli : (k : Int) < (l.length : Int) := by omega
     have h0k : (0 : Int) ≤ k := by omega
     have hk1 : IntKind.i64.wrap ((k : Int) + 1) = ((k + 1 : Nat) : Int) := by rw [wrap_id _ (by omega) (by omega)]; rfl
     have hkm : k < (mapTo (dueF (now + n)) k l).length := by rw [mapTo_len]; exact hkl
     have hgk := mapTo_get (dueF (now + n)) k l hkl
     have HGK := hide hgk
     have MS := hide (mapTo_succ (dueF (now + n)) k l hkl)
     have AS := hide (anyTo_succ (due (now + n)) k l hkl)
     clear hgk
     generalize hga : anyTo (due (now + n)) k l = ga at *
     clear hga
     go_upto_region 12 with fail
     go_cut [71] (fun s71 wx => s71 = .bool (due (now + n) l[k]) ∧ ∃ nq, wx = wr.drewN nq)
     case first =>
      have c2 := (unhide R2).st k hkm
      have c5 := (unhide R2).un k hkm
      rw [unhide HGK] at c2 c5
      by_cases d1 : l[k].st = 1
      ·have e1 : (l[k].st == 1) = true := by simpa using d1
       by_cases d2 : l[k].un ≤ now + n
       ·have e2 : decide (l[k].un ≤ now + n) = true := by simpa using d2
        have HD := hide (show due (now + n) l[k] = true from by unfold due; rw [e1, e2]; rfl)
        clear d1 d2
        go_quiet (fail)
        go_wp2
        go_meet
        exact ⟨by rw [unhide HD], _, rfl⟩
       ·have e2 : decide (l[k].un ≤ now + n) = false := by simpa using d2
        have HD := hide (show due (now + n) l[k] = false from by unfold due; rw [e1, e2]; rfl)
        clear d1 d2
        go_quiet (fail)
        go_wp2
        go_meet
        exact ⟨by rw [unhide HD], _, rfl⟩
      ·have e1 : (l[k].st == 1) = false := by simpa using d1
       have HD := hide (show due (now + n) l[k] = false from by unfold due; rw [e1]; rfl)
       clear d1
       go_quiet (fail)
       go_wp2
       go_meet
       exact ⟨by rw [unhide HD], _, rfl⟩
     case rest =>
      obtain ⟨rfl, nq, rfl⟩ := hcut
      have R3 := hide ((unhide R2).mod ((Mod.refl No wr).drewN nq) (fun x => x))
      have M3 := hide ((unhide M2).drewN nq)
      have sl3 := (unhide SL) _ (unhide M3)
      clear R2 M2 sl2 nc2 v02
      generalize wr.drewN nq = w5 at *
      have hb : due (now + n) l[k] = true ∨ due (now + n) l[k] = false := by cases due (now + n) l[k] <;> simp
      have DF : dueF (now + n) l[k] = if due (now + n) l[k] = true then l[k].freed else l[k] := rfl
      rcases hb with hd | hd
      ·have P6 := hide ((unhide R3).put6 k hkm l[k].freed)
       have c0 := (unhide R3).row k hkm
       have c1 := (unhide R3).col k hkm
       have c2 := (unhide R3).st k hkm
       have c3 := (unhide R3).pa k hkm
       have c4 := (unhide R3).cl k hkm
       have c5 := (unhide R3).un k hkm
       rw [unhide HGK] at c0 c1 c2 c3 c4 c5
       have fz := (unhide R3).froz
       have HA := hide (show anyTo (due (now + n)) (k + 1) l = true from by rw [unhide AS, hd, Bool.or_true])
       have FIN := hide (show Hid (RowS ((((((w5.setCell ⟨g, k * 6, none⟩ (.int .i64 l[k].row)).setCell ⟨g, k * 6 + 1, none⟩ (.int .i64 l[k].col)).setCell ⟨g, k * 6 + 2, none⟩ (.int .i64 0)).setCell ⟨g, k * 6 + 3, none⟩ (.int .i64 0)).setCell ⟨g, k * 6 + 4, none⟩ (.int .i64 0)).setCell ⟨g, k * 6 + 5, none⟩ (.int .i64 0)).drew g cp (mapTo (dueF (now + n)) (k + 1) l)) ∧
         Hid (Mod (fun k => k = g) w0 ((((((w5.setCell ⟨g, k * 6, none⟩ (.int .i64 l[k].row)).setCell ⟨g, k * 6 + 1, none⟩ (.int .i64 l[k].col)).setCell ⟨g, k * 6 + 2, none⟩ (.int .i64 0)).setCell ⟨g, k * 6 + 3, none⟩ (.int .i64 0)).setCell ⟨g, k * 6 + 4, none⟩ (.int .i64 0)).setCell ⟨g, k * 6 + 5, none⟩ (.int .i64 0)).drew) from
        ⟨by rw [unhide MS, DF, if_pos hd]; exact (unhide P6).mod (Mod.refl No _).drew (fun x => x), ((unhide M3).put6 (S := fun k => k = g) rfl k _ _ _ _ _ _).drew⟩)
       rw [hd]
       clear R3 M3 P6 DF HGK MS AS hd
       go_wp2_with fail
       go_region
       all_goals go_wp2
       all_goals exact ⟨⟨k + 1, rfl, by rw [unhide HA], by omega, (unhide FIN).1, (unhide FIN).2⟩, by simp [intOf]; omega⟩
      ·have R4 := hide (show RowS w5 g cp (mapTo (dueF (now + n)) (k + 1) l) from by
        rw [unhide MS, DF, hd, ← unhide HGK]
        simp only [Bool.false_eq_true, if_false, List.set_getElem_self]
        exact unhide R3)
       have HA := hide (show anyTo (due (now + n)) (k + 1) l = ga from by rw [unhide AS, hd, Bool.or_false])
       rw [hd]
       clear R3 DF HGK MS AS hd
       go_wp2
       exact ⟨⟨k + 1, rfl, by rw [unhide HA], by omega, R4, M3⟩, by simp [intOf]; omega⟩
    ·have hkli : ¬ (k : Int) < (l.length : Int) := by omega
     have e : k = l.length := by omega
     subst e
     rw [mapTo_full] at R2
     rw [anyTo_full]
     have R2 := hide (show RowS wr g cp (tickSeats (now + n) l) from unhide R2)
     have ec2 := (unhide EC) _ (unhide M2)
     have fz2 : ∀ o, wr.frozen? ⟨gf, o, none⟩ = false := by
      obtain ⟨cur, q1, _⟩ := ((unhide GFZ) _ (unhide M2)).cur
      exact q1.frozen
     obtain ⟨s1, s2⟩ := (unhide ST) wr (unhide R2) (unhide M2)
     have MG := hide (show Mod (fun k => ow k ≠ 0) w wr from (unhide M1).trans ((unhide M2).mono (fun k _ (e : k = g) => by show ow k ≠ 0; rw [e, unhide OS]; omega)))
     have hb : l.any (due (now + n)) = true ∨ l.any (due (now + n)) = false := by cases l.any (due (now + n)) <;> simp
     rcases hb with hd | hd
     ·have FIN := hide (s2 hd)
      have ogx : ow gf ≠ 0 := by rw [unhide OG]; omega
      have MF := hide (show Mod (fun k => ow k ≠ 0) w (wr.setCell ⟨gf, i * 10 + 9, none⟩ (.int .i64 (IntKind.i64.wrap (ep + 1)))) from (unhide MG).setCell (p := ⟨gf, i * 10 + 9, none⟩) (.inl ogx) _)
      rw [show IntKind.i64.wrap (ep + 1) = wrap64 (ep + 1) from (by unfold wrap64; exact IntKind.wrap_i64 _)] at FIN MF
      rw [hd]
      clear s1 s2 hd R2 M2
      go_wp2
      exact ⟨⟨i + 1, rfl, by omega, FIN, MF⟩, by simp [intOf]; omega⟩
     ·have FIN := hide (s1 hd)
      rw [hd]
      clear s1 s2 hd R2 M2
      go_wp2
      exact ⟨⟨i + 1, rfl, by omega, FIN, MG⟩, by simp [intOf]; omega⟩
  ·have hixi : ¬ (i : Int) < (xs.length : Int) := by omega
   have e : i = xs.length := by omega
   subst e
   rw [mapTo_full] at I1
   clear NE MINE
   go_wp2
   go_ret
   exact ⟨rfl, unhide I1, unhide M1⟩
end Go.Proofs.YthhibagcpjeihaaGreat
