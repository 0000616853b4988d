import Derived.Test.YtlcbemcamdafjaaGreatCdoesRef11Ref12
import Derived.Test.YtlcbemcamdafjaaGreatCdoesPass2
import Derived.Test.YtlcbemcamdafjaaGreatCdoesLook8Ref7
/- The document's world in memory. -/
namespace Go.Proofs.YtlcbemcamdafjaaGreat
open Go.RowKit
open M
set_option linter.unusedVariables false
set_option linter.unusedSimpArgs false
set_option maxRecDepth 100000
set_option maxHeartbeats 4000000

theorem RowF.set {w : World} {gf cap : Nat} {xs : List FR} (h : RowF w gf cap xs) (i : Nat) (hi : i < xs.length) (j : Nat) (hj : j < 10) (v : Value) (x : FR) (hx : friV x = (friV xs[i]).setIfInBounds j v) :
    RowF (w.setCell ⟨gf, i * 10 + j, none⟩ v) gf cap (xs.set i x) := by
  obtain ⟨cur, h1, h2, h3⟩ := h.cur
  refine ⟨⟨_, h1.set (i * 10 + j) v, by simpa using h2, fun i' hi' j' hj' => ?_⟩, by simpa using h.le, h.max⟩
  have hi2 : i' < xs.length := by simpa using hi'
  have hcur : i * 10 + j < cur.size := by
    have := h.le
    omega
  by_cases e : i' = i
  · subst e
    simp only [List.getElem_set_self]
    rw [hx]
    by_cases e2 : j = j'
    · subst e2
      rw [Array.getElem?_setIfInBounds_self_of_lt hcur, Array.getElem?_setIfInBounds_self_of_lt (by simpa [friV] using hj)]
    · rw [Array.getElem?_setIfInBounds_ne (by omega), Array.getElem?_setIfInBounds_ne e2]
      exact h3 _ hi2 _ hj'
  · rw [Array.getElem?_setIfInBounds_ne (by omega), List.getElem_set_ne (fun h => e h.symm)]
    exact h3 _ hi2 _ hj'

/-- A flight whose cells read the same stands for another. -/
theorem RowF.same {w : World} {gf cap : Nat} {xs : List FR} (h : RowF w gf cap xs) (i : Nat) (hi : i < xs.length) (x : FR) (hx : friV x = friV xs[i]) : RowF w gf cap (xs.set i x) := by
  obtain ⟨cur, h1, h2, h3⟩ := h.cur
  refine ⟨⟨cur, h1, h2, fun i' hi' j' hj' => ?_⟩, by simpa using h.le, h.max⟩
  have hi2 : i' < xs.length := by simpa using hi'
  by_cases e : i' = i
  · subst e
    simp only [List.getElem_set_self]
    rw [hx]
    exact h3 _ hi2 _ hj'
  · rw [List.getElem_set_ne (fun h => e h.symm)]
    exact h3 _ hi2 _ hj'

/-- The document's world: whose blocks are whose is said by marks. -/
structure WorR (w : World) (ow : Nat → Nat) (wb : Nat) (v : Value) (xs : List FR) (now : Int) : Prop where
  has : Has w wb #[v, .int .i64 now] 72
  fls : (xs = [] ∧ v = .slice none 0 0) ∨ ∃ gf cap, v = .slice (some ⟨gf, 0, none⟩) xs.length cap ∧ RowF w gf cap xs ∧ ow gf = 2
  mine : ow wb = 1
  old : ∀ k, ow k ≠ 0 → k < w.heap.size
  seats : ∀ i (h : i < xs.length), RowS w xs[i].g xs[i].cap xs[i].f.seats ∧ ow xs[i].g = i + 3 ∧ Wf xs[i].f.pla xs[i].f.seats
  few : xs.length ≤ 20

theorem WorR.mod {w w' : World} {ow : Nat → Nat} {wb : Nat} {v : Value} {xs : List FR} {now : Int} {S : Nat → Prop} (h : WorR w ow wb v xs now) (hm : Mod S w w') (hs : ∀ k, ow k ≠ 0 → ¬ S k) : WorR w' ow wb v xs now := by
  refine ⟨hm.has h.has (hs _ (by rw [h.mine]; omega)), ?_, h.mine, fun k hk => Nat.lt_of_lt_of_le (h.old k hk) hm.size, fun i hi => ?_, h.few⟩
  · rcases h.fls with h1 | ⟨gf, cap, h1, h2, h3⟩
    · exact .inl h1
    · exact .inr ⟨gf, cap, h1, h2.mod hm (hs _ (by rw [h3]; omega)), h3⟩
  · obtain ⟨h1, h2, h3⟩ := h.seats i hi
    exact ⟨h1.mod hm (hs _ (by rw [h2]; omega)), h2, h3⟩

/-- The seats of one flight have been turned. -/
theorem WorR.seatsSet {w w' : World} {ow : Nat → Nat} {wb : Nat} {v : Value} {xs : List FR} {now : Int} (h : WorR w ow wb v xs now) (i : Nat) (hi : i < xs.length) (l' : List Sea) (hl : l'.length = xs[i].f.seats.length) (hwf : Wf xs[i].f.pla l')
    (hr : RowS w' xs[i].g xs[i].cap l') (hm : Mod (fun k => k = xs[i].g) w w') : WorR w' ow wb v (xs.set i ⟨⟨xs[i].f.num, xs[i].f.pla, l', xs[i].f.ep⟩, xs[i].g, xs[i].cap⟩) now := by
  have hg := (h.seats i hi).2.1
  have ne : ∀ k, ow k ≠ i + 3 → ¬ (k = xs[i].g) := fun k hk e => by rw [e] at hk; exact hk hg
  refine ⟨hm.has h.has (ne _ (by rw [h.mine]; omega)), ?_, h.mine, fun k hk => Nat.lt_of_lt_of_le (h.old k hk) hm.size, fun j hj => ?_, by simpa using h.few⟩
  · rcases h.fls with ⟨rfl, _⟩ | ⟨gf, cap, h1, h2, h3⟩
    · exact absurd hi (Nat.not_lt_zero _)
    · refine .inr ⟨gf, cap, by rw [List.length_set]; exact h1, (h2.mod hm (ne _ (by rw [h3]; omega))).same i hi _ ?_, h3⟩
      simp [friV, hl]
  · have hj2 : j < xs.length := by simpa using hj
    by_cases e : j = i
    · subst e
      simp only [List.getElem_set_self]
      exact ⟨hr, hg, hwf⟩
    · rw [List.getElem_set_ne (fun h => e h.symm)]
      obtain ⟨h1, h2, h3⟩ := h.seats j hj2
      exact ⟨h1.mod hm (ne _ (by rw [h2]; omega)), h2, h3⟩

/-- The epoch of one flight has been turned. -/
theorem WorR.epSet {w : World} {ow : Nat → Nat} {wb gf cap : Nat} {xs : List FR} {now : Int} (h : WorR w ow wb (.slice (some ⟨gf, 0, none⟩) xs.length cap) xs now) (i : Nat) (hi : i < xs.length) (ep : Int) :
    WorR (w.setCell ⟨gf, i * 10 + 9, none⟩ (.int .i64 ep)) ow wb (.slice (some ⟨gf, 0, none⟩) xs.length cap) (xs.set i ⟨⟨xs[i].f.num, xs[i].f.pla, xs[i].f.seats, ep⟩, xs[i].g, xs[i].cap⟩) now := by
  have hg : ow gf = 2 ∧ RowF w gf cap xs := by
    rcases h.fls with ⟨rfl, h2⟩ | ⟨gf', cap', h1, h2, h3⟩
    · exact absurd hi (Nat.not_lt_zero _)
    · injection h1 with e1 e2 e3
      injection e1 with e1
      injection e1 with e1
      subst e1 e3
      exact ⟨h3, h2⟩
  have hm : Mod (fun k => k = gf) w (w.setCell ⟨gf, i * 10 + 9, none⟩ (.int .i64 ep)) := (Mod.refl (fun k => k = gf) w).setCell (p := ⟨gf, i * 10 + 9, none⟩) (.inl rfl) _
  have ne : ∀ k, ow k ≠ 2 → ¬ (k = gf) := fun k hk e => by rw [e] at hk; exact hk hg.1
  refine ⟨hm.has h.has (ne _ (by rw [h.mine]; omega)), .inr ⟨gf, cap, by rw [List.length_set], hg.2.set i hi 9 (by omega) _ _ (by simp [friV]), hg.1⟩, h.mine, fun k hk => Nat.lt_of_lt_of_le (h.old k hk) hm.size, fun j hj => ?_, by simpa using h.few⟩
  have hj2 : j < xs.length := by simpa using hj
  obtain ⟨h1, h2, h3⟩ := h.seats j hj2
  by_cases e : j = i
  · subst e
    simp only [List.getElem_set_self]
    exact ⟨h1.mod hm (ne _ (by rw [h2]; omega)), h2, h3⟩
  · rw [List.getElem_set_ne (fun h => e h.symm)]
    exact ⟨h1.mod hm (ne _ (by rw [h2]; omega)), h2, h3⟩

theorem WorR.nowSet {w : World} {ow : Nat → Nat} {wb : Nat} {v : Value} {xs : List FR} {now : Int} (h : WorR w ow wb v xs now) (n : Int) : WorR (w.setCell ⟨wb, 1, none⟩ (.int .i64 n)) ow wb v xs n := by
  have hm : Mod (fun k => k = wb) w (w.setCell ⟨wb, 1, none⟩ (.int .i64 n)) := (Mod.refl (fun k => k = wb) w).setCell (p := ⟨wb, 1, none⟩) (.inl rfl) _
  have ne : ∀ k, ow k ≠ 1 → ¬ (k = wb) := fun k hk e => by rw [e] at hk; exact hk h.mine
  refine ⟨h.has.set 1 _, ?_, h.mine, fun k hk => Nat.lt_of_lt_of_le (h.old k hk) hm.size, fun i hi => ?_, h.few⟩
  · rcases h.fls with h1 | ⟨gf, cap, h1, h2, h3⟩
    · exact .inl h1
    · exact .inr ⟨gf, cap, h1, h2.mod hm (ne _ (by rw [h3]; omega)), h3⟩
  · obtain ⟨h1, h2, h3⟩ := h.seats i hi
    exact ⟨h1.mod hm (ne _ (by rw [h2]; omega)), h2, h3⟩

theorem wf_len {p : Pla} {l : List Sea} (h : Wf p l) : l.length ≤ 120 := Fli.wf.len_le h
/-- A flight of a world, as its functions see it. -/
theorem WorR.fl {w : World} {ow : Nat → Nat} {wb gf cap : Nat} {xs : List FR} {now : Int} (h : WorR w ow wb (.slice (some ⟨gf, 0, none⟩) xs.length cap) xs now) (i : Nat) (hi : i < xs.length) :
    FlR w gf (i * 10) xs[i].g xs[i].cap xs[i].f.pla xs[i].f.seats := by
  have hg : ow gf = 2 ∧ RowF w gf cap xs := by
    rcases h.fls with ⟨rfl, h2⟩ | ⟨gf', cap', h1, h2, h3⟩
    · exact absurd hi (Nat.not_lt_zero _)
    · injection h1 with e1 e2 e3
      injection e1 with e1
      injection e1 with e1
      subst e1 e3
      exact ⟨h3, h2⟩
  obtain ⟨h1, h2, h3⟩ := h.seats i hi
  refine ⟨h1, Nat.le_trans (wf_len h3) (by show 120 ≤ 1000; omega), fun e => by rw [e, h2] at hg; omega, hg.2.cell i hi 8 (by omega), fun j hj => ?_⟩
  have := hg.2.cell i hi (4 + j) (by omega)
  rw [← Nat.add_assoc] at this
  rw [this]
  have : j = 0 ∨ j = 1 ∨ j = 2 ∨ j = 3 := by omega
  rcases this with rfl | rfl | rfl | rfl <;> rfl
end Go.Proofs.YtlcbemcamdafjaaGreat
/- The document's answer: time passes. -/
namespace Go.Proofs.YtlcbemcamdafjaaGreat
open Go.RowKit
open M
set_option linter.unusedVariables false
set_option linter.unusedSimpArgs false
set_option maxRecDepth 100000
set_option maxHeartbeats 8000000

/-- A list, turned up to a place. -/
def mapTo {α : Type} (f : α → α) (k : Nat) (l : List α) : List α := (l.take k).map f ++ l.drop k
theorem mapTo_zero {α : Type} (f : α → α) (l : List α) : mapTo f 0 l = l := by simp [mapTo]
theorem mapTo_full {α : Type} (f : α → α) (l : List α) : mapTo f l.length l = l.map f := by simp [mapTo]
theorem mapTo_len {α : Type} (f : α → α) (k : Nat) (l : List α) : (mapTo f k l).length = l.length := by simp [mapTo]; omega
theorem mapTo_get {α : Type} (f : α → α) (k : Nat) (l : List α) (hk : k < l.length) : (mapTo f k l)[k]'(by rw [mapTo_len]; exact hk) = l[k] := by
  unfold mapTo
  rw [List.getElem_append_right (by simp; omega)]
  simp [Nat.min_eq_left (Nat.le_of_lt hk)]
theorem mapTo_cons {α : Type} (f : α → α) (k : Nat) (x : α) (l : List α) : mapTo f (k + 1) (x :: l) = f x :: mapTo f k l := by simp [mapTo]
theorem mapTo_succ {α : Type} (f : α → α) : ∀ (k : Nat) (l : List α) (hk : k < l.length), mapTo f (k + 1) l = (mapTo f k l).set k (f l[k])
  | _, [], hk => absurd hk (Nat.not_lt_zero _)
  | 0, x :: l, hk => by rw [mapTo_cons, mapTo_zero, mapTo_zero]; rfl
  | k + 1, x :: l, hk => by rw [mapTo_cons, mapTo_succ f k l (by simpa using hk), mapTo_cons]; rfl

def anyTo {α : Type} (f : α → Bool) (k : Nat) (l : List α) : Bool := (l.take k).any f
theorem anyTo_cons {α : Type} (f : α → Bool) (k : Nat) (x : α) (l : List α) : anyTo f (k + 1) (x :: l) = (f x || anyTo f k l) := by simp [anyTo]
theorem anyTo_succ {α : Type} (f : α → Bool) : ∀ (k : Nat) (l : List α) (hk : k < l.length), anyTo f (k + 1) l = (anyTo f k l || f l[k])
  | _, [], hk => absurd hk (Nat.not_lt_zero _)
  | 0, x :: l, hk => by rw [anyTo_cons]; simp [anyTo]
  | k + 1, x :: l, hk => by rw [anyTo_cons, anyTo_succ f k l (by simpa using hk), anyTo_cons, Bool.or_assoc]; rfl
theorem anyTo_full {α : Type} (f : α → Bool) (l : List α) : anyTo f l.length l = l.any f := by simp [anyTo]

def dueF (nw : Int) (s : Sea) : Sea := if due nw s then s.freed else s
def tickX (nw : Int) (x : FR) : FR := ⟨⟨x.f.num, x.f.pla, tickSeats nw x.f.seats, if x.f.seats.any (due nw) then IntKind.i64.wrap (x.f.ep + 1) else x.f.ep⟩, x.g, x.cap⟩

theorem mapTo_wf {p : Pla} {l : List Sea} (h : Wf p l) (nw : Int) : ∀ k, k ≤ l.length → Wf p (mapTo (dueF nw) k l)
  | 0, _ => by rw [mapTo_zero]; exact h
  | k + 1, hk => by
    have ih := mapTo_wf h nw k (by omega)
    rw [mapTo_succ _ _ _ (by omega)]
    have hg := mapTo_get (dueF nw) k l (by omega)
    have hlt : k < (mapTo (dueF nw) k l).length := by rw [mapTo_len]; omega
    unfold dueF
    split
    · exact ih.set hlt (freed_wf _) (by rw [hg]; rfl) (by rw [hg]; rfl)
    · have e : (mapTo (dueF nw) k l).set k l[k] = mapTo (dueF nw) k l := by rw [← hg]; exact List.set_getElem_self _
      have : (mapTo (fun s => if due nw s = true then s.freed else s) k l).set k l[k] = mapTo (dueF nw) k l := e
      rw [this]
      exact ih

theorem tick_out (wb : Nat) (n : Int) (w : World) (h : ¬ (1 ≤ n ∧ n ≤ 100)) :
    Calls Tryz.prog 49 #[.pointer (some ⟨wb, 0, none⟩), .int .i64 n] w fun e w' => e = .returned (.int .i64 8) ∧ w' = w := by
  by_cases h1 : n < 1
  · go_enter Tryz.func49, Tryz.ntmps49
    go_wp2
    go_ret
    exact ⟨rfl, rfl⟩
  · have h2 : n > 100 := by omega
    go_enter Tryz.func49, Tryz.ntmps49
    go_wp2
    go_ret
    exact ⟨rfl, rfl⟩

theorem tick_none (wb : Nat) (n now : Int) (w : World) (hn : 1 ≤ n ∧ n ≤ 100) (hnow : 0 ≤ now ∧ now ≤ 4611686018427387000) (h : Has w wb #[.slice none 0 0, .int .i64 now] 72) :
    Calls Tryz.prog 49 #[.pointer (some ⟨wb, 0, none⟩), .int .i64 n] w fun e w' => e = .returned (.int .i64 0) ∧ w' = w.setCell ⟨wb, 1, none⟩ (.int .i64 (now + n)) := by
  have hc := h.cell
  have hf := h.frozen
  have h1 : ¬ n < 1 := by omega
  have h2 : ¬ n > 100 := by omega
  have hw : IntKind.i64.wrap (now + n) = now + n := wrap_fit _ (by omega) (by omega)
  clear h
  go_enter Tryz.func49, Tryz.ntmps49
  go_wp2_with fail
  go_loopw [5] (fun s5 wr => s5 = .int .i64 0 ∧ wr = w.setCell ⟨wb, 1, none⟩ (.int .i64 (now + n))) (fun _ _ => 0)
  case atStart => exact ⟨rfl, rfl⟩
  case round =>
    obtain ⟨rfl, rfl⟩ := hrel
    go_wp2
    go_ret
    exact ⟨rfl, rfl⟩
end Go.Proofs.YtlcbemcamdafjaaGreat
/- A keeper in memory; its time; its flights by their numbers. -/
namespace Go.Proofs.YtlcbemcamdafjaaGreat
open Go.RowKit
open Go.ChangeMaps (setBlock)
open M
set_option linter.unusedVariables false
set_option linter.unusedSimpArgs false
set_option maxRecDepth 100000

/-- A pointer that may be nil. -/
def pv (x : Option Nat) : Value := .pointer (x.map fun b => ⟨b, 0, none⟩)
def keepCells (now : Int) (pt : Nat → Option Nat) : Array Value :=
  #[.int .i64 now, pv (pt 0), pv (pt 1), pv (pt 2), pv (pt 3), pv (pt 4), pv (pt 5), pv (pt 6), pv (pt 7), pv (pt 8), pv (pt 9), pv (pt 10), pv (pt 11), pv (pt 12), pv (pt 13), pv (pt 14), pv (pt 15), pv (pt 16), pv (pt 17), pv (pt 18), pv (pt 19), pv (pt 20), .map (pt 21), .map (pt 22), .map (pt 23), .map (pt 24), .map (pt 25), .map (pt 26), .map (pt 27), .map (pt 28)]

theorem keep_at (now : Int) (pt : Nat → Option Nat) (n : Nat) (hn : n < 21) : (keepCells now pt)[1 + n]? = some (pv (pt n)) := by
  have : n = 0 ∨ n = 1 ∨ n = 2 ∨ n = 3 ∨ n = 4 ∨ n = 5 ∨ n = 6 ∨ n = 7 ∨ n = 8 ∨ n = 9 ∨ n = 10 ∨ n = 11 ∨ n = 12 ∨ n = 13 ∨ n = 14 ∨ n = 15 ∨ n = 16 ∨ n = 17 ∨ n = 18 ∨ n = 19 ∨ n = 20 := by omega
  rcases this with h | h | h | h | h | h | h | h | h | h | h | h | h | h | h | h | h | h | h | h | h <;> (subst h; rfl)

/-- Behind the flights stand the followers. -/
theorem keep_far (now : Int) (pt : Nat → Option Nat) (i : Nat) (hi : i < 8) : (keepCells now pt)[22 + i]? = some (.map (pt (21 + i))) := by
  have : i = 0 ∨ i = 1 ∨ i = 2 ∨ i = 3 ∨ i = 4 ∨ i = 5 ∨ i = 6 ∨ i = 7 := by omega
  rcases this with h | h | h | h | h | h | h | h <;> (subst h; rfl)

def updP (pt : Nat → Option Nat) (n b : Nat) : Nat → Option Nat := fun j => if j = n then some b else pt j

theorem keep_set (now : Int) (pt : Nat → Option Nat) (n b : Nat) (hn : n < 21) : (keepCells now pt).setIfInBounds (1 + n) (pv (some b)) = keepCells now (updP pt n b) := by
  have : n = 0 ∨ n = 1 ∨ n = 2 ∨ n = 3 ∨ n = 4 ∨ n = 5 ∨ n = 6 ∨ n = 7 ∨ n = 8 ∨ n = 9 ∨ n = 10 ∨ n = 11 ∨ n = 12 ∨ n = 13 ∨ n = 14 ∨ n = 15 ∨ n = 16 ∨ n = 17 ∨ n = 18 ∨ n = 19 ∨ n = 20 := by omega
  rcases this with h | h | h | h | h | h | h | h | h | h | h | h | h | h | h | h | h | h | h | h | h <;> (subst h; rfl)

/-- The flights of a keeper: what the owners' marks say is whose. -/
structure KeepX (w : World) (ow : Nat → Nat) (kb : Nat) (now : Int) (pt : Nat → Option Nat) (fl : Nat → Option (Pla × List Sea)) : Prop where
  has : Has w kb (keepCells now pt) 116
  mine : ow kb = 1
  old : ∀ k, ow k ≠ 0 → k < w.heap.size
  gone : ∀ n, n < 21 → fl n = none → pt n = none
  here : ∀ n p l, n < 21 → fl n = some (p, l) → ∃ b, pt n = some b ∧ Wf p l ∧ FlH w (fun k => ow k = n + 2) b p l

theorem now_any {w : World} {ow : Nat → Nat} {kb : Nat} {now : Int} {pt : Nat → Option Nat} {fl : Nat → Option (Pla × List Sea)} (h : KeepX w ow kb now pt fl) :
    Calls Tryz.prog 32 #[.pointer (some ⟨kb, 0, none⟩)] w fun e w' => e = .returned (.int .i64 now) ∧ w' = w := by
  have c0 := h.has.cell 0
  rw [show (keepCells now pt)[0]? = some (.int .i64 now) from rfl] at c0
  have hlt := h.has.lt
  clear h
  go_enter Tryz.func32, Tryz.ntmps32
  go_wp2
  go_ret
  exact ⟨rfl, rfl⟩

theorem find_no (kb : Nat) (n : Int) (hn : ¬ (1 ≤ n ∧ n ≤ 20)) (w : World) :
    Calls Tryz.prog 55 #[.pointer (some ⟨kb, 0, none⟩), .int .i64 n] w fun e w' => e = .returned (.pointer none) ∧ w' = w := by
  by_cases h1 : n < 1
  · go_enter Tryz.func55, Tryz.ntmps55
    go_wp2
    go_ret
    exact ⟨rfl, rfl⟩
  · have h2 : n > 20 := by omega
    go_enter Tryz.func55, Tryz.ntmps55
    go_wp2
    go_ret
    exact ⟨rfl, rfl⟩

theorem find_cell (kb : Nat) (n : Nat) (hn : 1 ≤ n ∧ n ≤ 20) (x : Value) (cs : Array Value) (w : World) (h : Has w kb cs 116) (hc : cs[1 + n]? = some x) :
    Calls Tryz.prog 55 #[.pointer (some ⟨kb, 0, none⟩), .int .i64 n] w fun e w' => e = .returned x ∧ w' = w := by
  have c := h.cell (1 + n)
  rw [hc] at c
  have hlt := h.lt
  clear h hc
  have h1 : ¬ (n : Int) < 1 := by omega
  have h2 : ¬ (n : Int) > 20 := by omega
  have h3 : (n : Int) < 21 := by omega
  have h4 : (0 : Int) ≤ n := by omega
  go_enter Tryz.func55, Tryz.ntmps55
  go_wp2
  go_ret
  exact ⟨rfl, rfl⟩

theorem find_any {w : World} {ow : Nat → Nat} {kb : Nat} {now : Int} {pt : Nat → Option Nat} {fl : Nat → Option (Pla × List Sea)} (h : KeepX w ow kb now pt fl) (n : Nat) (hn : 1 ≤ n ∧ n ≤ 20) :
    Calls Tryz.prog 55 #[.pointer (some ⟨kb, 0, none⟩), .int .i64 n] w fun e w' => e = .returned (pv (pt n)) ∧ w' = w :=
  find_cell kb n hn _ _ w h.has (keep_at now pt n (by omega))
end Go.Proofs.YtlcbemcamdafjaaGreat
