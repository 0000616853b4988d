import Derived.Test.YthhibagcpjeihaaGreatIRef13ToRef15
import Derived.Test.YthhibagcpjeihaaGreatISwap5ToTape
import Derived.Test.YthhibagcpjeihaaGreatIRef27ToRef25
import Derived.Test.YthhibagcpjeihaaGreatIRef16ToSwap1
import Derived.Test.YthhibagcpjeihaaGreatISav1ToOpen
namespace Go.Proofs.YthhibagcpjeihaaGreat
open M
set_option linter.unusedVariables false
set_option linter.unusedSimpArgs false
def flOf (xs : List FR) : Nat → Option (Pla × List Sea) := fun n => (xs.find? (fun x => x.f.num == (n : Int))).map fun x => (x.f.pla.at x.f.ep, x.f.seats)
theorem tickX_at (nw : Int) (x : FR) : ((tickX nw x).f.pla.at (tickX nw x).f.ep, (tickX nw x).f.seats) = tickF nw (x.f.pla.at x.f.ep, x.f.seats) := by
 unfold tickF tickX tickP anyDue
 simp only
 cases x.f.seats.any (due nw) <;> rfl
theorem flOf_tick (xs : List FR) (nw : Int) (n : Nat) : flOf (xs.map (tickX nw)) n = (flOf xs n).map (tickF nw) := by
 unfold flOf
 induction xs with
 | nil => rfl
 | cons x xs ih =>
  simp only [List.map_cons, List.find?_cons]
  have e : (tickX nw x).f.num = x.f.num := rfl
  rw [e]
  cases h : (x.f.num == (n : Int)) with
  | true =>
   simp only [Option.map_some]
   rw [tickX_at]
  | false => exact ih
theorem findN_cases (xs : List FR) (n : Int) : findN xs n = -1 ∨ ∃ i, ∃ hi : i < xs.length, findN xs n = i ∧ xs[i].f.num = n := by
 unfold findN
 cases h : xs.findIdx? (fun x => x.f.num == n) with
 | none => exact .inl rfl
 | some i =>
  obtain ⟨hi, h1, _⟩ := List.findIdx?_eq_some_iff_getElem.1 h
  exact .inr ⟨i, hi, rfl, by simpa using h1⟩
theorem flOf_none (xs : List FR) (n : Nat) (h : findN xs n = -1) : flOf xs n = none := by
 unfold findN at h
 cases h2 : xs.findIdx? (fun x => x.f.num == (n : Int)) with
 | none =>
  rw [List.findIdx?_eq_none_iff] at h2
  unfold flOf
  rw [List.find?_eq_none.2 (fun x hx => by have := h2 x hx; simpa using this)]
  rfl
 | some i => rw [h2] at h; simp only at h; omega
theorem flOf_some (xs : List FR) (n i : Nat) (hi : i < xs.length) (h : findN xs n = i) : flOf xs n = some (xs[i].f.pla.at xs[i].f.ep, xs[i].f.seats) := by
 unfold findN at h
 cases h2 : xs.findIdx? (fun x => x.f.num == (n : Int)) with
 | none => rw [h2] at h; simp only at h; omega
 | some j =>
  rw [h2] at h
  have e : j = i := by simp only at h; omega
  subst e
  obtain ⟨_, h3, h4⟩ := List.findIdx?_eq_some_iff_getElem.1 h2
  unfold flOf
  have hf : xs.find? (fun x => x.f.num == (n : Int)) = some xs[j] := List.find?_eq_some_iff_getElem.2 ⟨h3, j, hi, rfl, fun k hk => by simpa using h4 k hk⟩
  rw [hf]
  rfl
theorem flOf_set (xs : List FR) (n i : Nat) (hi : i < xs.length) (h : findN xs n = i) (x : FR) (hx : x.f.num = xs[i].f.num) (j : Nat) : flOf (xs.set i x) j = if j = n then some (x.f.pla.at x.f.ep, x.f.seats) else flOf xs j := by
 have hn : xs[i].f.num = (n : Int) := by
  rcases findN_cases xs n with h1 | ⟨k, hk, h1, h2⟩
  ·omega
  ·have : k = i := by omega
   subst this
   exact h2
 have key : ∀ (ys : List FR) (k : Nat) (hk : k < ys.length), ys[k].f.num = (n : Int) → (∀ q, ∀ hq : q < ys.length, q < k → ys[q].f.num ≠ (n : Int)) → x.f.num = (n : Int) → flOf (ys.set k x) j = if j = n then some (x.f.pla.at x.f.ep, x.f.seats) else flOf ys j := by
  intro ys
  induction ys with
  | nil => intro k hk; exact absurd hk (Nat.not_lt_zero _)
  | cons y ys ih =>
   intro k hk h1 h2 h3
   cases k with
   | zero =>
    simp only [List.getElem_cons_zero] at h1
    unfold flOf
    simp only [List.set_cons_zero, List.find?_cons]
    by_cases e : j = n
    ·subst e
     simp [h3]
    ·have e1 : (x.f.num == (j : Int)) = false := by rw [h3]; simp; omega
     have e2 : (y.f.num == (j : Int)) = false := by rw [h1]; simp; omega
     rw [e1, e2, if_neg e]
   | succ k =>
    have h4 := h2 0 (by simp) (by omega)
    simp only [List.getElem_cons_zero] at h4
    have ih2 := ih k (by simpa using hk) (by simpa using h1) (fun q hq hqk => by have := h2 (q + 1) (by simpa using hq) (by omega); simpa using this) h3
    unfold flOf at ih2 ⊢
    simp only [List.set_cons_succ, List.find?_cons]
    cases hy : (y.f.num == (j : Int)) with
    | true =>
     have : j ≠ n := fun e => by subst e; exact h4 (by simpa using hy)
     simp [this]
    | false => exact ih2
 refine key xs i hi hn (fun q hq hqi e => ?_) (by rw [hx]; exact hn)
 unfold findN at h
 cases h2 : xs.findIdx? (fun x => x.f.num == (n : Int)) with
 | none => rw [h2] at h; simp only at h; omega
 | some k =>
  rw [h2] at h
  have e2 : k = i := by simp only at h; omega
  subst e2
  obtain ⟨_, _, h4⟩ := List.findIdx?_eq_some_iff_getElem.1 h2
  have := h4 q hqi
  simp [e] at this
open Go.RowKit
structure Same (xs : List FR) (fl : Nat → Option (Pla × List Sea)) : Prop where
 sort : xs.Pairwise (fun x y => x.f.num < y.f.num)
 rng : ∀ x ∈ xs, 1 ≤ x.f.num ∧ x.f.num ≤ 20
 eq : ∀ n, n < 21 → fl n = flOf xs n
theorem sorted_len : ∀ (xs : List FR) (lo : Int), xs.Pairwise (fun x y => x.f.num < y.f.num) → (∀ x ∈ xs, lo < x.f.num ∧ x.f.num ≤ 20) → lo ≤ 20 → (xs.length : Int) ≤ 20 - lo
 | [], lo, _, _, h => by simp; omega
 | x :: xs, lo, hp, hr, h => by
  have hp := List.pairwise_cons.1 hp
  have hx := hr x (by simp)
  have := sorted_len xs x.f.num hp.2 (fun y hy => ⟨hp.1 y hy, (hr y (by simp [hy])).2⟩) hx.2
  simp only [List.length_cons]
  omega
theorem Same.find {xs : List FR} {fl : Nat → Option (Pla × List Sea)} (h : Same xs fl) (c : Int) (hc : 1 ≤ c ∧ c ≤ 20) :
  (findN xs c = -1 ∧ fl c.toNat = none) ∨ ∃ i, ∃ hi : i < xs.length, findN xs c = i ∧ xs[i].f.num = c ∧ fl c.toNat = some (xs[i].f.pla.at xs[i].f.ep, xs[i].f.seats) := by
 have hn : ((c.toNat : Nat) : Int) = c := by omega
 rcases findN_cases xs c with h1 | ⟨i, hi, h1, h2⟩
 ·refine .inl ⟨h1, ?_⟩
  rw [h.eq _ (by omega)]
  exact flOf_none xs _ (by rw [hn]; exact h1)
 ·refine .inr ⟨i, hi, h1, h2, ?_⟩
  rw [h.eq _ (by omega)]
  exact flOf_some xs _ i hi (by rw [hn]; exact h1)
theorem Same.tick {xs : List FR} {fl : Nat → Option (Pla × List Sea)} (h : Same xs fl) (nw : Int) : Same (xs.map (tickX nw)) (fun n => (fl n).map (tickF nw)) := by
 refine ⟨List.pairwise_map.2 h.sort, fun x hx => ?_, fun n hn => ?_⟩
 ·obtain ⟨y, hy, rfl⟩ := List.mem_map.1 hx
  exact h.rng y hy
 ·rw [flOf_tick]
  exact congrArg (Option.map (tickF nw)) (h.eq n hn)
theorem Same.set {xs : List FR} {fl : Nat → Option (Pla × List Sea)} (h : Same xs fl) (c : Int) (hc : 1 ≤ c ∧ c ≤ 20) (i : Nat) (hi : i < xs.length) (hf : findN xs c = i) (x : FR) (hx : x.f.num = xs[i].f.num) (y : Pla × List Sea) (hy : (x.f.pla.at x.f.ep, x.f.seats) = y) :
  Same (xs.set i x) (fun j => if j = c.toNat then some y else fl j) := by
 have hn : ((c.toNat : Nat) : Int) = c := by omega
 refine ⟨?_, fun z hz => ?_, fun n hn' => ?_⟩
 ·rw [List.pairwise_iff_getElem]
  intro a b ha hb hab
  have ha' : a < xs.length := by simpa using ha
  have hb' : b < xs.length := by simpa using hb
  have := (List.pairwise_iff_getElem.1 h.sort) a b ha' hb' hab
  rw [List.getElem_set, List.getElem_set]
  split
  ·rename_i e1
   subst e1
   rw [if_neg (by omega), hx]
   exact this
  ·split
   ·rename_i e2
    subst e2
    rw [hx]
    exact this
   ·exact this
 ·obtain ⟨a, ha, rfl⟩ := List.getElem_of_mem hz
  have ha' : a < xs.length := by simpa using ha
  rw [List.getElem_set]
  split
  ·rw [hx]; exact h.rng _ (List.getElem_mem hi)
  ·exact h.rng _ (List.getElem_mem ha')
 ·rw [flOf_set xs c.toNat i hi (by rw [hn]; exact hf) x hx n, hy]
  by_cases e : n = c.toNat
  ·rw [if_pos e, if_pos e]
  ·rw [if_neg e, if_neg e, h.eq n hn']
theorem flOf_ins (xs : List FR) (x : FR) (n : Nat) (c : Nat) (hx : x.f.num = (c : Int)) (hno : ∀ y ∈ xs, y.f.num ≠ (c : Int)) (j : Nat) :
  flOf (xs.take n ++ x :: xs.drop n) j = if j = c then some (x.f.pla.at x.f.ep, x.f.seats) else flOf xs j := by
 unfold flOf
 rw [List.find?_append, List.find?_cons]
 by_cases e : j = c
 ·subst e
  rw [if_pos rfl]
  have h1 : (xs.take n).find? (fun y => y.f.num == (j : Int)) = none := List.find?_eq_none.2 (fun y hy => by have := hno y (List.mem_of_mem_take hy); simpa using this)
  rw [h1]
  simp [hx]
 ·rw [if_neg e]
  have e1 : (x.f.num == (j : Int)) = false := by rw [hx]; simp; omega
  rw [e1]
  have : xs.find? (fun y => y.f.num == (j : Int)) = ((xs.take n).find? (fun y => y.f.num == (j : Int))).or ((xs.drop n).find? (fun y => y.f.num == (j : Int))) := by
   rw [← List.find?_append, List.take_append_drop]
  rw [this]
theorem findN_miss {xs : List FR} {c : Int} (h : findN xs c = -1) : ∀ y ∈ xs, y.f.num ≠ c := by
 intro y hy e
 unfold findN at h
 cases h2 : xs.findIdx? (fun x => x.f.num == c) with
 | none =>
  rw [List.findIdx?_eq_none_iff] at h2
  have := h2 y hy
  simp [e] at this
 | some i => rw [h2] at h; simp only at h; omega
theorem Same.insert {xs : List FR} {fl : Nat → Option (Pla × List Sea)} (h : Same xs fl) (c : Int) (hc : 1 ≤ c ∧ c ≤ 20) (hf : findN xs c = -1) (n : Nat) (hn : n ≤ xs.length) (hlo : ∀ j (hj : j < xs.length), j < n → xs[j].f.num < c) (hhi : ∀ hj : n < xs.length, ¬ xs[n].f.num < c) (x : FR) (hx : x.f.num = c) (y : Pla × List Sea) (hy : (x.f.pla.at x.f.ep, x.f.seats) = y) :
  Same (xs.take n ++ x :: xs.drop n) (fun j => if j = c.toNat then some y else fl j) ∧ xs.length < 20 := by
 have hno := findN_miss hf
 have hcn : ((c.toNat : Nat) : Int) = c := by omega
 have hs : (xs.take n ++ x :: xs.drop n).Pairwise (fun x y => x.f.num < y.f.num) := by
  have htl : ∀ a ∈ xs.take n, a.f.num < c := fun a ha => by
   obtain ⟨j, hj, rfl⟩ := List.getElem_of_mem ha
   have hj' : j < n ∧ j < xs.length := by rw [List.length_take] at hj; omega
   rw [List.getElem_take]
   exact hlo j hj'.2 hj'.1
  have hdr : ∀ b ∈ xs.drop n, c < b.f.num := fun b hb => by
   obtain ⟨j, hj, rfl⟩ := List.getElem_of_mem hb
   have hj' : n + j < xs.length := by rw [List.length_drop] at hj; omega
   rw [List.getElem_drop]
   have h1 := hhi (by omega)
   have h2 := hno _ (List.getElem_mem (show n < xs.length by omega))
   rcases Nat.eq_zero_or_pos j with e | e
   ·subst e; simp only [Nat.add_zero]; omega
   ·have := (List.pairwise_iff_getElem.1 h.sort) n (n + j) (by omega) hj' (by omega)
    omega
  refine List.pairwise_append.2 ⟨h.sort.sublist (List.take_sublist n xs), List.pairwise_cons.2 ⟨fun b hb => by rw [hx]; exact hdr b hb, h.sort.sublist (List.drop_sublist n xs)⟩, fun a ha b hb => ?_⟩
  rcases List.mem_cons.1 hb with rfl | hb
  ·rw [hx]; exact htl a ha
  ·have := htl a ha
   have := hdr b hb
   omega
 have hr : ∀ z ∈ xs.take n ++ x :: xs.drop n, 1 ≤ z.f.num ∧ z.f.num ≤ 20 := fun z hz => by
  rcases List.mem_append.1 hz with hz | hz
  ·exact h.rng z (List.mem_of_mem_take hz)
  ·rcases List.mem_cons.1 hz with rfl | hz
   ·rw [hx]; exact hc
   ·exact h.rng z (List.mem_of_mem_drop hz)
 refine ⟨⟨hs, hr, fun j hj => ?_⟩, ?_⟩
 ·rw [flOf_ins xs x n c.toNat (by rw [hcn]; exact hx) (by rw [hcn]; exact hno) j, hy]
  by_cases e : j = c.toNat
  ·rw [if_pos e, if_pos e]
  ·rw [if_neg e, if_neg e, h.eq j hj]
 ·have := sorted_len _ 0 hs (fun z hz => ⟨by have := hr z hz; omega, (hr z hz).2⟩) (by omega)
  simp at this
  omega
set_option maxRecDepth 100000
set_option maxHeartbeats 4000000
structure WDone (w w' : World) (ow : Nat → Nat) (wb : Nat) (now : Int) (fl : Nat → Option (Pla × List Sea)) : Prop where
 ex : ∃ v ys ow', WorR w' ow' wb v ys now ∧ Same ys fl ∧ (∀ k, ow' k ≠ 0 → ow k ≠ 0 ∨ w.heap.size ≤ k) ∧ (ys = [] → v = .slice none 0 0)
 mod : Mod (fun k => ow k ≠ 0) w w'
theorem WDone.same {w w' : World} {ow : Nat → Nat} {wb : Nat} {v : Value} {xs : List FR} {now : Int} {fl : Nat → Option (Pla × List Sea)} (h : WorR w ow wb v xs now) (hs : Same xs fl) (hv : xs = [] → v = .slice none 0 0) (hm : Mod No w w') : WDone w w' ow wb now fl :=
 ⟨⟨v, xs, ow, h.mod hm (fun _ _ x => x), hs, fun k hk => .inl hk, hv⟩, hm.mono (fun _ _ x => x.elim)⟩
theorem WDone.first {a w w' : World} {ow : Nat → Nat} {wb : Nat} {now : Int} {fl : Nat → Option (Pla × List Sea)} (h : WDone w w' ow wb now fl) (hm : Mod No a w) : WDone a w' ow wb now fl := by
 obtain ⟨⟨v, ys, ow', h1, h2, h3, h5⟩, h4⟩ := h
 exact ⟨⟨v, ys, ow', h1, h2, fun k hk => (h3 k hk).imp (fun x => x) (fun x => Nat.le_trans hm.size x), h5⟩, (hm.mono (fun _ _ x => x.elim)).trans h4⟩
theorem lim_ep (p : Pla) (e : Int) (j : Nat) : (p.at e).lim j = p.lim j := by
 match j with
 | 0 => rfl
 | 1 => rfl
 | 2 => rfl
 | _ + 3 => rfl
theorem least_ep (p : Pla) (e : Int) (l : List Sea) : ∀ c, leastTo (p.at e) l c = leastTo p l c
 | 0 => rfl
 | c + 1 => by
  unfold leastTo
  rw [least_ep p e l c, lim_ep]
theorem left_ep (p : Pla) (e : Int) (l : List Sea) (c : Nat) : M.leftOf (p.at e) l c = M.leftOf p l c := by
 unfold M.leftOf
 rw [least_ep]
theorem seatErr_ep (p : Pla) (e : Int) (l : List Sea) (c : Cmd) (now : Int) : seatErr (p.at e) l c now = seatErr p l c now := by
 have h1 : ∀ r q, (p.at e).has r q = p.has r q := fun _ _ => rfl
 have h2 : ∀ r q, seatAt (p.at e) l r q = seatAt p l r q := fun _ _ => rfl
 unfold seatErr
 simp only [h1, h2, left_ep]
theorem seatNew_ep (p : Pla) (e : Int) (l : List Sea) (c : Cmd) (hk : c.kind ≠ 9) : seatNew (p.at e) l c = seatNew p l c := by
 have h1 : ∀ r q, (p.at e).idx r q = p.idx r q := fun _ _ => rfl
 have h2 : ∀ r q, seatAt (p.at e) l r q = seatAt p l r q := fun _ _ => rfl
 unfold seatNew
 rw [if_neg hk, if_neg hk]
 simp only [h1, h2]
theorem doK_bad {now : Int} {fl : Nat → Option (Pla × List Sea)} {c : Cmd} (h : c.kind < 1 ∨ c.kind > 9) : doK now fl c = (1, now, fl) := by
 unfold doK
 rw [if_pos h]
theorem doK_tick {now : Int} {fl : Nat → Option (Pla × List Sea)} {c : Cmd} (h : c.kind = 8) (ht : 1 ≤ c.time ∧ c.time ≤ 100) : doK now fl c = (0, now + c.time, fun n => (fl n).map (tickF (now + c.time))) := by
 unfold doK
 rw [if_neg (by omega), if_pos h, if_pos ht]
theorem doK_tock {now : Int} {fl : Nat → Option (Pla × List Sea)} {c : Cmd} (h : c.kind = 8) (ht : ¬ (1 ≤ c.time ∧ c.time ≤ 100)) : doK now fl c = (8, now, fl) := by
 unfold doK
 rw [if_neg (by omega), if_pos h, if_neg ht]
theorem doK_num {now : Int} {fl : Nat → Option (Pla × List Sea)} {c : Cmd} (h : ¬ (c.kind < 1 ∨ c.kind > 9)) (h8 : c.kind ≠ 8) (hf : ¬ (1 ≤ c.flight ∧ c.flight ≤ 20)) : doK now fl c = (2, now, fl) := by
 unfold doK
 rw [if_neg h, if_neg h8, if_pos hf]
theorem doK_none {now : Int} {fl : Nat → Option (Pla × List Sea)} {c : Cmd} (h : ¬ (c.kind < 1 ∨ c.kind > 9)) (h8 : c.kind ≠ 8) (hf : 1 ≤ c.flight ∧ c.flight ≤ 20) (hn : fl c.flight.toNat = none) :
  doK now fl c = if c.kind = 1 then (if c.pla.sized = true ∧ c.pla.limited = true then (0, now, fun j => if j = c.flight.toNat then some (c.pla.at 1, emptySeats c.pla) else fl j) else (4, now, fl)) else (2, now, fl) := by
 unfold doK
 rw [if_neg h, if_neg h8, if_neg (by omega), hn]
theorem doK_some {now : Int} {fl : Nat → Option (Pla × List Sea)} {c : Cmd} (h : ¬ (c.kind < 1 ∨ c.kind > 9)) (h8 : c.kind ≠ 8) (hf : 1 ≤ c.flight ∧ c.flight ≤ 20) {x : Pla × List Sea} (hn : fl c.flight.toNat = some x) :
  doK now fl c = if c.kind = 1 then (3, now, fl) else if seatErr x.1 x.2 c now = 0 then (0, now, fun j => if j = c.flight.toNat then some (planNew x.1 c, seatNew x.1 x.2 c) else fl j) else (seatErr x.1 x.2 c now, now, fl) := by
 unfold doK
 rw [if_neg h, if_neg h8, if_neg (by omega), hn]
theorem seatX_same (c : Cmd) (hk : c.kind ≠ 9) (now : Int) (x : FR) (h : seatErr x.f.pla x.f.seats c now = 0) :
  ((seatX c now x).f.pla.at (seatX c now x).f.ep, (seatX c now x).f.seats) = (planNew (x.f.pla.at x.f.ep) c, seatNew (x.f.pla.at x.f.ep) x.f.seats c) := by
 unfold seatX seatL planNew
 simp only
 rw [if_pos h, if_pos h, if_neg hk, seatNew_ep _ _ _ _ hk]
 rfl
theorem seatX_not (c : Cmd) (now : Int) (x : FR) (h : seatErr x.f.pla x.f.seats c now ≠ 0) : seatX c now x = x := by
 unfold seatX seatL
 rw [if_neg h, if_neg h]
theorem spot : ∀ (xs : List FR) (c : Int), ∃ n, n ≤ xs.length ∧ (∀ j (hj : j < xs.length), j < n → xs[j].f.num < c) ∧ ∀ hj : n < xs.length, ¬ xs[n].f.num < c
 | [], c => ⟨0, Nat.le_refl _, fun j hj => absurd hj (Nat.not_lt_zero _), fun hj => absurd hj (Nat.not_lt_zero _)⟩
 | x :: xs, c => by
  by_cases h : x.f.num < c
  ·obtain ⟨n, h1, h2, h3⟩ := spot xs c
   refine ⟨n + 1, by simpa using h1, fun j hj hjn => ?_, fun hj => by simpa using h3 (by simpa using hj)⟩
   cases j with
   | zero => exact h
   | succ j => simpa using h2 j (by simpa using hj) (by omega)
  ·exact ⟨0, Nat.zero_le _, fun j hj hjn => absurd hjn (Nat.not_lt_zero _), fun hj => h⟩
theorem Same.room {xs : List FR} {fl : Nat → Option (Pla × List Sea)} (h : Same xs fl) (c : Int) (hc : 1 ≤ c ∧ c ≤ 20) (hf : findN xs c = -1) : xs.length < 20 := by
 obtain ⟨n, h1, h2, h3⟩ := spot xs c
 exact (h.insert c hc hf n h1 h2 h3 (addX c ⟨0, 0, 0, 0, 0, 0, 0, 0⟩ 0 0) rfl _ rfl).2
theorem wdo_any {w : World} {ow : Nat → Nat} {wb : Nat} {v : Value} {xs : List FR} {now : Int} {fl : Nat → Option (Pla × List Sea)} (h : WorR w ow wb v xs now) (hs : Same xs fl) (c : Cmd) (ht : -9223372036854775808 ≤ c.time ∧ c.time ≤ 9223372036854775807)
  (hn : 0 ≤ now ∧ now ≤ 4611686018427387000) (hk9 : c.kind ≠ 9) (hv : xs = [] → v = .slice none 0 0) :
  Calls Tryz.prog 27 #[.pointer (some ⟨wb, 0, none⟩), .agg (cmdCells c)] w fun e w' => e = .returned (.int .i64 (doK now fl c).1) ∧ WDone w w' ow wb (doK now fl c).2.1 (doK now fl c).2.2 := by
 by_cases k0 : c.kind < 1 ∨ c.kind > 9
 ·rw [doK_bad k0]
  exact (wdo_bad wb c w k0).mono fun e w' ⟨he, hm⟩ => ⟨he, WDone.same h hs hv hm⟩
 by_cases k8 : c.kind = 8
 ·by_cases tt : 1 ≤ c.time ∧ c.time ≤ 100
  ·rw [doK_tick k8 tt]
   obtain ⟨kind, flight, ar, ac, tr, tc, party, cls, time, pl⟩ := c
   simp only at k8 tt
   subst k8
   rcases h.fls with ⟨rfl, rfl⟩ | ⟨gf, cap, rfl, _, _⟩
   ·refine wdo_tick wb flight ar ac tr tc party cls time pl w 0 (fun w' => WDone w w' ow wb (now + time) (fun n => (fl n).map (tickF (now + time)))) (fun W hW => ?_)
    refine (tick_none wb time now W tt hn (hW.has h.has (fun x => x))).mono ?_
    rintro e w' ⟨rfl, rfl⟩
    have h1 := (h.mod hW (fun _ _ x => x)).nowSet (now + time)
    have hm : Mod (fun k => ow k ≠ 0) W (W.setCell ⟨wb, 1, none⟩ (.int .i64 (now + time))) := (Mod.refl _ W).setCell (p := ⟨wb, 1, none⟩) (.inl (by rw [h.mine]; omega)) _
    exact ⟨rfl, WDone.first ⟨⟨_, [], ow, h1, hs.tick (now + time), fun k hk => .inl hk, fun _ => rfl⟩, hm⟩ hW⟩
   ·by_cases hne : 0 < xs.length
    ·refine wdo_tick wb flight ar ac tr tc party cls time pl w 0 (fun w' => WDone w w' ow wb (now + time) (fun n => (fl n).map (tickF (now + time)))) (fun W hW => ?_)
     refine (tick_row wb gf cap xs ow time now W tt hn (h.mod hW (fun _ _ x => x)) hne).mono ?_
     rintro e w' ⟨rfl, h1, hm⟩
     exact ⟨rfl, WDone.first ⟨⟨_, _, ow, h1, hs.tick (now + time), fun k hk => .inl hk, fun e => by rw [List.map_eq_nil_iff] at e; rw [e] at hne; exact absurd hne (Nat.lt_irrefl _)⟩, hm⟩ hW⟩
    ·have := hv (List.eq_nil_of_length_eq_zero (by omega))
     cases this
  ·rw [doK_tock k8 tt]
   obtain ⟨kind, flight, ar, ac, tr, tc, party, cls, time, pl⟩ := c
   simp only at k8 tt
   subst k8
   refine wdo_tick wb flight ar ac tr tc party cls time pl w 8 (fun w' => WDone w w' ow wb now fl) (fun W hW => ?_)
   exact (tick_out wb time W tt).mono fun e w' ⟨he, hw⟩ => ⟨he, by subst hw; exact WDone.same h hs hv hW⟩
 by_cases hf : 1 ≤ c.flight ∧ c.flight ≤ 20
 case neg =>
  rw [doK_num k0 k8 hf]
  have HF := fun W (hW : Mod No w W) => (h.mod hW (fun _ _ x => x)).find c.flight
  obtain ⟨kind, flight, ar, ac, tr, tc, party, cls, time, pl⟩ := c
  exact (wdo_num wb flight ar ac tr tc party cls time pl w kind (by simp only at *; omega) _ hf HF).mono fun e w' ⟨he, hm⟩ => ⟨he, WDone.same h hs hv hm⟩
 have HF := fun W (hW : Mod No w W) => (h.mod hW (fun _ _ x => x)).find c.flight
 rcases hs.find c.flight hf with ⟨f1, f2⟩ | ⟨i, hi, f1, f2, f3⟩
 ·rw [doK_none k0 k8 hf f2]
  by_cases k1 : c.kind = 1
  ·rw [if_pos k1]
   by_cases hp : c.pla.sized = true ∧ c.pla.limited = true
   ·rw [if_pos hp]
    have HA : ∀ W, Mod No w W → Calls Tryz.prog 53 #[.pointer (some ⟨wb, 0, none⟩), .agg (cmdCells c)] W fun e w' => e = .returned (.int .i64 0) ∧ WDone w w' ow wb now (fun j => if j = c.flight.toNat then some (c.pla.at 1, emptySeats c.pla) else fl j) := fun W hW => by
     have hW' := h.mod hW (fun _ _ x => x)
     have key : Calls Tryz.prog 53 #[.pointer (some ⟨wb, 0, none⟩), .agg (cmdCells c)] W fun e w' => e = .returned (.int .i64 0) ∧ AddedP W w' ow wb xs now c.flight c.pla := by
      rcases hW'.fls with ⟨rfl, rfl⟩ | ⟨gf, cap, rfl, _, _⟩
      ·exact added_nil hW' c f1 hp.1 hp.2
      ·by_cases hne : 0 < xs.length
       ·refine added_row hW' hne c f1 hp.1 hp.2 ?_
        exact hs.room c.flight hf f1
       ·have := hv (List.eq_nil_of_length_eq_zero (by omega))
        cases this
     refine key.mono ?_
     rintro e w' ⟨rfl, hm, v', n, g, cap, ow', q1, q2, q3, q4, q5⟩
     obtain ⟨s1, s2⟩ := hs.insert c.flight hf f1 n q1 q2 q3 (addX c.flight c.pla g cap) rfl (c.pla.at 1, emptySeats c.pla) rfl
     refine ⟨rfl, WDone.first ⟨⟨v', _, ow', q4, s1, q5, fun e => by simp at e⟩, hm.mono (fun k _ e => ?_)⟩ hW⟩
     subst e
     rw [h.mine]
     omega
    obtain ⟨kind, flight, ar, ac, tr, tc, party, cls, time, pl⟩ := c
    simp only at k1
    subst k1
    exact wdo_add wb flight ar ac tr tc party cls time pl w _ 0 _ hf HF HA
   ·rw [if_neg hp]
    have HA : ∀ W, Mod No w W → Calls Tryz.prog 53 #[.pointer (some ⟨wb, 0, none⟩), .agg (cmdCells c)] W fun e w' => e = .returned (.int .i64 4) ∧ WDone w w' ow wb now fl := fun W hW =>
     (added_shape (h.mod hW (fun _ _ x => x)) c f1 hp).mono fun e w' ⟨he, hm⟩ => ⟨he, WDone.same h hs hv (hW.trans hm)⟩
    obtain ⟨kind, flight, ar, ac, tr, tc, party, cls, time, pl⟩ := c
    simp only at k1
    subst k1
    exact wdo_add wb flight ar ac tr tc party cls time pl w _ 4 _ hf HF HA
  ·rw [if_neg k1]
   rw [f1] at HF
   obtain ⟨kind, flight, ar, ac, tr, tc, party, cls, time, pl⟩ := c
   exact (wdo_miss wb flight ar ac tr tc party cls time pl w kind (by simp only at *; omega) (-1) hf (by omega) k1 HF).mono fun e w' ⟨he, hm⟩ => ⟨he, WDone.same h hs hv hm⟩
 ·rw [doK_some k0 k8 hf f3]
  by_cases k1 : c.kind = 1
  ·rw [if_pos k1]
   have HA : ∀ W, Mod No w W → Calls Tryz.prog 53 #[.pointer (some ⟨wb, 0, none⟩), .agg (cmdCells c)] W fun e w' => e = .returned (.int .i64 3) ∧ WDone w w' ow wb now fl := fun W hW =>
    (added_twice (h.mod hW (fun _ _ x => x)) c i f1).mono fun e w' ⟨he, hm⟩ => ⟨he, WDone.same h hs hv (hW.trans hm)⟩
   obtain ⟨kind, flight, ar, ac, tr, tc, party, cls, time, pl⟩ := c
   simp only at k1
   subst k1
   exact wdo_add wb flight ar ac tr tc party cls time pl w _ 3 _ hf HF HA
  ·rw [if_neg k1]
   simp only
   rw [seatErr_ep]
   obtain ⟨gf, cap, rfl⟩ := h.some (by omega)
   have key := fun (kind flight ar ac tr tc party cls time : Int) (pl : Pla) (hc : c = ⟨kind, flight, ar, ac, tr, tc, party, cls, time, pl⟩) =>
    wdo_seat h kind flight ar ac tr tc party cls time pl (by subst hc; simp only at *; omega) (by subst hc; exact hf) (by subst hc; exact ht) hn i hi (by subst hc; exact f1)
   obtain ⟨kind, flight, ar, ac, tr, tc, party, cls, time, pl⟩ := c
   refine (key kind flight ar ac tr tc party cls time pl rfl).mono ?_
   rintro e w' ⟨rfl, h1, hm⟩
   by_cases hz : seatErr xs[i].f.pla xs[i].f.seats ⟨kind, flight, ar, ac, tr, tc, party, cls, time, pl⟩ now = 0
   ·rw [if_pos hz]
    refine ⟨by rw [hz], ⟨_, _, ow, h1, ?_, fun k hk => .inl hk, fun e => by have e2 := (List.set_eq_nil_iff _ _).1 e; rw [e2] at hi; exact absurd hi (Nat.not_lt_zero _)⟩, hm⟩
    exact hs.set flight hf i hi f1 (seatX ⟨kind, flight, ar, ac, tr, tc, party, cls, time, pl⟩ now xs[i]) rfl _ (seatX_same _ hk9 now xs[i] hz)
   ·rw [if_neg hz]
    rw [seatX_not _ _ _ hz, List.set_getElem_self] at h1
    exact ⟨rfl, ⟨_, _, ow, h1, hs, fun k hk => .inl hk, hv⟩, hm⟩
set_option maxHeartbeats 8000000
def weigh1 (x : FR) : Int := 60 + 30 * ((x.f.seats.length : Int) - (nFree x.f.seats : Int))
def weightOf (xs : List FR) : Int := 200 + (xs.map weigh1).sum
theorem weightOf_take (xs : List FR) (i : Nat) (hi : i < xs.length) : weightOf (xs.take (i + 1)) = weightOf (xs.take i) + weigh1 xs[i] := by
 unfold weightOf
 rw [List.take_add_one, List.getElem?_eq_getElem hi, Option.toList_some, List.map_append, List.sum_append, List.map_cons, List.map_nil, List.sum_cons, List.sum_nil]
 omega
theorem weigh1_bound (x : FR) (h : x.f.seats.length ≤ 120) : 60 ≤ weigh1 x ∧ weigh1 x ≤ 3660 := by
 unfold weigh1
 have := nFree_le x.f.seats
 omega
theorem weightOf_bound : ∀ (xs : List FR), (∀ x ∈ xs, x.f.seats.length ≤ 120) → 200 ≤ weightOf xs ∧ weightOf xs ≤ 200 + 3660 * (xs.length : Int)
 | [], _ => by simp [weightOf]
 | x :: xs, h => by
  have h1 := weightOf_bound xs (fun y hy => h y (by simp [hy]))
  have h2 := weigh1_bound x (h x (by simp))
  have e : weightOf (x :: xs) = weightOf xs + weigh1 x := by unfold weightOf; simp; omega
  rw [e]
  simp only [List.length_cons]
  omega
theorem wweight_nil {w : World} {wb : Nat} {now : Int} (h : Has w wb #[.slice none 0 0, .int .i64 now] 72) :
  Calls Tryz.prog 31 #[.pointer (some ⟨wb, 0, none⟩)] w fun e w' => e = .returned (.int .i64 200) ∧ Mod No w w' := by
 have hc := h.cell
 clear h
 go_enter Tryz.func31, Tryz.ntmps31
 go_wp2_with fail
 go_loopw [3, 4] (fun s3 s4 wr => s3 = .int .i64 200 ∧ s4 = .int .i64 0 ∧ wr = w) (fun _ _ _ => 0)
 case atStart => exact ⟨rfl, rfl, rfl⟩
 case round =>
  obtain ⟨rfl, rfl, rfl⟩ := hrel
  go_wp2
  go_ret
  exact ⟨rfl, Mod.refl _ _⟩
theorem wweight_row {w : World} {ow : Nat → Nat} {wb gf cap : Nat} {xs : List FR} {now : Int} (h : WorR w ow wb (.slice (some ⟨gf, 0, none⟩) xs.length cap) xs now) (hne : 0 < xs.length) :
  Calls Tryz.prog 31 #[.pointer (some ⟨wb, 0, none⟩)] w fun e w' => e = .returned (.int .i64 (weightOf xs)) ∧ Mod No w w' := by
 have few := h.few
 have H := hide h
 obtain ⟨og, rf⟩ := h.parts rfl hne
 have RF := hide rf
 have HW := hide h.has
 have HS : ∀ x ∈ xs, x.f.seats.length ≤ 120 := fun x hx => by
  obtain ⟨i, hi, rfl⟩ := List.getElem_of_mem hx
  exact wf_len (h.seats i hi).2.2
 have HS := hide HS
 clear h rf og hne
 go_enter Tryz.func31, Tryz.ntmps31
 go_wp2_with fail
 go_loopw [3, 4] (fun s3 s4 wr => ∃ i : Nat, s4 = .int .i64 i ∧ i ≤ xs.length ∧ s3 = .int .i64 (weightOf (xs.take i)) ∧ Hid (Mod No w wr)) (fun _ s4 _ => xs.length - (intOf s4).toNat)
 case atStart => exact ⟨0, rfl, by omega, by simp [weightOf], hide (Mod.refl _ _)⟩
 case round =>
  obtain ⟨i, rfl, hi, rfl, M1⟩ := hrel
  have v0 : wr.cell? ⟨wb, 0, none⟩ = some (.slice (some ⟨gf, 0, none⟩) xs.length cap) := ((unhide M1).has (unhide HW) (fun x => x)).cell 0
  by_cases hix : i < xs.length
  ·have hixi : (i : Int) < (xs.length : Int) := by omega
   have h0i : (0 : Int) ≤ i := by omega
   have hi1 : IntKind.i64.wrap ((i : Int) + 1) = ((i + 1 : Nat) : Int) := by rw [wrap_id _ (by omega) (by omega)]; rfl
   have rf1 := (unhide RF).mod (unhide M1) (fun x => x)
   have g0 : wr.cell? ⟨gf, i * 10, none⟩ = some (.int .i64 xs[i].f.num) := rf1.cell i hix 0 (by omega)
   have g1 : wr.cell? ⟨gf, i * 10 + 1, none⟩ = some (.int .i64 xs[i].f.pla.rows) := rf1.cell i hix 1 (by omega)
   have g2 : wr.cell? ⟨gf, i * 10 + 2, none⟩ = some (.int .i64 xs[i].f.pla.cols) := rf1.cell i hix 2 (by omega)
   have g3 : wr.cell? ⟨gf, i * 10 + 3, none⟩ = some (.int .i64 xs[i].f.pla.front) := rf1.cell i hix 3 (by omega)
   have g4 : wr.cell? ⟨gf, i * 10 + 4, none⟩ = some (.int .i64 xs[i].f.pla.l0) := rf1.cell i hix 4 (by omega)
   have g5 : wr.cell? ⟨gf, i * 10 + 5, none⟩ = some (.int .i64 xs[i].f.pla.l1) := rf1.cell i hix 5 (by omega)
   have g6 : wr.cell? ⟨gf, i * 10 + 6, none⟩ = some (.int .i64 xs[i].f.pla.l2) := rf1.cell i hix 6 (by omega)
   have g7 : wr.cell? ⟨gf, i * 10 + 7, none⟩ = some (.int .i64 xs[i].f.pla.l3) := rf1.cell i hix 7 (by omega)
   have g8 : wr.cell? ⟨gf, i * 10 + 8, none⟩ = some (.slice (some ⟨xs[i].g, 0, none⟩) xs[i].f.seats.length xs[i].cap) := rf1.cell i hix 8 (by omega)
   have g9 : wr.cell? ⟨gf, i * 10 + 9, none⟩ = some (.int .i64 xs[i].f.ep) := rf1.cell i hix 9 (by omega)
   obtain ⟨rs, os, wf⟩ := (unhide H).seats i hix
   have hl120 : xs[i].f.seats.length ≤ 120 := wf_len wf
   have hfr := nFree_le xs[i].f.seats
   have hb1 := weightOf_bound (xs.take i) (fun x hx => (unhide HS) x (List.mem_of_mem_take hx))
   have hb2 : ((xs.take i).length : Int) ≤ 20 := by rw [List.length_take]; omega
   have hnx := weightOf_take xs i hix
   have hw1 : weigh1 xs[i] = 60 + 30 * ((xs[i].f.seats.length : Int) - (nFree xs[i].f.seats : Int)) := rfl
   rw [hw1] at hnx
   have rs1 := rs.mod (unhide M1) (fun x => x)
   have FB := Has.new wr (friV xs[i]) 134
   have M2 := hide ((unhide M1).alloc (.cells (friV xs[i]) 134))
   have rs2 := rs1.mod ((Mod.refl No wr).alloc (.cells (friV xs[i]) 134)) (fun x => x)
   have HFR := hide fun n => free_any wr.heap.size 0 xs[i].g xs[i].cap xs[i].f.seats ((wr.alloc (.cells (friV xs[i]) 134)).drewN n) (rs2.mod ((Mod.refl No _).drewN n) (fun x => x)) (by omega) ((FB.drewN n).cell 8)
   have fb := FB.cell
   have fl := FB.lt
   unfold friV at HFR M2 fb fl
   generalize weightOf (xs.take i) = wt at *
   generalize hwt2 : weightOf (xs.take (i + 1)) = wt2 at *
   have HWT2 := hide hwt2
   clear hwt2
   generalize hfrN : nFree xs[i].f.seats = fr at *
   generalize hlenN : xs[i].f.seats.length = ln at *
   have e1 : IntKind.i64.wrap (wt + 60) = wt + 60 := wrap_id _ (by omega) (by omega)
   have e2 : IntKind.i64.wrap ((ln : Int) - (fr : Int)) = (ln : Int) - (fr : Int) := wrap_id _ (by omega) (by omega)
   have e3 : IntKind.i64.wrap (30 * ((ln : Int) - (fr : Int))) = 30 * ((ln : Int) - (fr : Int)) := wrap_id _ (by omega) (by omega)
   have e4 : IntKind.i64.wrap (wt + 60 + 30 * ((ln : Int) - (fr : Int))) = wt2 := by rw [wrap_id _ (by omega) (by omega)]; omega
   clear rf1 rs os wf rs1 rs2 FB hb1 hb2 hnx hw1 H RF HS
   go_wp2_with fail
   go_quiet ((go_at_call 58; exact Calls.quiet_of_same ((unhide HFR) _)))
   go_wp2
   exact ⟨⟨i + 1, rfl, by omega, by rw [unhide HWT2], (unhide M2).drewN _⟩, by simp [intOf]; omega⟩
  ·have hixi : ¬ (i : Int) < (xs.length : Int) := by omega
   have e : i = xs.length := by omega
   subst e
   rw [List.take_length]
   go_wp2
   go_ret
   exact ⟨rfl, unhide M1⟩
theorem wweight_any {w : World} {ow : Nat → Nat} {wb : Nat} {v : Value} {xs : List FR} {now : Int} (h : WorR w ow wb v xs now) (hv : xs = [] → v = .slice none 0 0) :
  Calls Tryz.prog 31 #[.pointer (some ⟨wb, 0, none⟩)] w fun e w' => e = .returned (.int .i64 (weightOf xs)) ∧ Mod No w w' := by
 rcases h.fls with ⟨rfl, rfl⟩ | ⟨gf, cap, rfl, _, _⟩
 ·exact wweight_nil h.has
 ·by_cases hne : 0 < xs.length
  ·exact wweight_row h hne
  ·have := hv (List.eq_nil_of_length_eq_zero (by omega))
   cases this
theorem worR_weight {w : World} {ow : Nat → Nat} {wb : Nat} {v : Value} {xs : List FR} {now : Int} (h : WorR w ow wb v xs now) : 200 ≤ weightOf xs ∧ weightOf xs ≤ 100000 := by
 have h1 := weightOf_bound xs (fun x hx => by
  obtain ⟨i, hi, rfl⟩ := List.getElem_of_mem hx
  exact wf_len (h.seats i hi).2.2)
 have := h.few
 omega
set_option maxHeartbeats 4000000
theorem lpick_any (c n : Int) (hc : -9223372036854775808 ≤ c ∧ c ≤ 9223372036854775807) (hn : 0 < n ∧ n ≤ 1099511627776) (w : World) :
  Calls Tryz.prog 13 #[.int .i64 c, .int .i64 n] w fun e w' => e = .returned (.int .i64 (pickN c n)) ∧ w' = w := by
 unfold pickN
 have hz : n ≠ 0 := by omega
 by_cases h : c < 0
 ·have h1 : IntKind.i64.wrap (c + 1) = c + 1 := wrap_fit _ (by omega) (by omega)
  have h2 : IntKind.i64.wrap (-(c + 1)) = -(c + 1) := wrap_fit _ (by omega) (by omega)
  go_enter Tryz.func13, Tryz.ntmps13
  go_wp2
  go_ret
  refine ⟨?_, rfl⟩
  rw [← Int.tmod_eq_emod_of_nonneg (by omega), Int.neg_tmod]
  rfl
 ·go_enter Tryz.func13, Tryz.ntmps13
  go_wp2
  go_ret
  exact ⟨rfl, rfl⟩
theorem doK_cfit {now : Int} {fl : Nat → Option (Pla × List Sea)} {c : Cmd} (hn : 0 ≤ now ∧ now ≤ 4611686018427387000) (hwf : ∀ n p l, n < 21 → fl n = some (p, l) → Wf p l) (h : (doK now fl c).1 = 0) : CFit now (entOf now c) := by
 unfold doK at h
 by_cases hbad : c.kind < 1 ∨ c.kind > 9
 ·rw [if_pos hbad] at h; exact absurd h (by simp)
 rw [if_neg hbad] at h
 by_cases h8 : c.kind = 8
 ·rw [if_pos h8] at h
  by_cases ht : 1 ≤ c.time ∧ c.time ≤ 100
  ·exact fit_pass h8 ht hn
  ·rw [if_neg ht] at h; exact absurd h (by simp)
 rw [if_neg h8] at h
 by_cases hf : 1 ≤ c.flight ∧ c.flight ≤ 20
 case neg => rw [if_pos hf] at h; exact absurd h (by simp)
 rw [if_neg (by simpa using hf)] at h
 cases hfl : fl c.flight.toNat with
 | none =>
  rw [hfl] at h
  simp only at h
  by_cases k1 : c.kind = 1
  ·rw [if_pos k1] at h
   by_cases hs : c.pla.sized = true ∧ c.pla.limited = true
   ·exact fit_start k1 hf hs.1 hs.2
   ·rw [if_neg hs] at h; exact absurd h (by simp)
  ·rw [if_neg k1] at h; exact absurd h (by simp)
 | some x =>
  obtain ⟨p, l⟩ := x
  rw [hfl] at h
  simp only at h
  by_cases k1 : c.kind = 1
  ·rw [if_pos k1] at h; exact absurd h (by simp)
  rw [if_neg k1] at h
  by_cases hz : seatErr p l c now = 0
  ·exact fit_seat (by omega) hf (hwf _ p l (by omega) hfl) hn hz
  ·rw [if_neg hz] at h; exact absurd h hz
theorem layP_ok {T : TP} {i : Nat} {r : List Int} (hi : i < 2) (hf : T.fuse < 0) (hr : (T.used : Int) + r.length ≤ T.room) : (layP T i r).1 = 0 ∧ (layP T i r).2.fuse = T.fuse ∧ (layP T i r).2.room = T.room ∧ (layP T i r).2.used = T.used + r.length := by
 have hb : burnt T.fuse = T.fuse := by unfold burnt; rw [if_neg (by omega)]
 have ha : appendP T i r = (true, T.put i (T.b i ++ r) (T.last i) T.fuse) := by
  unfold appendP
  rw [if_neg (by omega), hb]
 have hs : writeP T i r = (true, (T.put i (T.b i ++ r) (T.last i) T.fuse).put i (T.b i ++ r) (T.b i ++ r).length T.fuse) := by
  unfold writeP
  rw [ha, if_pos rfl]
  unfold syncP
  rw [if_neg (by show ¬ T.fuse = 0; omega)]
  have e1 : (T.put i (T.b i ++ r) (T.last i) T.fuse).b i = T.b i ++ r := by simp [TP.put]
  simp only [e1]
  show (true, _) = (true, _)
  rw [show burnt (T.put i (T.b i ++ r) (T.last i) T.fuse).fuse = T.fuse from hb]
 unfold layP
 rw [if_neg (by omega), hs, if_pos rfl]
 refine ⟨rfl, rfl, rfl, ?_⟩
 have : i = 0 ∨ i = 1 := by omega
 rcases this with rfl | rfl <;> simp [TP.used, TP.put] <;> omega
end Go.Proofs.YthhibagcpjeihaaGreat
