import Derived.Test.YtlcbemcamdafjaaGreatCdoesKeep3Ref15
import Derived.Test.YtlcbemcamdafjaaGreatCdoesSwap5Keep6
import Derived.Test.YtlcbemcamdafjaaGreatCdoesRef28Ref25
/- What a keeper holds and what the document's world holds: the same flights by their numbers. -/
namespace Go.Proofs.YtlcbemcamdafjaaGreat
open M
set_option linter.unusedVariables false
set_option linter.unusedSimpArgs false

/-- The flights of a list, by their numbers. -/
def flOf (xs : List FR) : Nat → Option (Pla × List Sea) := fun n => (xs.find? (fun x => x.f.num == (n : Int))).map fun x => (x.f.pla.at x.f.ep, x.f.seats)

theorem tickX_at (nw : Int) (x : FR) : ((tickX nw x).f.pla.at (tickX nw x).f.ep, (tickX nw x).f.seats) = tickF nw (x.f.pla.at x.f.ep, x.f.seats) := by
  unfold tickF tickX tickP anyDue
  simp only
  cases x.f.seats.any (due nw) <;> rfl
theorem flOf_tick (xs : List FR) (nw : Int) (n : Nat) : flOf (xs.map (tickX nw)) n = (flOf xs n).map (tickF nw) := by
  unfold flOf
  induction xs with
  | nil => rfl
  | cons x xs ih =>
    simp only [List.map_cons, List.find?_cons]
    have e : (tickX nw x).f.num = x.f.num := rfl
    rw [e]
    cases h : (x.f.num == (n : Int)) with
    | true =>
      simp only [Option.map_some]
      rw [tickX_at]
    | false => exact ih

theorem findN_cases (xs : List FR) (n : Int) : findN xs n = -1 ∨ ∃ i, ∃ hi : i < xs.length, findN xs n = i ∧ xs[i].f.num = n := by
  unfold findN
  cases h : xs.findIdx? (fun x => x.f.num == n) with
  | none => exact .inl rfl
  | some i =>
    obtain ⟨hi, h1, _⟩ := List.findIdx?_eq_some_iff_getElem.1 h
    exact .inr ⟨i, hi, rfl, by simpa using h1⟩

theorem flOf_none (xs : List FR) (n : Nat) (h : findN xs n = -1) : flOf xs n = none := by
  unfold findN at h
  cases h2 : xs.findIdx? (fun x => x.f.num == (n : Int)) with
  | none =>
    rw [List.findIdx?_eq_none_iff] at h2
    unfold flOf
    rw [List.find?_eq_none.2 (fun x hx => by have := h2 x hx; simpa using this)]
    rfl
  | some i => rw [h2] at h; simp only at h; omega

theorem flOf_some (xs : List FR) (n i : Nat) (hi : i < xs.length) (h : findN xs n = i) : flOf xs n = some (xs[i].f.pla.at xs[i].f.ep, xs[i].f.seats) := by
  unfold findN at h
  cases h2 : xs.findIdx? (fun x => x.f.num == (n : Int)) with
  | none => rw [h2] at h; simp only at h; omega
  | some j =>
    rw [h2] at h
    have e : j = i := by simp only at h; omega
    subst e
    obtain ⟨_, h3, h4⟩ := List.findIdx?_eq_some_iff_getElem.1 h2
    unfold flOf
    have hf : xs.find? (fun x => x.f.num == (n : Int)) = some xs[j] := List.find?_eq_some_iff_getElem.2 ⟨h3, j, hi, rfl, fun k hk => by simpa using h4 k hk⟩
    rw [hf]
    rfl

/-- One flight's seats (and epoch) turned: the others are as they were. -/
theorem flOf_set (xs : List FR) (n i : Nat) (hi : i < xs.length) (h : findN xs n = i) (x : FR) (hx : x.f.num = xs[i].f.num) (j : Nat) : flOf (xs.set i x) j = if j = n then some (x.f.pla.at x.f.ep, x.f.seats) else flOf xs j := by
  have hn : xs[i].f.num = (n : Int) := by
    rcases findN_cases xs n with h1 | ⟨k, hk, h1, h2⟩
    · omega
    · have : k = i := by omega
      subst this
      exact h2
  have key : ∀ (ys : List FR) (k : Nat) (hk : k < ys.length), ys[k].f.num = (n : Int) → (∀ q, ∀ hq : q < ys.length, q < k → ys[q].f.num ≠ (n : Int)) → x.f.num = (n : Int) → flOf (ys.set k x) j = if j = n then some (x.f.pla.at x.f.ep, x.f.seats) else flOf ys j := by
    intro ys
    induction ys with
    | nil => intro k hk; exact absurd hk (Nat.not_lt_zero _)
    | cons y ys ih =>
      intro k hk h1 h2 h3
      cases k with
      | zero =>
        simp only [List.getElem_cons_zero] at h1
        unfold flOf
        simp only [List.set_cons_zero, List.find?_cons]
        by_cases e : j = n
        · subst e
          simp [h3]
        · have e1 : (x.f.num == (j : Int)) = false := by rw [h3]; simp; omega
          have e2 : (y.f.num == (j : Int)) = false := by rw [h1]; simp; omega
          rw [e1, e2, if_neg e]
      | succ k =>
        have h4 := h2 0 (by simp) (by omega)
        simp only [List.getElem_cons_zero] at h4
        have ih2 := ih k (by simpa using hk) (by simpa using h1) (fun q hq hqk => by have := h2 (q + 1) (by simpa using hq) (by omega); simpa using this) h3
        unfold flOf at ih2 ⊢
        simp only [List.set_cons_succ, List.find?_cons]
        cases hy : (y.f.num == (j : Int)) with
        | true =>
          have : j ≠ n := fun e => by subst e; exact h4 (by simpa using hy)
          simp [this]
        | false => exact ih2
  refine key xs i hi hn (fun q hq hqi e => ?_) (by rw [hx]; exact hn)
  unfold findN at h
  cases h2 : xs.findIdx? (fun x => x.f.num == (n : Int)) with
  | none => rw [h2] at h; simp only at h; omega
  | some k =>
    rw [h2] at h
    have e2 : k = i := by simp only at h; omega
    subst e2
    obtain ⟨_, _, h4⟩ := List.findIdx?_eq_some_iff_getElem.1 h2
    have := h4 q hqi
    simp [e] at this
end Go.Proofs.YtlcbemcamdafjaaGreat
/- The document's world and the keeper's flights: the same flights. -/
namespace Go.Proofs.YtlcbemcamdafjaaGreat
open Go.RowKit
open M
set_option linter.unusedVariables false
set_option linter.unusedSimpArgs false

/-- The same flights, in the order of their numbers. -/
structure Same (xs : List FR) (fl : Nat → Option (Pla × List Sea)) : Prop where
  sort : xs.Pairwise (fun x y => x.f.num < y.f.num)
  rng : ∀ x ∈ xs, 1 ≤ x.f.num ∧ x.f.num ≤ 20
  eq : ∀ n, n < 21 → fl n = flOf xs n

theorem sorted_len : ∀ (xs : List FR) (lo : Int), xs.Pairwise (fun x y => x.f.num < y.f.num) → (∀ x ∈ xs, lo < x.f.num ∧ x.f.num ≤ 20) → lo ≤ 20 → (xs.length : Int) ≤ 20 - lo
  | [], lo, _, _, h => by simp; omega
  | x :: xs, lo, hp, hr, h => by
    have hp := List.pairwise_cons.1 hp
    have hx := hr x (by simp)
    have := sorted_len xs x.f.num hp.2 (fun y hy => ⟨hp.1 y hy, (hr y (by simp [hy])).2⟩) hx.2
    simp only [List.length_cons]
    omega

theorem Same.find {xs : List FR} {fl : Nat → Option (Pla × List Sea)} (h : Same xs fl) (c : Int) (hc : 1 ≤ c ∧ c ≤ 20) :
    (findN xs c = -1 ∧ fl c.toNat = none) ∨ ∃ i, ∃ hi : i < xs.length, findN xs c = i ∧ xs[i].f.num = c ∧ fl c.toNat = some (xs[i].f.pla.at xs[i].f.ep, xs[i].f.seats) := by
  have hn : ((c.toNat : Nat) : Int) = c := by omega
  rcases findN_cases xs c with h1 | ⟨i, hi, h1, h2⟩
  · refine .inl ⟨h1, ?_⟩
    rw [h.eq _ (by omega)]
    exact flOf_none xs _ (by rw [hn]; exact h1)
  · refine .inr ⟨i, hi, h1, h2, ?_⟩
    rw [h.eq _ (by omega)]
    exact flOf_some xs _ i hi (by rw [hn]; exact h1)

/-- Time has passed. -/
theorem Same.tick {xs : List FR} {fl : Nat → Option (Pla × List Sea)} (h : Same xs fl) (nw : Int) : Same (xs.map (tickX nw)) (fun n => (fl n).map (tickF nw)) := by
  refine ⟨List.pairwise_map.2 h.sort, fun x hx => ?_, fun n hn => ?_⟩
  · obtain ⟨y, hy, rfl⟩ := List.mem_map.1 hx
    exact h.rng y hy
  · rw [flOf_tick]
    exact congrArg (Option.map (tickF nw)) (h.eq n hn)

/-- One flight is another. -/
theorem Same.set {xs : List FR} {fl : Nat → Option (Pla × List Sea)} (h : Same xs fl) (c : Int) (hc : 1 ≤ c ∧ c ≤ 20) (i : Nat) (hi : i < xs.length) (hf : findN xs c = i) (x : FR) (hx : x.f.num = xs[i].f.num) (y : Pla × List Sea) (hy : (x.f.pla.at x.f.ep, x.f.seats) = y) :
    Same (xs.set i x) (fun j => if j = c.toNat then some y else fl j) := by
  have hn : ((c.toNat : Nat) : Int) = c := by omega
  refine ⟨?_, fun z hz => ?_, fun n hn' => ?_⟩
  · rw [List.pairwise_iff_getElem]
    intro a b ha hb hab
    have ha' : a < xs.length := by simpa using ha
    have hb' : b < xs.length := by simpa using hb
    have := (List.pairwise_iff_getElem.1 h.sort) a b ha' hb' hab
    rw [List.getElem_set, List.getElem_set]
    split
    · rename_i e1
      subst e1
      rw [if_neg (by omega), hx]
      exact this
    · split
      · rename_i e2
        subst e2
        rw [hx]
        exact this
      · exact this
  · obtain ⟨a, ha, rfl⟩ := List.getElem_of_mem hz
    have ha' : a < xs.length := by simpa using ha
    rw [List.getElem_set]
    split
    · rw [hx]; exact h.rng _ (List.getElem_mem hi)
    · exact h.rng _ (List.getElem_mem ha')
  · rw [flOf_set xs c.toNat i hi (by rw [hn]; exact hf) x hx n, hy]
    by_cases e : n = c.toNat
    · rw [if_pos e, if_pos e]
    · rw [if_neg e, if_neg e, h.eq n hn']

theorem flOf_ins (xs : List FR) (x : FR) (n : Nat) (c : Nat) (hx : x.f.num = (c : Int)) (hno : ∀ y ∈ xs, y.f.num ≠ (c : Int)) (j : Nat) :
    flOf (xs.take n ++ x :: xs.drop n) j = if j = c then some (x.f.pla.at x.f.ep, x.f.seats) else flOf xs j := by
  unfold flOf
  rw [List.find?_append, List.find?_cons]
  by_cases e : j = c
  · subst e
    rw [if_pos rfl]
    have h1 : (xs.take n).find? (fun y => y.f.num == (j : Int)) = none := List.find?_eq_none.2 (fun y hy => by have := hno y (List.mem_of_mem_take hy); simpa using this)
    rw [h1]
    simp [hx]
  · rw [if_neg e]
    have e1 : (x.f.num == (j : Int)) = false := by rw [hx]; simp; omega
    rw [e1]
    have : xs.find? (fun y => y.f.num == (j : Int)) = ((xs.take n).find? (fun y => y.f.num == (j : Int))).or ((xs.drop n).find? (fun y => y.f.num == (j : Int))) := by
      rw [← List.find?_append, List.take_append_drop]
    rw [this]

theorem findN_miss {xs : List FR} {c : Int} (h : findN xs c = -1) : ∀ y ∈ xs, y.f.num ≠ c := by
  intro y hy e
  unfold findN at h
  cases h2 : xs.findIdx? (fun x => x.f.num == c) with
  | none =>
    rw [List.findIdx?_eq_none_iff] at h2
    have := h2 y hy
    simp [e] at this
  | some i => rw [h2] at h; simp only at h; omega

/-- A flight more. -/
theorem Same.insert {xs : List FR} {fl : Nat → Option (Pla × List Sea)} (h : Same xs fl) (c : Int) (hc : 1 ≤ c ∧ c ≤ 20) (hf : findN xs c = -1) (n : Nat) (hn : n ≤ xs.length) (hlo : ∀ j (hj : j < xs.length), j < n → xs[j].f.num < c) (hhi : ∀ hj : n < xs.length, ¬ xs[n].f.num < c) (x : FR) (hx : x.f.num = c) (y : Pla × List Sea) (hy : (x.f.pla.at x.f.ep, x.f.seats) = y) :
    Same (xs.take n ++ x :: xs.drop n) (fun j => if j = c.toNat then some y else fl j) ∧ xs.length < 20 := by
  have hno := findN_miss hf
  have hcn : ((c.toNat : Nat) : Int) = c := by omega
  have hs : (xs.take n ++ x :: xs.drop n).Pairwise (fun x y => x.f.num < y.f.num) := by
    have htl : ∀ a ∈ xs.take n, a.f.num < c := fun a ha => by
      obtain ⟨j, hj, rfl⟩ := List.getElem_of_mem ha
      have hj' : j < n ∧ j < xs.length := by rw [List.length_take] at hj; omega
      rw [List.getElem_take]
      exact hlo j hj'.2 hj'.1
    have hdr : ∀ b ∈ xs.drop n, c < b.f.num := fun b hb => by
      obtain ⟨j, hj, rfl⟩ := List.getElem_of_mem hb
      have hj' : n + j < xs.length := by rw [List.length_drop] at hj; omega
      rw [List.getElem_drop]
      have h1 := hhi (by omega)
      have h2 := hno _ (List.getElem_mem (show n < xs.length by omega))
      rcases Nat.eq_zero_or_pos j with e | e
      · subst e; simp only [Nat.add_zero]; omega
      · have := (List.pairwise_iff_getElem.1 h.sort) n (n + j) (by omega) hj' (by omega)
        omega
    refine List.pairwise_append.2 ⟨h.sort.sublist (List.take_sublist n xs), List.pairwise_cons.2 ⟨fun b hb => by rw [hx]; exact hdr b hb, h.sort.sublist (List.drop_sublist n xs)⟩, fun a ha b hb => ?_⟩
    rcases List.mem_cons.1 hb with rfl | hb
    · rw [hx]; exact htl a ha
    · have := htl a ha
      have := hdr b hb
      omega
  have hr : ∀ z ∈ xs.take n ++ x :: xs.drop n, 1 ≤ z.f.num ∧ z.f.num ≤ 20 := fun z hz => by
    rcases List.mem_append.1 hz with hz | hz
    · exact h.rng z (List.mem_of_mem_take hz)
    · rcases List.mem_cons.1 hz with rfl | hz
      · rw [hx]; exact hc
      · exact h.rng z (List.mem_of_mem_drop hz)
  refine ⟨⟨hs, hr, fun j hj => ?_⟩, ?_⟩
  · rw [flOf_ins xs x n c.toNat (by rw [hcn]; exact hx) (by rw [hcn]; exact hno) j, hy]
    by_cases e : j = c.toNat
    · rw [if_pos e, if_pos e]
    · rw [if_neg e, if_neg e, h.eq j hj]
  · have := sorted_len _ 0 hs (fun z hz => ⟨by have := hr z hz; omega, (hr z hz).2⟩) (by omega)
    simp at this
    omega
end Go.Proofs.YtlcbemcamdafjaaGreat
/- The document's answer: a command is done: as the plain model does it. -/
namespace Go.Proofs.YtlcbemcamdafjaaGreat
open Go.RowKit
open M
set_option linter.unusedVariables false
set_option linter.unusedSimpArgs false
set_option maxRecDepth 100000
set_option maxHeartbeats 4000000

/-- The document's world behind a call. -/
structure WDone (w w' : World) (ow : Nat → Nat) (wb : Nat) (now : Int) (fl : Nat → Option (Pla × List Sea)) : Prop where
  ex : ∃ v ys ow', WorR w' ow' wb v ys now ∧ Same ys fl ∧ (∀ k, ow' k ≠ 0 → ow k ≠ 0 ∨ w.heap.size ≤ k) ∧ (ys = [] → v = .slice none 0 0)
  mod : Mod (fun k => ow k ≠ 0) w w'

theorem WDone.same {w w' : World} {ow : Nat → Nat} {wb : Nat} {v : Value} {xs : List FR} {now : Int} {fl : Nat → Option (Pla × List Sea)} (h : WorR w ow wb v xs now) (hs : Same xs fl) (hv : xs = [] → v = .slice none 0 0) (hm : Mod No w w') : WDone w w' ow wb now fl :=
  ⟨⟨v, xs, ow, h.mod hm (fun _ _ x => x), hs, fun k hk => .inl hk, hv⟩, hm.mono (fun _ _ x => x.elim)⟩
theorem WDone.first {a w w' : World} {ow : Nat → Nat} {wb : Nat} {now : Int} {fl : Nat → Option (Pla × List Sea)} (h : WDone w w' ow wb now fl) (hm : Mod No a w) : WDone a w' ow wb now fl := by
  obtain ⟨⟨v, ys, ow', h1, h2, h3, h5⟩, h4⟩ := h
  exact ⟨⟨v, ys, ow', h1, h2, fun k hk => (h3 k hk).imp (fun x => x) (fun x => Nat.le_trans hm.size x), h5⟩, (hm.mono (fun _ _ x => x.elim)).trans h4⟩

theorem lim_ep (p : Pla) (e : Int) (j : Nat) : (p.at e).lim j = p.lim j := by
  match j with
  | 0 => rfl
  | 1 => rfl
  | 2 => rfl
  | _ + 3 => rfl
theorem least_ep (p : Pla) (e : Int) (l : List Sea) : ∀ c, leastTo (p.at e) l c = leastTo p l c
  | 0 => rfl
  | c + 1 => by
    unfold leastTo
    rw [least_ep p e l c, lim_ep]
theorem left_ep (p : Pla) (e : Int) (l : List Sea) (c : Nat) : M.leftOf (p.at e) l c = M.leftOf p l c := by
  unfold M.leftOf
  rw [least_ep]
theorem seatErr_ep (p : Pla) (e : Int) (l : List Sea) (c : Cmd) (now : Int) : seatErr (p.at e) l c now = seatErr p l c now := by
  have h1 : ∀ r q, (p.at e).has r q = p.has r q := fun _ _ => rfl
  have h2 : ∀ r q, seatAt (p.at e) l r q = seatAt p l r q := fun _ _ => rfl
  unfold seatErr
  simp only [h1, h2, left_ep]
theorem seatNew_ep (p : Pla) (e : Int) (l : List Sea) (c : Cmd) (hk : c.kind ≠ 9) : seatNew (p.at e) l c = seatNew p l c := by
  have h1 : ∀ r q, (p.at e).idx r q = p.idx r q := fun _ _ => rfl
  have h2 : ∀ r q, seatAt (p.at e) l r q = seatAt p l r q := fun _ _ => rfl
  unfold seatNew
  rw [if_neg hk, if_neg hk]
  simp only [h1, h2]

theorem doK_bad {now : Int} {fl : Nat → Option (Pla × List Sea)} {c : Cmd} (h : c.kind < 1 ∨ c.kind > 9) : doK now fl c = (1, now, fl) := by
  unfold doK
  rw [if_pos h]
theorem doK_tick {now : Int} {fl : Nat → Option (Pla × List Sea)} {c : Cmd} (h : c.kind = 8) (ht : 1 ≤ c.time ∧ c.time ≤ 100) : doK now fl c = (0, now + c.time, fun n => (fl n).map (tickF (now + c.time))) := by
  unfold doK
  rw [if_neg (by omega), if_pos h, if_pos ht]
theorem doK_tock {now : Int} {fl : Nat → Option (Pla × List Sea)} {c : Cmd} (h : c.kind = 8) (ht : ¬ (1 ≤ c.time ∧ c.time ≤ 100)) : doK now fl c = (8, now, fl) := by
  unfold doK
  rw [if_neg (by omega), if_pos h, if_neg ht]
theorem doK_num {now : Int} {fl : Nat → Option (Pla × List Sea)} {c : Cmd} (h : ¬ (c.kind < 1 ∨ c.kind > 9)) (h8 : c.kind ≠ 8) (hf : ¬ (1 ≤ c.flight ∧ c.flight ≤ 20)) : doK now fl c = (2, now, fl) := by
  unfold doK
  rw [if_neg h, if_neg h8, if_pos hf]
theorem doK_none {now : Int} {fl : Nat → Option (Pla × List Sea)} {c : Cmd} (h : ¬ (c.kind < 1 ∨ c.kind > 9)) (h8 : c.kind ≠ 8) (hf : 1 ≤ c.flight ∧ c.flight ≤ 20) (hn : fl c.flight.toNat = none) :
    doK now fl c = if c.kind = 1 then (if c.pla.sized = true ∧ c.pla.limited = true then (0, now, fun j => if j = c.flight.toNat then some (c.pla.at 1, emptySeats c.pla) else fl j) else (4, now, fl)) else (2, now, fl) := by
  unfold doK
  rw [if_neg h, if_neg h8, if_neg (by omega), hn]
theorem doK_some {now : Int} {fl : Nat → Option (Pla × List Sea)} {c : Cmd} (h : ¬ (c.kind < 1 ∨ c.kind > 9)) (h8 : c.kind ≠ 8) (hf : 1 ≤ c.flight ∧ c.flight ≤ 20) {x : Pla × List Sea} (hn : fl c.flight.toNat = some x) :
    doK now fl c = if c.kind = 1 then (3, now, fl) else if seatErr x.1 x.2 c now = 0 then (0, now, fun j => if j = c.flight.toNat then some (planNew x.1 c, seatNew x.1 x.2 c) else fl j) else (seatErr x.1 x.2 c now, now, fl) := by
  unfold doK
  rw [if_neg h, if_neg h8, if_neg (by omega), hn]

theorem seatX_same (c : Cmd) (hk : c.kind ≠ 9) (now : Int) (x : FR) (h : seatErr x.f.pla x.f.seats c now = 0) :
    ((seatX c now x).f.pla.at (seatX c now x).f.ep, (seatX c now x).f.seats) = (planNew (x.f.pla.at x.f.ep) c, seatNew (x.f.pla.at x.f.ep) x.f.seats c) := by
  unfold seatX seatL planNew
  simp only
  rw [if_pos h, if_pos h, if_neg hk, seatNew_ep _ _ _ _ hk]
  rfl
theorem seatX_not (c : Cmd) (now : Int) (x : FR) (h : seatErr x.f.pla x.f.seats c now ≠ 0) : seatX c now x = x := by
  unfold seatX seatL
  rw [if_neg h, if_neg h]

theorem spot : ∀ (xs : List FR) (c : Int), ∃ n, n ≤ xs.length ∧ (∀ j (hj : j < xs.length), j < n → xs[j].f.num < c) ∧ ∀ hj : n < xs.length, ¬ xs[n].f.num < c
  | [], c => ⟨0, Nat.le_refl _, fun j hj => absurd hj (Nat.not_lt_zero _), fun hj => absurd hj (Nat.not_lt_zero _)⟩
  | x :: xs, c => by
    by_cases h : x.f.num < c
    · obtain ⟨n, h1, h2, h3⟩ := spot xs c
      refine ⟨n + 1, by simpa using h1, fun j hj hjn => ?_, fun hj => by simpa using h3 (by simpa using hj)⟩
      cases j with
      | zero => exact h
      | succ j => simpa using h2 j (by simpa using hj) (by omega)
    · exact ⟨0, Nat.zero_le _, fun j hj hjn => absurd hjn (Nat.not_lt_zero _), fun hj => h⟩
theorem Same.room {xs : List FR} {fl : Nat → Option (Pla × List Sea)} (h : Same xs fl) (c : Int) (hc : 1 ≤ c ∧ c ≤ 20) (hf : findN xs c = -1) : xs.length < 20 := by
  obtain ⟨n, h1, h2, h3⟩ := spot xs c
  exact (h.insert c hc hf n h1 h2 h3 (addX c ⟨0, 0, 0, 0, 0, 0, 0, 0⟩ 0 0) rfl _ rfl).2

/-- Do, but for Swaps. -/
theorem wdo_any {w : World} {ow : Nat → Nat} {wb : Nat} {v : Value} {xs : List FR} {now : Int} {fl : Nat → Option (Pla × List Sea)} (h : WorR w ow wb v xs now) (hs : Same xs fl) (c : Cmd) (ht : -9223372036854775808 ≤ c.time ∧ c.time ≤ 9223372036854775807)
    (hn : 0 ≤ now ∧ now ≤ 4611686018427387000) (hk9 : c.kind ≠ 9) (hv : xs = [] → v = .slice none 0 0) :
    Calls Tryz.prog 27 #[.pointer (some ⟨wb, 0, none⟩), .agg (cmdCells c)] w fun e w' => e = .returned (.int .i64 (doK now fl c).1) ∧ WDone w w' ow wb (doK now fl c).2.1 (doK now fl c).2.2 := by
  by_cases k0 : c.kind < 1 ∨ c.kind > 9
  · rw [doK_bad k0]
    exact (wdo_bad wb c w k0).mono fun e w' ⟨he, hm⟩ => ⟨he, WDone.same h hs hv hm⟩
  by_cases k8 : c.kind = 8
  · by_cases tt : 1 ≤ c.time ∧ c.time ≤ 100
    · rw [doK_tick k8 tt]
      obtain ⟨kind, flight, ar, ac, tr, tc, party, cls, time, pl⟩ := c
      simp only at k8 tt
      subst k8
      rcases h.fls with ⟨rfl, rfl⟩ | ⟨gf, cap, rfl, _, _⟩
      · refine wdo_tick wb flight ar ac tr tc party cls time pl w 0 (fun w' => WDone w w' ow wb (now + time) (fun n => (fl n).map (tickF (now + time)))) (fun W hW => ?_)
        refine (tick_none wb time now W tt hn (hW.has h.has (fun x => x))).mono ?_
        rintro e w' ⟨rfl, rfl⟩
        have h1 := (h.mod hW (fun _ _ x => x)).nowSet (now + time)
        have hm : Mod (fun k => ow k ≠ 0) W (W.setCell ⟨wb, 1, none⟩ (.int .i64 (now + time))) := (Mod.refl _ W).setCell (p := ⟨wb, 1, none⟩) (.inl (by rw [h.mine]; omega)) _
        exact ⟨rfl, WDone.first ⟨⟨_, [], ow, h1, hs.tick (now + time), fun k hk => .inl hk, fun _ => rfl⟩, hm⟩ hW⟩
      · by_cases hne : 0 < xs.length
        · refine wdo_tick wb flight ar ac tr tc party cls time pl w 0 (fun w' => WDone w w' ow wb (now + time) (fun n => (fl n).map (tickF (now + time)))) (fun W hW => ?_)
          refine (tick_row wb gf cap xs ow time now W tt hn (h.mod hW (fun _ _ x => x)) hne).mono ?_
          rintro e w' ⟨rfl, h1, hm⟩
          exact ⟨rfl, WDone.first ⟨⟨_, _, ow, h1, hs.tick (now + time), fun k hk => .inl hk, fun e => by rw [List.map_eq_nil_iff] at e; rw [e] at hne; exact absurd hne (Nat.lt_irrefl _)⟩, hm⟩ hW⟩
        · have := hv (List.eq_nil_of_length_eq_zero (by omega))
          cases this
    · rw [doK_tock k8 tt]
      obtain ⟨kind, flight, ar, ac, tr, tc, party, cls, time, pl⟩ := c
      simp only at k8 tt
      subst k8
      refine wdo_tick wb flight ar ac tr tc party cls time pl w 8 (fun w' => WDone w w' ow wb now fl) (fun W hW => ?_)
      exact (tick_out wb time W tt).mono fun e w' ⟨he, hw⟩ => ⟨he, by subst hw; exact WDone.same h hs hv hW⟩
  by_cases hf : 1 ≤ c.flight ∧ c.flight ≤ 20
  case neg =>
    rw [doK_num k0 k8 hf]
    have HF := fun W (hW : Mod No w W) => (h.mod hW (fun _ _ x => x)).find c.flight
    obtain ⟨kind, flight, ar, ac, tr, tc, party, cls, time, pl⟩ := c
    exact (wdo_num wb flight ar ac tr tc party cls time pl w kind (by simp only at *; omega) _ hf HF).mono fun e w' ⟨he, hm⟩ => ⟨he, WDone.same h hs hv hm⟩
  have HF := fun W (hW : Mod No w W) => (h.mod hW (fun _ _ x => x)).find c.flight
  rcases hs.find c.flight hf with ⟨f1, f2⟩ | ⟨i, hi, f1, f2, f3⟩
  · rw [doK_none k0 k8 hf f2]
    by_cases k1 : c.kind = 1
    · rw [if_pos k1]
      by_cases hp : c.pla.sized = true ∧ c.pla.limited = true
      · rw [if_pos hp]
        have HA : ∀ W, Mod No w W → Calls Tryz.prog 51 #[.pointer (some ⟨wb, 0, none⟩), .agg (cmdCells c)] W fun e w' => e = .returned (.int .i64 0) ∧ WDone w w' ow wb now (fun j => if j = c.flight.toNat then some (c.pla.at 1, emptySeats c.pla) else fl j) := fun W hW => by
          have hW' := h.mod hW (fun _ _ x => x)
          have key : Calls Tryz.prog 51 #[.pointer (some ⟨wb, 0, none⟩), .agg (cmdCells c)] W fun e w' => e = .returned (.int .i64 0) ∧ AddedP W w' ow wb xs now c.flight c.pla := by
            rcases hW'.fls with ⟨rfl, rfl⟩ | ⟨gf, cap, rfl, _, _⟩
            · exact added_nil hW' c f1 hp.1 hp.2
            · by_cases hne : 0 < xs.length
              · refine added_row hW' hne c f1 hp.1 hp.2 ?_
                exact hs.room c.flight hf f1
              · have := hv (List.eq_nil_of_length_eq_zero (by omega))
                cases this
          refine key.mono ?_
          rintro e w' ⟨rfl, hm, v', n, g, cap, ow', q1, q2, q3, q4, q5⟩
          obtain ⟨s1, s2⟩ := hs.insert c.flight hf f1 n q1 q2 q3 (addX c.flight c.pla g cap) rfl (c.pla.at 1, emptySeats c.pla) rfl
          refine ⟨rfl, WDone.first ⟨⟨v', _, ow', q4, s1, q5, fun e => by simp at e⟩, hm.mono (fun k _ e => ?_)⟩ hW⟩
          subst e
          rw [h.mine]
          omega
        obtain ⟨kind, flight, ar, ac, tr, tc, party, cls, time, pl⟩ := c
        simp only at k1
        subst k1
        exact wdo_add wb flight ar ac tr tc party cls time pl w _ 0 _ hf HF HA
      · rw [if_neg hp]
        have HA : ∀ W, Mod No w W → Calls Tryz.prog 51 #[.pointer (some ⟨wb, 0, none⟩), .agg (cmdCells c)] W fun e w' => e = .returned (.int .i64 4) ∧ WDone w w' ow wb now fl := fun W hW =>
          (added_shape (h.mod hW (fun _ _ x => x)) c f1 hp).mono fun e w' ⟨he, hm⟩ => ⟨he, WDone.same h hs hv (hW.trans hm)⟩
        obtain ⟨kind, flight, ar, ac, tr, tc, party, cls, time, pl⟩ := c
        simp only at k1
        subst k1
        exact wdo_add wb flight ar ac tr tc party cls time pl w _ 4 _ hf HF HA
    · rw [if_neg k1]
      rw [f1] at HF
      obtain ⟨kind, flight, ar, ac, tr, tc, party, cls, time, pl⟩ := c
      exact (wdo_miss wb flight ar ac tr tc party cls time pl w kind (by simp only at *; omega) (-1) hf (by omega) k1 HF).mono fun e w' ⟨he, hm⟩ => ⟨he, WDone.same h hs hv hm⟩
  · rw [doK_some k0 k8 hf f3]
    by_cases k1 : c.kind = 1
    · rw [if_pos k1]
      have HA : ∀ W, Mod No w W → Calls Tryz.prog 51 #[.pointer (some ⟨wb, 0, none⟩), .agg (cmdCells c)] W fun e w' => e = .returned (.int .i64 3) ∧ WDone w w' ow wb now fl := fun W hW =>
        (added_twice (h.mod hW (fun _ _ x => x)) c i f1).mono fun e w' ⟨he, hm⟩ => ⟨he, WDone.same h hs hv (hW.trans hm)⟩
      obtain ⟨kind, flight, ar, ac, tr, tc, party, cls, time, pl⟩ := c
      simp only at k1
      subst k1
      exact wdo_add wb flight ar ac tr tc party cls time pl w _ 3 _ hf HF HA
    · rw [if_neg k1]
      simp only
      rw [seatErr_ep]
      obtain ⟨gf, cap, rfl⟩ := h.some (by omega)
      have key := fun (kind flight ar ac tr tc party cls time : Int) (pl : Pla) (hc : c = ⟨kind, flight, ar, ac, tr, tc, party, cls, time, pl⟩) =>
        wdo_seat h kind flight ar ac tr tc party cls time pl (by subst hc; simp only at *; omega) (by subst hc; exact hf) (by subst hc; exact ht) hn i hi (by subst hc; exact f1)
      obtain ⟨kind, flight, ar, ac, tr, tc, party, cls, time, pl⟩ := c
      refine (key kind flight ar ac tr tc party cls time pl rfl).mono ?_
      rintro e w' ⟨rfl, h1, hm⟩
      by_cases hz : seatErr xs[i].f.pla xs[i].f.seats ⟨kind, flight, ar, ac, tr, tc, party, cls, time, pl⟩ now = 0
      · rw [if_pos hz]
        refine ⟨by rw [hz], ⟨_, _, ow, h1, ?_, fun k hk => .inl hk, fun e => by have e2 := (List.set_eq_nil_iff _ _).1 e; rw [e2] at hi; exact absurd hi (Nat.not_lt_zero _)⟩, hm⟩
        exact hs.set flight hf i hi f1 (seatX ⟨kind, flight, ar, ac, tr, tc, party, cls, time, pl⟩ now xs[i]) rfl _ (seatX_same _ hk9 now xs[i] hz)
      · rw [if_neg hz]
        rw [seatX_not _ _ _ hz, List.set_getElem_self] at h1
        exact ⟨rfl, ⟨_, _, ow, h1, hs, fun k hk => .inl hk, hv⟩, hm⟩
end Go.Proofs.YtlcbemcamdafjaaGreat
