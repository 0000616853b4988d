import Derived.Test.YtlcbemcamdafjaaCpagedBegunDoes1
/- A seat is sold and given back: the plain model. -/
namespace Go.Proofs.Ytlcbemcamdafjaa
open Go.RowKit
open M
set_option linter.unusedVariables false
set_option linter.unusedSimpArgs false

def backC (kind r cc cls party now : Int) : Cmd := ⟨kind, 1, r, cc, 0, 0, party, cls, now + 5, ⟨0, 0, 0, 0, 0, 0, 0, 0⟩⟩

theorem doK_seat {fl : Nat → Option (Pla × List Sea)} {p : Pla} {l : List Sea} (hf : fl 1 = some (p, l)) (now : Int) (kind r cc cls party : Int) (hk : kind = 2 ∨ kind = 3 ∨ kind = 4) :
    doK now fl (backC kind r cc cls party now) = if seatErr p l (backC kind r cc cls party now) now = 0 then (0, now, fun j => if j = 1 then some (p.next, seatNew p l (backC kind r cc cls party now)) else fl j) else (seatErr p l (backC kind r cc cls party now) now, now, fl) := by
  have k : (backC kind r cc cls party now).kind = kind := rfl
  unfold doK
  rw [if_neg (by rw [k]; omega), if_neg (by rw [k]; omega), if_neg (by simp [backC])]
  rw [show (backC kind r cc cls party now).flight.toNat = 1 from rfl, hf]
  simp only
  rw [if_neg (by rw [k]; omega)]
  have hp : planNew p (backC kind r cc cls party now) = p.next := by unfold planNew; rw [if_neg (by rw [k]; omega)]
  rw [hp]

theorem lim_at (p : Pla) (e : Int) (j : Nat) : (p.at e).lim j = p.lim j := by
  match j with
  | 0 => rfl
  | 1 => rfl
  | 2 => rfl
  | _ + 3 => rfl
theorem leastTo_at (p : Pla) (e : Int) (l : List Sea) : ∀ c, leastTo (p.at e) l c = leastTo p l c
  | 0 => rfl
  | c + 1 => by
    unfold leastTo
    rw [leastTo_at p e l c, lim_at]
theorem leftOf_at (p : Pla) (e : Int) (l : List Sea) (c : Nat) : M.leftOf (p.at e) l c = M.leftOf p l c := by
  unfold M.leftOf
  rw [leastTo_at]
theorem leftOf_next (p : Pla) (l : List Sea) (c : Nat) : M.leftOf p.next l c = M.leftOf p l c := leftOf_at p _ l c

theorem seatErr_next (p : Pla) (l : List Sea) (c : Cmd) (now : Int) : seatErr p.next l c now = seatErr p l c now := by
  unfold seatErr
  rw [leftOf_next]
  rfl

/-- What the sale and the giving back come to. -/
structure BackOk (now : Int) (fl : Nat → Option (Pla × List Sea)) (p : Pla) (l : List Sea) (book : Bool) (kind r cc party : Int) (k : Nat) : Prop where
  now1 : (doK now fl (backC kind r cc k party now)).2.1 = now
  no : (doK now fl (backC kind r cc k party now)).1 ≠ 0 → (doK now fl (backC kind r cc k party now)).2.2 = fl ∧ (doK now fl (backC kind r cc k party now)).1 ≠ 15 ∧ (doK now fl (backC kind r cc k party now)).1 ≠ 16 ∧
    ((doK now fl (backC kind r cc k party now)).1 = 11 → M.leftOf p l k = 0)
  yes : (doK now fl (backC kind r cc k party now)).1 = 0 → ∃ l' l'', (doK now fl (backC kind r cc k party now)).2.2 1 = some (p.next, l') ∧
    (doK now (doK now fl (backC kind r cc k party now)).2.2 (backC 4 r cc k party now)).1 = 0 ∧
    (doK now (doK now fl (backC kind r cc k party now)).2.2 (backC 4 r cc k party now)).2.1 = now ∧
    (doK now (doK now fl (backC kind r cc k party now)).2.2 (backC 4 r cc k party now)).2.2 1 = some (p.next.next, l'') ∧
    (book = false → cS l' k = cS l k + 1 ∧ l'' = l) ∧ cA p l' 0 + cB p l' 0 + 1 = cA p l'' 0 + cB p l'' 0 ∧ cS l'' k = cS l' k - 1

theorem BackOk.plane {now : Int} {fl : Nat → Option (Pla × List Sea)} {p : Pla} {l : List Sea} {book : Bool} {kind r cc party : Int} {k : Nat} (h : BackOk now fl p l book kind r cc party k) (hf : fl 1 = some (p, l)) :
    ∃ e l', (doK now fl (backC kind r cc k party now)).2.2 1 = some (p.at e, l') := by
  by_cases h0 : (doK now fl (backC kind r cc k party now)).1 = 0
  · obtain ⟨l', _, y1, _⟩ := h.yes h0
    exact ⟨_, l', y1⟩
  · rw [(h.no h0).1]
    exact ⟨p.ep, l, hf⟩

theorem freeAll (p : Pla) (l : List Sea) : cA p l 0 + cB p l 0 = (nFree l : Int) := by
  have := nFree_split p l
  unfold cA cB
  rw [show ((0 : Nat) : Int) = 0 from rfl]
  omega

theorem sold_back {p : Pla} {l : List Sea} (hwf : Wf p l) (r cc party u st : Int) (k : Nat) (hst : st = 1 ∨ st = 2) (hh : p.has r cc = true) :
    ∃ l' l'', l' = l.set (p.idx r cc) ⟨r, cc, st, party, k, u⟩ ∧ seatAt p l' r cc = ⟨r, cc, st, party, k, u⟩ ∧ l'' = l'.set (p.idx r cc) (seatAt p l' r cc).freed ∧
      ((seatAt p l r cc).st = 0 → cS l' k = cS l k + 1 ∧ l'' = l) ∧ cA p l' 0 + cB p l' 0 + 1 = cA p l'' 0 + cB p l'' 0 ∧ cS l'' k = cS l' k - 1 := by
  obtain ⟨hi, he, her, hec⟩ := seatAt_eq hwf hh
  have h1 : p.idx r cc < (l.set (p.idx r cc) ⟨r, cc, st, party, k, u⟩).length := by simpa using hi
  have hs : seatAt p (l.set (p.idx r cc) ⟨r, cc, st, party, k, u⟩) r cc = ⟨r, cc, st, party, k, u⟩ := by
    unfold seatAt
    rw [List.getD_eq_getElem?_getD, List.getElem?_eq_getElem h1]
    simp
  refine ⟨_, _, rfl, hs, rfl, ?_, ?_, ?_⟩
  · intro h0
    have h0' : l[p.idx r cc].st = 0 := by rw [← he]; exact h0
    constructor
    · unfold cS nSold
      rw [countP_set _ l _ hi]
      have e1 : (l[p.idx r cc].sold && l[p.idx r cc].cl == ((k : Nat) : Int)) = false := by simp [Sea.sold, h0']
      have e2 : ((⟨r, cc, st, party, k, u⟩ : Sea).sold && (⟨r, cc, st, party, k, u⟩ : Sea).cl == ((k : Nat) : Int)) = true := by rcases hst with rfl | rfl <;> simp [Sea.sold]
      rw [e1, e2]
      simp
    · rw [hs, List.set_set]
      have hw := hwf.seat _ (List.getElem_mem hi)
      obtain ⟨b1, b2, b3⟩ := hw.bare (.inl h0')
      have e : (⟨r, cc, st, party, k, u⟩ : Sea).freed = l[p.idx r cc] := by
        unfold Sea.freed
        cases hx : l[p.idx r cc] with
        | mk a b c d e f =>
          simp only [hx] at her hec h0' b1 b2 b3
          subst her hec h0' b1 b2 b3
          rfl
      rw [e, List.set_getElem_self]
  · rw [freeAll, freeAll]
    unfold nFree
    rw [countP_set _ _ _ h1, hs]
    have e1 : ((l.set (p.idx r cc) ⟨r, cc, st, party, k, u⟩)[p.idx r cc].st == 0) = false := by rcases hst with rfl | rfl <;> simp
    have e2 : ((⟨r, cc, st, party, k, u⟩ : Sea).freed.st == 0) = true := by simp [Sea.freed]
    rw [e1, e2]
    simp
  · unfold cS nSold
    rw [countP_set _ _ _ h1, hs]
    have e1 : ((l.set (p.idx r cc) ⟨r, cc, st, party, k, u⟩)[p.idx r cc].sold && (l.set (p.idx r cc) ⟨r, cc, st, party, k, u⟩)[p.idx r cc].cl == ((k : Nat) : Int)) = true := by rcases hst with rfl | rfl <;> simp [Sea.sold]
    have e2 : ((⟨r, cc, st, party, k, u⟩ : Sea).freed.sold && (⟨r, cc, st, party, k, u⟩ : Sea).freed.cl == ((k : Nat) : Int)) = false := by simp [Sea.freed, Sea.sold]
    rw [e1, e2]
    simp

theorem back_model {fl : Nat → Option (Pla × List Sea)} {p : Pla} {l : List Sea} (hf : fl 1 = some (p, l)) (hwf : Wf p l) (now : Int) (book : Bool) (kind r cc party : Int) (k : Nat)
    (hkind : kind = if book then 3 else 2) (hk : k < 4) (hp : 1 ≤ party ∧ party ≤ 1000) : BackOk now fl p l book kind r cc party k := by
  have hk3 : kind = 2 ∨ kind = 3 ∨ kind = 4 := by cases book <;> simp at hkind <;> omega
  have hd := doK_seat hf now kind r cc k party hk3
  by_cases hh : p.has r cc = true
  case neg =>
    have hx : p.has r cc = false := by simpa using hh
    have he : seatErr p l (backC kind r cc k party now) now = 5 := by
      unfold seatErr
      rw [if_neg (by show ¬ kind = 9; omega), if_pos (.inl hx)]
    rw [he, if_neg (by omega)] at hd
    exact ⟨by rw [hd], fun _ => ⟨by rw [hd], by rw [hd]; simp, by rw [hd]; simp, fun h => by rw [hd] at h; simp at h⟩, fun h => by rw [hd] at h; simp at h⟩
  have hb : buyer (backC kind r cc k party now) = 0 := by
    unfold buyer backC
    rw [if_neg (by simp only; omega), if_neg (by simp only; omega)]
  have hh1 : ¬ (p.has (backC kind r cc k party now).ar (backC kind r cc k party now).ac = false ∨ ((backC kind r cc k party now).kind = 5 ∧ p.has (backC kind r cc k party now).tr (backC kind r cc k party now).tc = false)) := by
    rintro (h | ⟨h, _⟩)
    · have h : p.has r cc = false := h
      rw [hh] at h; cases h
    · have : kind = 5 := h
      omega
  -- the error of the sale
  have he : seatErr p l (backC kind r cc k party now) now = if book = true ∧ (seatAt p l r cc).st = 1 ∧ (seatAt p l r cc).pa = party ∧ (seatAt p l r cc).cl = k then 0 else saleN (seatAt p l r cc).st (M.leftOf p l k) := by
    unfold seatErr
    have kk : (backC kind r cc k party now).kind = kind := rfl
    rw [if_neg (by rw [kk]; omega), if_neg hh1]
    cases book with
    | false =>
      simp only [Bool.false_eq_true, if_false] at hkind
      rw [if_pos (by rw [kk]; omega), if_neg (by rw [hb]; simp), if_neg (by show ¬ (now + 5 ≤ now ∨ now + 5 > now + 100); omega), if_neg (by simp)]
      rfl
    | true =>
      simp only [if_true] at hkind
      rw [if_neg (by rw [kk]; omega), if_pos (by rw [kk]; omega), if_neg (by rw [hb]; simp)]
      simp only [true_and]
      rfl
  have hno : ∀ x, seatErr p l (backC kind r cc k party now) now = x → x ≠ 15 ∧ x ≠ 16 ∧ (x = 11 → M.leftOf p l k = 0) ∧ (x = 0 → (seatAt p l r cc).st = 0 ∨ book = true) := by
    intro x hx
    rw [he] at hx
    subst hx
    by_cases h1 : book = true ∧ (seatAt p l r cc).st = 1 ∧ (seatAt p l r cc).pa = party ∧ (seatAt p l r cc).cl = k
    · rw [if_pos h1]
      exact ⟨by omega, by omega, by omega, fun _ => .inr h1.1⟩
    · rw [if_neg h1]
      unfold saleN
      by_cases h2 : (seatAt p l r cc).st = 0
      · rw [if_neg (by simpa using h2)]
        by_cases h3 : M.leftOf p l k = 0
        · rw [if_pos h3]; exact ⟨by omega, by omega, fun _ => h3, by omega⟩
        · rw [if_neg h3]; exact ⟨by omega, by omega, by omega, fun _ => .inl h2⟩
      · rw [if_pos h2]; exact ⟨by omega, by omega, by omega, by omega⟩
  have hno := hno _ rfl
  generalize hE : seatErr p l (backC kind r cc k party now) now = E at *
  by_cases h0 : E = 0
  case neg =>
    rw [if_neg h0] at hd
    refine ⟨by rw [hd], fun _ => ⟨by rw [hd], by rw [hd]; exact hno.1, by rw [hd]; exact hno.2.1, fun h => hno.2.2.1 (by rw [hd] at h; exact h)⟩, fun h => absurd (by rw [hd] at h; exact h) h0⟩
  rw [if_pos h0] at hd
  refine ⟨by rw [hd], fun h => absurd (by rw [hd]) h, fun _ => ?_⟩
  rw [hd]
  simp only
  obtain ⟨st, u, hst, hnew⟩ : ∃ st u : Int, (st = 1 ∨ st = 2) ∧ seatNew p l (backC kind r cc k party now) = l.set (p.idx r cc) ⟨r, cc, st, party, k, u⟩ := by
    unfold seatNew
    have kk : (backC kind r cc k party now).kind = kind := rfl
    rcases (show kind = 2 ∨ kind = 3 by cases book <;> simp at hkind <;> omega) with h | h
    · rw [if_neg (by rw [kk]; omega), if_pos (by rw [kk]; exact h)]
      exact ⟨1, now + 5, .inl rfl, rfl⟩
    · rw [if_neg (by rw [kk]; omega), if_neg (by rw [kk]; omega), if_pos (by rw [kk]; exact h)]
      exact ⟨2, 0, .inr rfl, rfl⟩
  obtain ⟨l', l'', e1, e2, e3, e4, e5, e6⟩ := sold_back hwf r cc party u st k hst hh
  rw [hnew, ← e1]
  have hf2 : (fun j => if j = 1 then some (p.next, l') else fl j) 1 = some (p.next, l') := rfl
  have hd2 := doK_seat (fl := fun j => if j = 1 then some (p.next, l') else fl j) hf2 now 4 r cc k party (.inr (.inr rfl))
  have hz : seatErr p l' (backC 4 r cc k party now) now = 0 := by
    unfold seatErr
    rw [if_neg (by simp [backC]), if_neg ?_, if_neg (by simp [backC]), if_neg (by simp [backC]), if_pos (by rfl)]
    · show ownerN (seatAt p l' r cc).st (seatAt p l' r cc).pa party = 0
      rw [e2]
      unfold ownerN
      rw [if_neg (fun h => h hst), if_neg (fun h => h rfl)]
    · rintro (h | ⟨h, _⟩)
      · have : p.has r cc = false := h
        rw [hh] at this; cases this
      · exact absurd h (by simp [backC])
  rw [seatErr_next, if_pos hz] at hd2
  have hn2 : seatNew p.next l' (backC 4 r cc k party now) = l'' := by
    unfold seatNew
    rw [if_neg (by simp [backC]), if_neg (by simp [backC]), if_neg (by simp [backC]), if_neg (by simp [backC]), if_neg (by simp [backC]), e3]
    rfl
  rw [hn2] at hd2
  refine ⟨l', l'', rfl, by rw [hd2], by rw [hd2], by rw [hd2]; rfl, fun hbk => ?_, e5, e6⟩
  rcases hno.2.2.2 h0 with h | h
  · exact e4 h
  · rw [hbk] at h; cases h
end Go.Proofs.Ytlcbemcamdafjaa
