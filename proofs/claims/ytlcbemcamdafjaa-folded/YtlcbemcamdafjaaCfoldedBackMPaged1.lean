import Derived.Test.YtlcbemcamdafjaaCfoldedBegunPg1
import Derived.Test.YtlcbemcamdafjaaCfoldedTape2Fol4
import Derived.Test.YtlcbemcamdafjaaCfoldedDoes2Fol8
/- A seat is sold and given back: the plain model. -/
namespace Go.Proofs.Ytlcbemcamdafjaa
open Go.RowKit
open M
set_option linter.unusedVariables false
set_option linter.unusedSimpArgs false

def backC (kind r cc cls party now : Int) : Cmd := ⟨kind, 1, r, cc, 0, 0, party, cls, now + 5, ⟨0, 0, 0, 0, 0, 0, 0, 0⟩⟩

theorem doK_seat {fl : Nat → Option (Pla × List Sea)} {p : Pla} {l : List Sea} (hf : fl 1 = some (p, l)) (now : Int) (kind r cc cls party : Int) (hk : kind = 2 ∨ kind = 3 ∨ kind = 4) :
    doK now fl (backC kind r cc cls party now) = if seatErr p l (backC kind r cc cls party now) now = 0 then (0, now, fun j => if j = 1 then some (p.next, seatNew p l (backC kind r cc cls party now)) else fl j) else (seatErr p l (backC kind r cc cls party now) now, now, fl) := by
  have k : (backC kind r cc cls party now).kind = kind := rfl
  unfold doK
  rw [if_neg (by rw [k]; omega), if_neg (by rw [k]; omega), if_neg (by simp [backC])]
  rw [show (backC kind r cc cls party now).flight.toNat = 1 from rfl, hf]
  simp only
  rw [if_neg (by rw [k]; omega)]
  have hp : planNew p (backC kind r cc cls party now) = p.next := by unfold planNew; rw [if_neg (by rw [k]; omega)]
  rw [hp]

theorem limB_at (p : Pla) (e : Int) (j : Nat) : (p.at e).lim j = p.lim j := by
  match j with
  | 0 => rfl
  | 1 => rfl
  | 2 => rfl
  | _ + 3 => rfl
theorem leastTo_at (p : Pla) (e : Int) (l : List Sea) : ∀ c, leastTo (p.at e) l c = leastTo p l c
  | 0 => rfl
  | c + 1 => by
    unfold leastTo
    rw [leastTo_at p e l c, limB_at]
theorem leftOf_at (p : Pla) (e : Int) (l : List Sea) (c : Nat) : M.leftOf (p.at e) l c = M.leftOf p l c := by
  unfold M.leftOf
  rw [leastTo_at]
theorem leftOf_next (p : Pla) (l : List Sea) (c : Nat) : M.leftOf p.next l c = M.leftOf p l c := leftOf_at p _ l c

theorem seatErr_next (p : Pla) (l : List Sea) (c : Cmd) (now : Int) : seatErr p.next l c now = seatErr p l c now := by
  unfold seatErr
  rw [leftOf_next]
  rfl

/-- What the sale and the giving back come to. -/
structure BackOk (now : Int) (fl : Nat → Option (Pla × List Sea)) (p : Pla) (l : List Sea) (book : Bool) (kind r cc party : Int) (k : Nat) : Prop where
  now1 : (doK now fl (backC kind r cc k party now)).2.1 = now
  no : (doK now fl (backC kind r cc k party now)).1 ≠ 0 → (doK now fl (backC kind r cc k party now)).2.2 = fl ∧ (doK now fl (backC kind r cc k party now)).1 ≠ 15 ∧ (doK now fl (backC kind r cc k party now)).1 ≠ 16 ∧
    ((doK now fl (backC kind r cc k party now)).1 = 11 → M.leftOf p l k = 0)
  yes : (doK now fl (backC kind r cc k party now)).1 = 0 → ∃ l' l'', (doK now fl (backC kind r cc k party now)).2.2 1 = some (p.next, l') ∧
    (doK now (doK now fl (backC kind r cc k party now)).2.2 (backC 4 r cc k party now)).1 = 0 ∧
    (doK now (doK now fl (backC kind r cc k party now)).2.2 (backC 4 r cc k party now)).2.1 = now ∧
    (doK now (doK now fl (backC kind r cc k party now)).2.2 (backC 4 r cc k party now)).2.2 1 = some (p.next.next, l'') ∧
    (book = false → cS l' k = cS l k + 1 ∧ l'' = l) ∧ cA p l' 0 + cB p l' 0 + 1 = cA p l'' 0 + cB p l'' 0 ∧ cS l'' k = cS l' k - 1

theorem BackOk.plane {now : Int} {fl : Nat → Option (Pla × List Sea)} {p : Pla} {l : List Sea} {book : Bool} {kind r cc party : Int} {k : Nat} (h : BackOk now fl p l book kind r cc party k) (hf : fl 1 = some (p, l)) :
    ∃ e l', (doK now fl (backC kind r cc k party now)).2.2 1 = some (p.at e, l') := by
  by_cases h0 : (doK now fl (backC kind r cc k party now)).1 = 0
  · obtain ⟨l', _, y1, _⟩ := h.yes h0
    exact ⟨_, l', y1⟩
  · rw [(h.no h0).1]
    exact ⟨p.ep, l, hf⟩

theorem freeAll (p : Pla) (l : List Sea) : cA p l 0 + cB p l 0 = (nFree l : Int) := by
  have := nFree_split p l
  unfold cA cB
  rw [show ((0 : Nat) : Int) = 0 from rfl]
  omega

theorem sold_back {p : Pla} {l : List Sea} (hwf : Wf p l) (r cc party u st : Int) (k : Nat) (hst : st = 1 ∨ st = 2) (hh : p.has r cc = true) :
    ∃ l' l'', l' = l.set (p.idx r cc) ⟨r, cc, st, party, k, u⟩ ∧ seatAt p l' r cc = ⟨r, cc, st, party, k, u⟩ ∧ l'' = l'.set (p.idx r cc) (seatAt p l' r cc).freed ∧
      ((seatAt p l r cc).st = 0 → cS l' k = cS l k + 1 ∧ l'' = l) ∧ cA p l' 0 + cB p l' 0 + 1 = cA p l'' 0 + cB p l'' 0 ∧ cS l'' k = cS l' k - 1 := by
  obtain ⟨hi, he, her, hec⟩ := seatAt_eq hwf hh
  have h1 : p.idx r cc < (l.set (p.idx r cc) ⟨r, cc, st, party, k, u⟩).length := by simpa using hi
  have hs : seatAt p (l.set (p.idx r cc) ⟨r, cc, st, party, k, u⟩) r cc = ⟨r, cc, st, party, k, u⟩ := by
    unfold seatAt
    rw [List.getD_eq_getElem?_getD, List.getElem?_eq_getElem h1]
    simp
  refine ⟨_, _, rfl, hs, rfl, ?_, ?_, ?_⟩
  · intro h0
    have h0' : l[p.idx r cc].st = 0 := by rw [← he]; exact h0
    constructor
    · unfold cS nSold
      rw [countP_set _ l _ hi]
      have e1 : (l[p.idx r cc].sold && l[p.idx r cc].cl == ((k : Nat) : Int)) = false := by simp [Sea.sold, h0']
      have e2 : ((⟨r, cc, st, party, k, u⟩ : Sea).sold && (⟨r, cc, st, party, k, u⟩ : Sea).cl == ((k : Nat) : Int)) = true := by rcases hst with rfl | rfl <;> simp [Sea.sold]
      rw [e1, e2]
      simp
    · rw [hs, List.set_set]
      have hw := hwf.seat _ (List.getElem_mem hi)
      obtain ⟨b1, b2, b3⟩ := hw.bare (.inl h0')
      have e : (⟨r, cc, st, party, k, u⟩ : Sea).freed = l[p.idx r cc] := by
        unfold Sea.freed
        cases hx : l[p.idx r cc] with
        | mk a b c d e f =>
          simp only [hx] at her hec h0' b1 b2 b3
          subst her hec h0' b1 b2 b3
          rfl
      rw [e, List.set_getElem_self]
  · rw [freeAll, freeAll]
    unfold nFree
    rw [countP_set _ _ _ h1, hs]
    have e1 : ((l.set (p.idx r cc) ⟨r, cc, st, party, k, u⟩)[p.idx r cc].st == 0) = false := by rcases hst with rfl | rfl <;> simp
    have e2 : ((⟨r, cc, st, party, k, u⟩ : Sea).freed.st == 0) = true := by simp [Sea.freed]
    rw [e1, e2]
    simp
  · unfold cS nSold
    rw [countP_set _ _ _ h1, hs]
    have e1 : ((l.set (p.idx r cc) ⟨r, cc, st, party, k, u⟩)[p.idx r cc].sold && (l.set (p.idx r cc) ⟨r, cc, st, party, k, u⟩)[p.idx r cc].cl == ((k : Nat) : Int)) = true := by rcases hst with rfl | rfl <;> simp [Sea.sold]
    have e2 : ((⟨r, cc, st, party, k, u⟩ : Sea).freed.sold && (⟨r, cc, st, party, k, u⟩ : Sea).freed.cl == ((k : Nat) : Int)) = false := by simp [Sea.freed, Sea.sold]
    rw [e1, e2]
    simp

theorem back_model {fl : Nat → Option (Pla × List Sea)} {p : Pla} {l : List Sea} (hf : fl 1 = some (p, l)) (hwf : Wf p l) (now : Int) (book : Bool) (kind r cc party : Int) (k : Nat)
    (hkind : kind = if book then 3 else 2) (hk : k < 4) (hp : 1 ≤ party ∧ party ≤ 1000) : BackOk now fl p l book kind r cc party k := by
  have hk3 : kind = 2 ∨ kind = 3 ∨ kind = 4 := by cases book <;> simp at hkind <;> omega
  have hd := doK_seat hf now kind r cc k party hk3
  by_cases hh : p.has r cc = true
  case neg =>
    have hx : p.has r cc = false := by simpa using hh
    have he : seatErr p l (backC kind r cc k party now) now = 5 := by
      unfold seatErr
      rw [if_neg (by show ¬ kind = 9; omega), if_pos (.inl hx)]
    rw [he, if_neg (by omega)] at hd
    exact ⟨by rw [hd], fun _ => ⟨by rw [hd], by rw [hd]; simp, by rw [hd]; simp, fun h => by rw [hd] at h; simp at h⟩, fun h => by rw [hd] at h; simp at h⟩
  have hb : buyer (backC kind r cc k party now) = 0 := by
    unfold buyer backC
    rw [if_neg (by simp only; omega), if_neg (by simp only; omega)]
  have hh1 : ¬ (p.has (backC kind r cc k party now).ar (backC kind r cc k party now).ac = false ∨ ((backC kind r cc k party now).kind = 5 ∧ p.has (backC kind r cc k party now).tr (backC kind r cc k party now).tc = false)) := by
    rintro (h | ⟨h, _⟩)
    · have h : p.has r cc = false := h
      rw [hh] at h; cases h
    · have : kind = 5 := h
      omega
  -- the error of the sale
  have he : seatErr p l (backC kind r cc k party now) now = if book = true ∧ (seatAt p l r cc).st = 1 ∧ (seatAt p l r cc).pa = party ∧ (seatAt p l r cc).cl = k then 0 else saleN (seatAt p l r cc).st (M.leftOf p l k) := by
    unfold seatErr
    have kk : (backC kind r cc k party now).kind = kind := rfl
    rw [if_neg (by rw [kk]; omega), if_neg hh1]
    cases book with
    | false =>
      simp only [Bool.false_eq_true, if_false] at hkind
      rw [if_pos (by rw [kk]; omega), if_neg (by rw [hb]; simp), if_neg (by show ¬ (now + 5 ≤ now ∨ now + 5 > now + 100); omega), if_neg (by simp)]
      rfl
    | true =>
      simp only [if_true] at hkind
      rw [if_neg (by rw [kk]; omega), if_pos (by rw [kk]; omega), if_neg (by rw [hb]; simp)]
      simp only [true_and]
      rfl
  have hno : ∀ x, seatErr p l (backC kind r cc k party now) now = x → x ≠ 15 ∧ x ≠ 16 ∧ (x = 11 → M.leftOf p l k = 0) ∧ (x = 0 → (seatAt p l r cc).st = 0 ∨ book = true) := by
    intro x hx
    rw [he] at hx
    subst hx
    by_cases h1 : book = true ∧ (seatAt p l r cc).st = 1 ∧ (seatAt p l r cc).pa = party ∧ (seatAt p l r cc).cl = k
    · rw [if_pos h1]
      exact ⟨by omega, by omega, by omega, fun _ => .inr h1.1⟩
    · rw [if_neg h1]
      unfold saleN
      by_cases h2 : (seatAt p l r cc).st = 0
      · rw [if_neg (by simpa using h2)]
        by_cases h3 : M.leftOf p l k = 0
        · rw [if_pos h3]; exact ⟨by omega, by omega, fun _ => h3, by omega⟩
        · rw [if_neg h3]; exact ⟨by omega, by omega, by omega, fun _ => .inl h2⟩
      · rw [if_pos h2]; exact ⟨by omega, by omega, by omega, by omega⟩
  have hno := hno _ rfl
  generalize hE : seatErr p l (backC kind r cc k party now) now = E at *
  by_cases h0 : E = 0
  case neg =>
    rw [if_neg h0] at hd
    refine ⟨by rw [hd], fun _ => ⟨by rw [hd], by rw [hd]; exact hno.1, by rw [hd]; exact hno.2.1, fun h => hno.2.2.1 (by rw [hd] at h; exact h)⟩, fun h => absurd (by rw [hd] at h; exact h) h0⟩
  rw [if_pos h0] at hd
  refine ⟨by rw [hd], fun h => absurd (by rw [hd]) h, fun _ => ?_⟩
  rw [hd]
  simp only
  obtain ⟨st, u, hst, hnew⟩ : ∃ st u : Int, (st = 1 ∨ st = 2) ∧ seatNew p l (backC kind r cc k party now) = l.set (p.idx r cc) ⟨r, cc, st, party, k, u⟩ := by
    unfold seatNew
    have kk : (backC kind r cc k party now).kind = kind := rfl
    rcases (show kind = 2 ∨ kind = 3 by cases book <;> simp at hkind <;> omega) with h | h
    · rw [if_neg (by rw [kk]; omega), if_pos (by rw [kk]; exact h)]
      exact ⟨1, now + 5, .inl rfl, rfl⟩
    · rw [if_neg (by rw [kk]; omega), if_neg (by rw [kk]; omega), if_pos (by rw [kk]; exact h)]
      exact ⟨2, 0, .inr rfl, rfl⟩
  obtain ⟨l', l'', e1, e2, e3, e4, e5, e6⟩ := sold_back hwf r cc party u st k hst hh
  rw [hnew, ← e1]
  have hf2 : (fun j => if j = 1 then some (p.next, l') else fl j) 1 = some (p.next, l') := rfl
  have hd2 := doK_seat (fl := fun j => if j = 1 then some (p.next, l') else fl j) hf2 now 4 r cc k party (.inr (.inr rfl))
  have hz : seatErr p l' (backC 4 r cc k party now) now = 0 := by
    unfold seatErr
    rw [if_neg (by simp [backC]), if_neg ?_, if_neg (by simp [backC]), if_neg (by simp [backC]), if_pos (by rfl)]
    · show ownerN (seatAt p l' r cc).st (seatAt p l' r cc).pa party = 0
      rw [e2]
      unfold ownerN
      rw [if_neg (fun h => h hst), if_neg (fun h => h rfl)]
    · rintro (h | ⟨h, _⟩)
      · have : p.has r cc = false := h
        rw [hh] at this; cases this
      · exact absurd h (by simp [backC])
  rw [seatErr_next, if_pos hz] at hd2
  have hn2 : seatNew p.next l' (backC 4 r cc k party now) = l'' := by
    unfold seatNew
    rw [if_neg (by simp [backC]), if_neg (by simp [backC]), if_neg (by simp [backC]), if_neg (by simp [backC]), if_neg (by simp [backC]), e3]
    rfl
  rw [hn2] at hd2
  refine ⟨l', l'', rfl, by rw [hd2], by rw [hd2], by rw [hd2]; rfl, fun hbk => ?_, e5, e6⟩
  rcases hno.2.2.2 h0 with h | h
  · exact e4 h
  · rw [hbk] at h; cases h
end Go.Proofs.Ytlcbemcamdafjaa
/- Steps, one behind the other: what stays so. -/
namespace Go.Proofs.Ytlcbemcamdafjaa
open Go.RowKit
open M
set_option linter.unusedVariables false
set_option linter.unusedSimpArgs false
set_option maxRecDepth 100000

theorem doK_keeps {now : Int} {fl : Nat → Option (Pla × List Sea)} {p : Pla} {l : List Sea} (h : fl 1 = some (p, l)) (c : Cmd) :
    (∃ p' l', (doK now fl c).2.2 1 = some (p', l')) ∧ now ≤ (doK now fl c).2.1 ∧ (doK now fl c).2.1 ≤ now + 100 := by
  unfold doK
  split
  · exact ⟨⟨p, l, h⟩, by simp, by simp; omega⟩
  split
  · split
    · exact ⟨⟨tickP (now + c.time) p l, tickSeats (now + c.time) l, by simp [h, tickF]⟩, by simp; omega, by simp; omega⟩
    · exact ⟨⟨p, l, h⟩, by simp, by simp; omega⟩
  split
  · exact ⟨⟨p, l, h⟩, by simp, by simp; omega⟩
  rename_i hf
  have hf : 1 ≤ c.flight ∧ c.flight ≤ 20 := by simpa using hf
  cases hfl : fl c.flight.toNat with
  | none =>
    simp only
    have hne : (1 : Nat) ≠ c.flight.toNat := by intro e; rw [← e, h] at hfl; cases hfl
    split
    · split
      · exact ⟨⟨p, l, by simp [hne, h]⟩, by simp, by simp; omega⟩
      · exact ⟨⟨p, l, h⟩, by simp, by simp; omega⟩
    · exact ⟨⟨p, l, h⟩, by simp, by simp; omega⟩
  | some x =>
    simp only
    split
    · exact ⟨⟨p, l, h⟩, by simp, by simp; omega⟩
    · split
      · by_cases e : (1 : Nat) = c.flight.toNat
        · rw [← e, h] at hfl
          cases hfl
          exact ⟨⟨planNew p c, seatNew p l c, by simp [← e]⟩, by simp, by simp; omega⟩
        · exact ⟨⟨p, l, by simp [e, h]⟩, by simp, by simp; omega⟩
      · exact ⟨⟨p, l, h⟩, by simp, by simp; omega⟩

/-- What stays so while steps are done: from the world w on, whose last block is the box of a place. -/
structure BackI (w wr : World) (kb lb : Nat) (i : Nat) : Prop where
  keep : ∃ ow now fl p l, KeepH wr ow kb now fl ∧ fl 1 = some (p, l) ∧ 0 ≤ now ∧ now ≤ 100 * (i : Int) ∧ ow lb = 0 ∧ ∀ k, k < w.heap.size → ow k = 0
  lim : ∃ cs : Array Value, cs.size = 84 ∧ Has wr lb cs 97
  mod : Mod No w wr
  lbn : w.heap.size ≤ lb

theorem BackI.step {w wr : World} {kb lb i : Nat} (h : BackI w wr kb lb i) (hi : i ≤ 1099511627776) (W : World) (hW : Mod No wr W) (c : Cmd) :
    Calls Try.prog 16 #[.pointer (some ⟨kb, 0, none⟩), .agg (cmdCells c), .pointer (some ⟨lb, 0, none⟩)] W fun e w' => (∃ x, e = .returned (.int .i64 x)) ∧ BackI w w' kb lb (i + 1) := by
  obtain ⟨ow, now, fl, p, l, k1, k2, k3, k4, k5, k6⟩ := h.keep
  obtain ⟨cs, s1, s2⟩ := h.lim
  refine (does_any (k1.mod hW (fun _ _ x => x)) ⟨k3, by omega⟩ c cs s1 (hW.has s2 (fun x => x)) k5).mono ?_
  rintro e w' ⟨rfl, ⟨ow', q1, q2⟩, ⟨cs', t1, t2⟩, hm⟩
  obtain ⟨⟨p', l', e1⟩, e2, e3⟩ := doK_keeps (now := now) k2 c
  have sz : w.heap.size ≤ W.heap.size := Nat.le_trans h.mod.size hW.size
  have slb : lb < W.heap.size := Nat.lt_of_lt_of_le s2.lt hW.size
  refine ⟨⟨_, rfl⟩, ⟨ow', _, _, p', l', q1, e1, by omega, by omega, by rw [q2 lb slb]; exact k5, fun k hk => by rw [q2 k (by omega)]; exact k6 k hk⟩, ⟨cs', t1, t2⟩, ?_, h.lbn⟩
  refine (h.mod.trans hW).trans' hm (fun j hj hl => ?_)
  rcases hj with hj | hj
  · exact hj (k6 j hl)
  · have := h.lbn
    omega

theorem BackI.start {w W w' : World} {ow : Nat → Nat} {kb : Nat} (h : KeepH W ow kb 0 fl0) (ho : ∀ k, k < w.heap.size → ow k = 0) (hW : Mod No w W) (hm : Mod No W w') (cs : Array Value) (hs : cs.size = 84) (hb : Has w' W.heap.size cs 97) : BackI w w' kb W.heap.size 0 := by
  refine ⟨⟨ow, 0, fl0, _, _, h.mod hm (fun _ _ x => x), rfl, by omega, by simp, ?_, ho⟩, ⟨cs, hs, hb⟩, hW.trans hm, hW.size⟩
  obtain ⟨pt, hx⟩ := h
  by_cases e : ow W.heap.size = 0
  · exact e
  · have := hx.old _ e; omega

/-- A script in memory: each of its steps can be tamed. -/
def Script (w : World) (a : Option Addr) (n : Nat) : Prop :=
  ∀ i, i < n → ∃ b off S, a = some ⟨b, off, none⟩ ∧ S.size = 21 ∧ w.rangeAt b (off + i * 21) S.toList ∧ ∀ W, Calls Try.prog 15 #[.agg S] W fun e w' => ∃ c : Cmd, e = .returned (.agg (cmdCells c)) ∧ Mod No W w'

theorem Mod.cell {w w' : World} (h : Mod No w w') {a : Addr} {v : Value} (hc : w.cell? a = some v) : w'.cell? a = some v := by
  have hl := World.block_lt_of_cell? w a hc
  unfold World.cell? at hc ⊢
  rw [h.block _ hl (fun x => x)]
  exact hc

theorem Mod.range {w w' : World} (h : Mod No w w') {b o : Nat} {l : List Value} (hr : w.rangeAt b o l) : w'.rangeAt b o l := fun j v hv => h.cell (hr j v hv)

theorem Script.mod {w w' : World} {a : Option Addr} {n : Nat} (h : Script w a n) (hm : Mod No w w') : Script w' a n := fun i hi => by
  obtain ⟨b, off, S, h1, h2, h3, h4⟩ := h i hi
  exact ⟨b, off, S, h1, h2, hm.range h3, h4⟩
end Go.Proofs.Ytlcbemcamdafjaa
/- Pages among steps: what stays so. -/
namespace Go.Proofs.Ytlcbemcamdafjaa
open Go.RowKit
open M
set_option linter.unusedVariables false
set_option linter.unusedSimpArgs false
set_option maxRecDepth 100000
set_option maxHeartbeats 2000000

structure PagX (w wr : World) (kb lb : Nat) (i : Nat) (now : Int) (fl : Nat → Option (Pla × List Sea)) (p : Pla) (l : List Sea) : Prop where
  keep : ∃ ow, KeepH wr ow kb now fl ∧ ow lb = 0 ∧ ∀ k, k < w.heap.size → ow k = 0
  one : fl 1 = some (p, l)
  fit : FitK fl
  lim : ∃ cs : Array Value, cs.size = 84 ∧ Has wr lb cs 97 ∧ LimR cs fl
  now0 : 0 ≤ now
  now1 : now ≤ 100 * (i : Int)
  mod : Mod No w wr
  lbn : w.heap.size ≤ lb

theorem PagX.still {w wr w2 : World} {kb lb i : Nat} {now : Int} {fl : Nat → Option (Pla × List Sea)} {p : Pla} {l : List Sea} (h : PagX w wr kb lb i now fl p l) (hm : Mod No wr w2) : PagX w w2 kb lb i now fl p l := by
  obtain ⟨ow, k1, k2, k3⟩ := h.keep
  obtain ⟨cs, s1, s2, s3⟩ := h.lim
  exact ⟨⟨ow, k1.mod hm (fun _ _ x => x), k2, k3⟩, h.one, h.fit, ⟨cs, s1, hm.has s2 (fun x => x), s3⟩, h.now0, h.now1, h.mod.trans hm, h.lbn⟩

theorem FitK.on {w : World} {ow : Nat → Nat} {kb : Nat} {now : Int} {fl : Nat → Option (Pla × List Sea)} {c : Cmd} (h : FitK fl) (hk : KeepH w ow kb (doK now fl c).2.1 (doK now fl c).2.2) : FitK (doK now fl c).2.2 :=
  fun n hn p l hp => ⟨hk.wf hn hp, doK_fit now c h n hn p l hp⟩

theorem PagX.step {w W : World} {kb lb i : Nat} {now : Int} {fl : Nat → Option (Pla × List Sea)} {p : Pla} {l : List Sea} (h : PagX w W kb lb i now fl p l) (hi : i ≤ 1099511627776 + 10) (c : Cmd) :
    Calls Try.prog 16 #[.pointer (some ⟨kb, 0, none⟩), .agg (cmdCells c), .pointer (some ⟨lb, 0, none⟩)] W fun e w' => e = .returned (.int .i64 (doK now fl c).1) ∧ ∃ p' l', PagX w w' kb lb (i + 1) (doK now fl c).2.1 (doK now fl c).2.2 p' l' := by
  obtain ⟨ow, k1, k5, k6⟩ := h.keep
  obtain ⟨cs, s1, s2, s3⟩ := h.lim
  have k3 := h.now0
  have k4 := h.now1
  refine (doesL_any k1 ⟨k3, by omega⟩ c cs s1 s2 k5).mono ?_
  rintro e w' ⟨rfl, ⟨ow', q1, q2⟩, ⟨cs', t1, t2, t3⟩, hm⟩
  obtain ⟨⟨p', l', e1⟩, e2, e3⟩ := doK_keeps (now := now) h.one c
  have sz : w.heap.size ≤ W.heap.size := h.mod.size
  have slb : lb < W.heap.size := s2.lt
  refine ⟨rfl, p', l', ⟨ow', q1, by rw [q2 lb slb]; exact k5, fun k hk => by rw [q2 k (by omega)]; exact k6 k hk⟩, e1, h.fit.on q1, ⟨cs', t1, t2, t3 s3⟩, by omega, by omega, ?_, h.lbn⟩
  refine h.mod.trans' hm (fun j hj hl => ?_)
  rcases hj with hj | hj
  · exact hj (k6 j hl)
  · have := h.lbn
    omega

theorem fitK0 : FitK fl0 := by
  intro n hn p l h
  unfold fl0 at h
  by_cases e : n = 1
  · rw [if_pos e] at h
    injection h with h
    injection h with e1 e2
    subst e1 e2
    exact ⟨empty_wf (by decide) (by decide), fit_empty (p := p0) (by decide) p0 (fun _ => rfl)⟩
  · rw [if_neg e] at h
    exact absurd h (by simp)

theorem firstL_any (w : World) : Calls Try.prog 14 #[] w fun e w' => ∃ cs, cs.size = 84 ∧ LimR cs fl0 ∧ e = .returned (.pointer (some ⟨w.heap.size, 0, none⟩)) ∧ Has w' w.heap.size cs 97 ∧ Mod No w w' := by
  go_enter Try.func14, Try.ntmps14
  go_wp2
  go_ret
  refine ⟨_, rfl, ?_, rfl, Has.new w _ _, (Mod.refl No w).alloc _⟩
  intro n hn p l h k hk
  unfold fl0 at h
  by_cases e : n = 1
  · rw [if_pos e] at h
    injection h with h
    injection h with e1 e2
    subst e e1 e2
    have : k = 0 ∨ k = 1 ∨ k = 2 ∨ k = 3 := by omega
    rcases this with rfl | rfl | rfl | rfl <;> rfl
  · rw [if_neg e] at h
    exact absurd h (by simp)

theorem PagX.start {w W w' : World} {ow : Nat → Nat} {kb : Nat} (h : KeepH W ow kb 0 fl0) (ho : ∀ k, k < w.heap.size → ow k = 0) (hW : Mod No w W) (hm : Mod No W w') (cs : Array Value) (hs : cs.size = 84) (hL : LimR cs fl0) (hb : Has w' W.heap.size cs 97) : PagX w w' kb W.heap.size 0 0 fl0 p0 (emptySeats p0) := by
  refine ⟨⟨ow, h.mod hm (fun _ _ x => x), ?_, ho⟩, rfl, fitK0, ⟨cs, hs, hb, hL⟩, by omega, by simp, hW.trans hm, hW.size⟩
  obtain ⟨pt, hx⟩ := h
  by_cases e : ow W.heap.size = 0
  · exact e
  · have := hx.old _ e; omega

theorem wrap_mod (x : Int) : IntKind.i64.wrap x % 18446744073709551616 = x % 18446744073709551616 := by
  simp only [IntKind.wrap]
  first | omega | (split <;> omega) | (simp [IntKind.bits, IntKind.signed]; omega)

theorem nx_ne (e : Int) : nx e ≠ e := by
  intro h
  have := wrap_mod (e + 1)
  unfold nx at h
  omega

theorem nx2_ne (e : Int) : nx (nx e) ≠ e := by
  intro h
  have h1 := wrap_mod (e + 1)
  have h2 := wrap_mod (nx e + 1)
  unfold nx at h h2
  omega

/-- A row that was told lies in a block of its own. -/
theorem rowS_told {w : World} {a : Option Addr} {c : Nat} {l : List Sea} (h : w.ownsRow 0 61 6 (.slice a l.length c) l.length (l.flatMap seaL)) (hpos : 0 < l.length) : ∃ g, a = some ⟨g, 0, none⟩ ∧ RowS w g c l := by
  have h' := h
  obtain ⟨h0, h1 | ⟨g', cap', cur, hv, hb, hg, hn, hm, hsz, ht⟩⟩ := h
  · have := h1.2
    simp at this
    omega
  · injection hv with e1 e2 e3
    subst e1
    exact ⟨g', rfl, (rowS_of h').2⟩
end Go.Proofs.Ytlcbemcamdafjaa
