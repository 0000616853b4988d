import Derived.Test.YthhibagcpjeihaaGPg6ToOver
import Derived.Test.YthhibagcpjeihaaGLeastToDoes1
import Derived.Test.YthhibagcpjeihaaGModelToMaps
import Derived.Handy
import Derived.Test.YthhibagcpjeihaaGBaseToAppend
/- No class is sold above its limit: it stays so. -/
namespace Go.Proofs.Ythhibagcpjeihaa
open Go.RowKit
open M
set_option linter.unusedVariables false
set_option linter.unusedSimpArgs false
set_option maxRecDepth 100000
set_option maxHeartbeats 2000000

/-- A question to a seat that asks not where it is, and that no free seat answers. -/
structure Ask (f : Sea → Bool) : Prop where
  full : ∀ s, f s = true → s.st ≠ 0
  at_ : ∀ s x, f (Sea.at s x) = f s

theorem Ask.free {f : Sea → Bool} (h : Ask f) {s : Sea} (h0 : s.st = 0) : f s = false := by
  cases hf : f s with
  | false => rfl
  | true => exact absurd h0 (h.full s hf)

def sold1 (f : Sea → Bool) (s : Sea) : Nat := if f s = true then 1 else 0

theorem count_put (f : Sea → Bool) (acc : List Sea) (j : Nat) (h : j < acc.length) (s : Sea) : (acc.set j s).countP f + sold1 f acc[j] = acc.countP f + sold1 f s := by
  have := countP_set f acc j h s
  unfold sold1
  cases h1 : f acc[j] <;> cases h2 : f s <;> simp [h1, h2] at this ⊢ <;> omega

theorem count_step (f : Sea → Bool) (l : List Sea) (i : Nat) (h : i < l.length) : (l.take (i + 1)).countP f = (l.take i).countP f + sold1 f l[i] := by
  rw [take_succ l i h, List.countP_append]
  unfold sold1
  cases hf : f l[i] <;> simp [hf]

theorem count_empty {f : Sea → Bool} (h : Ask f) (q : Pla) : (emptySeats q).countP f = 0 := by
  rw [List.countP_eq_zero]
  intro s hs
  simp only [emptySeats, List.mem_map] at hs
  obtain ⟨i, _, rfl⟩ := hs
  rw [h.free rfl]
  simp

theorem stay_count {f : Sea → Bool} (h : Ask f) {p q : Pla} {l : List Sea} (hwf : Wf p l) (h1 : q.sized = true) (h2 : q.limited = true) : ∀ i, i ≤ l.length → (stay q (l.take i)).countP f + (homeless q (l.take i)).countP f = (l.take i).countP f
  | 0, _ => by
    show (emptySeats q).countP f + 0 = 0
    rw [count_empty h]
  | i + 1, hi => by
    have ih := stay_count h hwf h1 h2 i (by omega)
    have hS := stayed_take hwf h1 h2 i (by omega)
    rw [stay_take q l i (by omega), homeless_take q l i (by omega), List.countP_append, count_step f l i (by omega)]
    unfold stayStep
    by_cases hc : l[i].st ≠ 0 ∧ q.has l[i].row l[i].col = true
    · rw [if_pos hc, if_neg (fun x => x.2 hc.2)]
      obtain ⟨hj, f0, _, _⟩ := hS.free hwf (by omega) hc.2
      have := count_put f (stay q (l.take i)) _ hj l[i]
      have e0 : sold1 f (stay q (l.take i))[q.idx l[i].row l[i].col] = 0 := by unfold sold1; rw [h.free f0]; rfl
      simp only [List.countP_nil]
      omega
    · rw [if_neg hc]
      by_cases h0 : l[i].st = 0
      · rw [if_neg (fun x => x.1 h0)]
        have e0 : sold1 f l[i] = 0 := by unfold sold1; rw [h.free h0]; rfl
        simp only [List.countP_nil]
        omega
      · rw [if_pos ⟨h0, fun x => hc ⟨h0, x⟩⟩]
        have : List.countP f [l[i]] = sold1 f l[i] := by
          unfold sold1
          cases hf : f l[i] <;> simp [hf]
        omega

theorem reseat_count {f : Sea → Bool} (h : Ask f) {q : Pla} : ∀ (hs acc : List Sea), (∀ s ∈ hs, s.wf ∧ s.st ≠ 0) → Reseat q acc hs.length → (hs.foldl reseatStep acc).countP f = acc.countP f + hs.countP f
  | [], acc, _, _ => by simp
  | s :: hs, acc, ho, hr => by
    have hr' : Reseat q acc (hs.length + 1) := hr
    have h1 := ho s (List.mem_cons_self)
    have ih := reseat_count h hs (reseatStep acc s) (fun x hx => ho x (List.mem_cons_of_mem _ hx)) (hr'.step h1.1 h1.2)
    have hl := firstFree_lt hr'
    have e : acc.getD (firstFree acc) noSea = acc[firstFree acc] := by
      rw [List.getD_eq_getElem?_getD, List.getElem?_eq_getElem hl]; rfl
    have hp := count_put f acc (firstFree acc) hl (Sea.at s acc[firstFree acc])
    have e0 : sold1 f acc[firstFree acc] = 0 := by unfold sold1; rw [h.free (firstFree_at hl)]; rfl
    have e1 : sold1 f (Sea.at s acc[firstFree acc]) = sold1 f s := by unfold sold1; rw [h.at_]
    have e2 : (reseatStep acc s).countP f = acc.countP f + sold1 f s := by
      unfold reseatStep
      rw [e]
      omega
    rw [List.foldl_cons, ih, e2, List.countP_cons]
    unfold sold1
    omega

theorem swap_count {f : Sea → Bool} (h : Ask f) {p q : Pla} {l : List Sea} (hwf : Wf p l) (h1 : q.sized = true) (h2 : q.limited = true) (hn : ¬ q.rows * q.cols < (nFull l : Int)) : (swapSeats q l).countP f = l.countP f := by
  unfold swapSeats
  rw [reseat_count h _ _ (homeless_ok hwf) (reseat_start hwf h1 h2 hn)]
  have := stay_count h hwf h1 h2 l.length (Nat.le_refl _)
  rw [List.take_length] at this
  exact this

theorem ask_from (k : Int) : Ask (takenIn k) := by
  refine ⟨fun s hs h0 => ?_, fun s x => rfl⟩
  unfold takenIn at hs
  rw [h0] at hs
  simp at hs

/-- No class of a flight is sold above its limit. -/
def FitL (p : Pla) (l : List Sea) : Prop := ∀ k : Nat, k < 4 → ((l.countP (takenIn (k : Int)) : Nat) : Int) ≤ p.lim k

theorem fit_empty {p : Pla} (h : p.limited = true) (q : Pla) (hq : ∀ k, q.lim k = p.lim k) : FitL q (emptySeats p) := by
  intro k hk
  rw [count_empty (ask_from k), hq]
  simp only [Pla.limited, decide_eq_true_eq] at h
  have : k = 0 ∨ k = 1 ∨ k = 2 ∨ k = 3 := by omega
  rcases this with rfl | rfl | rfl | rfl <;> simp [Pla.lim] <;> omega

theorem fit_swap {p q : Pla} {l : List Sea} (hf : FitL p l) (hwf : Wf p l) (h1 : q.sized = true) (h2 : (swapPla p q).limited = true) (hn : ¬ q.rows * q.cols < (nFull l : Int)) : FitL (swapPla p q) (swapSeats (swapPla p q) l) := by
  intro k hk
  rw [swap_count (q := swapPla p q) (ask_from k) hwf h1 h2 hn]
  exact hf k hk

theorem fit_tick {p : Pla} {l : List Sea} (hf : FitL p l) (now : Int) : FitL (tickP now p l) (tickSeats now l) := by
  intro k hk
  have h1 : (tickP now p l).lim k = p.lim k := by unfold tickP; split <;> rfl
  rw [h1]
  have h2 : (tickSeats now l).countP (takenIn k) ≤ l.countP (takenIn k) := by
    unfold tickSeats
    rw [List.countP_map]
    refine List.countP_mono_left fun s _ hs => ?_
    simp only [Function.comp] at hs
    split at hs
    · rw [(ask_from k).free rfl] at hs
      exact absurd hs (by simp)
    · exact hs
  have := hf k hk
  omega

theorem fit_le {p q : Pla} {l : List Sea} (hf : FitL p l) (hq : ∀ k, q.lim k = p.lim k) {j : Nat} (hj : j < l.length) (s : Sea) (hs : ∀ k : Nat, k < 4 → takenIn k s = true → takenIn k l[j] = true ∨ (l.countP (takenIn k) : Int) < p.lim k) : FitL q (l.set j s) := by
  intro k hk
  have h1 := count_put (takenIn k) l j hj s
  have h2 := hf k hk
  have h3 := hs k hk
  rw [hq]
  unfold sold1 at h1
  cases ha : takenIn k s with
  | false =>
    rw [ha] at h1
    simp at h1
    split at h1 <;> omega
  | true =>
    rw [ha, if_pos rfl] at h1
    rcases h3 ha with h4 | h4
    · rw [if_pos h4] at h1
      omega
    · split at h1 <;> omega
end Go.Proofs.Ythhibagcpjeihaa
/- No class is sold above its limit: no command does so. -/
namespace Go.Proofs.Ythhibagcpjeihaa
open Go.RowKit
open M
set_option linter.unusedVariables false
set_option linter.unusedSimpArgs false
set_option maxRecDepth 100000
set_option maxHeartbeats 2000000

theorem least_lt (p : Pla) (l : List Sea) : ∀ c k : Nat, k ≤ c → 0 < leastTo p l c → ((l.countP (takenIn (k : Int)) : Nat) : Int) < p.lim k
  | 0, k, hk, h => by
    obtain rfl : k = 0 := by omega
    have h' : 0 < min (nFree l : Int) (p.lim 0 - nFrom 0 l) := h
    have : (nFrom 0 l : Int) < p.lim 0 := by omega
    exact this
  | c + 1, k, hk, h => by
    have h' : 0 < min (leastTo p l c) (p.lim (c + 1) - nFrom ((c : Int) + 1) l) := h
    by_cases e : k = c + 1
    · subst e
      have : (nFrom ((c : Int) + 1) l : Int) < p.lim (c + 1) := by omega
      exact this
    · exact least_lt p l c k (by omega) (by omega)

theorem sale_fit {p : Pla} {l : List Sea} {st cls : Int} (h : saleN st (M.leftOf p l cls.toNat) = 0) (hc : 0 ≤ cls) (k : Nat) (hk : (k : Int) ≤ cls) : ((l.countP (takenIn (k : Int)) : Nat) : Int) < p.lim k := by
  unfold saleN at h
  by_cases h0 : st ≠ 0
  · rw [if_pos h0] at h; omega
  rw [if_neg h0] at h
  by_cases h1 : M.leftOf p l cls.toNat = 0
  · rw [if_pos h1] at h; omega
  unfold M.leftOf at h1
  exact least_lt p l cls.toNat k (by omega) (by omega)

theorem not_taken_freed (k : Int) (s : Sea) : takenIn k s.freed = false := (ask_from k).free rfl

theorem seat_fit {p : Pla} {l : List Sea} (hf : FitL p l) (hwf : Wf p l) (c : Cmd) (now : Int) (hk : 2 ≤ c.kind ∧ c.kind ≤ 9) (h : seatErr p l c now = 0) : FitL (planNew p c) (seatNew p l c) := by
  unfold seatErr at h
  unfold planNew seatNew
  by_cases k9 : c.kind = 9
  · rw [if_pos k9] at h ⊢
    rw [if_pos k9]
    by_cases hq : c.pla.sized = true ∧ ¬ (c.pla.rows * c.pla.cols < (nFull l : Int))
    · exact fit_swap hf hwf hq.1 hwf.limited hq.2
    · rw [if_neg hq] at h; omega
  rw [if_neg k9] at h ⊢
  rw [if_neg k9]
  by_cases hh : p.has c.ar c.ac = false ∨ (c.kind = 5 ∧ p.has c.tr c.tc = false)
  · rw [if_pos hh] at h; omega
  rw [if_neg hh] at h
  have ha : p.has c.ar c.ac = true := by
    cases e : p.has c.ar c.ac with
    | true => rfl
    | false => exact absurd (Or.inl e) hh
  obtain ⟨hj, hs, _, _⟩ := seatAt_eq hwf ha
  by_cases k2 : c.kind = 2
  · rw [if_pos k2] at h ⊢
    by_cases hb : buyer c ≠ 0
    · rw [if_pos hb] at h; exact absurd h hb
    rw [if_neg hb] at h
    by_cases ht : c.time ≤ now ∨ c.time > now + 100
    · rw [if_pos ht] at h; omega
    rw [if_neg ht] at h
    have hc := buyer_ok (c := c) (by omega)
    refine fit_le hf (fun _ => rfl) hj _ fun k _ ht => .inr (sale_fit h hc.1 k ?_)
    simpa [takenIn] using ht
  rw [if_neg k2] at h ⊢
  by_cases k3 : c.kind = 3
  · rw [if_pos k3] at h ⊢
    by_cases hb : buyer c ≠ 0
    · rw [if_pos hb] at h; exact absurd h hb
    rw [if_neg hb] at h
    have hc := buyer_ok (c := c) (by omega)
    by_cases hm : (seatAt p l c.ar c.ac).st = 1 ∧ (seatAt p l c.ar c.ac).pa = c.party ∧ (seatAt p l c.ar c.ac).cl = c.cls
    · refine fit_le hf (fun _ => rfl) hj _ fun k _ ht => .inl ?_
      rw [← hs]
      have : (k : Int) ≤ c.cls := by simpa [takenIn] using ht
      simp [takenIn, hm.1, hm.2.2, this]
    · rw [if_neg hm] at h
      refine fit_le hf (fun _ => rfl) hj _ fun k _ ht => .inr (sale_fit h hc.1 k ?_)
      simpa [takenIn] using ht
  rw [if_neg k3] at h ⊢
  have hfree : ∀ s : Sea, FitL p (l.set (p.idx c.ar c.ac) s.freed) := fun s => fit_le hf (fun _ => rfl) hj _ fun k _ ht => by
    rw [not_taken_freed] at ht
    exact absurd ht (by simp)
  have hfree' : ∀ s : Sea, FitL p.next (l.set (p.idx c.ar c.ac) s.freed) := fun s => hfree s
  by_cases k5 : c.kind = 5
  · rw [if_pos k5]
    have hb : p.has c.tr c.tc = true := by
      cases e : p.has c.tr c.tc with
      | true => rfl
      | false => exact absurd (Or.inr ⟨k5, e⟩) hh
    have hi : p.idx c.tr c.tc < (l.set (p.idx c.ar c.ac) (seatAt p l c.ar c.ac).freed).length := by rw [List.length_set]; exact Fli.wf.idx_lt hwf hb
    refine fit_le (hfree _) (fun _ => rfl) hi _ fun k hk4 ht => .inr ?_
    have ht' : takenIn k (seatAt p l c.ar c.ac) = true := ht
    have h1 := count_put (takenIn k) l _ hj (seatAt p l c.ar c.ac).freed
    have h2 := hf k hk4
    unfold sold1 at h1
    rw [← hs, ht', if_pos rfl, not_taken_freed] at h1
    simp at h1
    omega
  rw [if_neg k5]
  by_cases k6 : c.kind = 6
  · rw [if_pos k6]
    refine fit_le hf (fun _ => rfl) hj _ fun k _ ht => ?_
    simp [takenIn] at ht
  rw [if_neg k6]
  exact hfree' _

theorem seat_lims (p : Pla) (c : Cmd) (k : Nat) : (planNew p c).lim k = p.lim k := by
  unfold planNew
  split <;> (unfold Pla.lim; cases k with | zero => rfl | succ k => cases k with | zero => rfl | succ k => cases k <;> rfl)

/-- All flights are within their limits. -/
def FitK (fl : Nat → Option (Pla × List Sea)) : Prop := ∀ n, n < 21 → ∀ p l, fl n = some (p, l) → Wf p l ∧ FitL p l

theorem doK_fit {fl : Nat → Option (Pla × List Sea)} (now : Int) (c : Cmd) (hF : FitK fl) (n : Nat) (hn : n < 21) (p : Pla) (l : List Sea) (h : (doK now fl c).2.2 n = some (p, l)) : FitL p l := by
  unfold doK at h
  by_cases k0 : c.kind < 1 ∨ c.kind > 9
  · rw [if_pos k0] at h; exact (hF n hn p l h).2
  rw [if_neg k0] at h
  by_cases k8 : c.kind = 8
  · rw [if_pos k8] at h
    by_cases ht : 1 ≤ c.time ∧ c.time ≤ 100
    · rw [if_pos ht] at h
      simp only [Option.map_eq_some_iff] at h
      obtain ⟨⟨p', l'⟩, h1, h2⟩ := h
      have h3 := (hF n hn p' l' h1).2
      unfold tickF at h2
      injection h2 with e1 e2
      subst e1 e2
      exact fit_tick h3 _
    · rw [if_neg ht] at h; exact (hF n hn p l h).2
  rw [if_neg k8] at h
  by_cases hfl : ¬ (1 ≤ c.flight ∧ c.flight ≤ 20)
  · rw [if_pos hfl] at h; exact (hF n hn p l h).2
  rw [if_neg hfl] at h
  cases hc : fl c.flight.toNat with
  | none =>
    rw [hc] at h
    simp only at h
    by_cases k1 : c.kind = 1
    · rw [if_pos k1] at h
      by_cases hp : c.pla.sized = true ∧ c.pla.limited = true
      · rw [if_pos hp] at h
        simp only at h
        by_cases e : n = c.flight.toNat
        · rw [if_pos e] at h
          injection h with h
          injection h with e1 e2
          subst e1 e2
          exact fit_empty hp.2 _ (fun k => by cases k with | zero => rfl | succ k => cases k with | zero => rfl | succ k => cases k <;> rfl)
        · rw [if_neg e] at h; exact (hF n hn p l h).2
      · rw [if_neg hp] at h; exact (hF n hn p l h).2
    · rw [if_neg k1] at h; exact (hF n hn p l h).2
  | some x =>
    rw [hc] at h
    simp only at h
    by_cases k1 : c.kind = 1
    · rw [if_pos k1] at h; exact (hF n hn p l h).2
    rw [if_neg k1] at h
    by_cases he : seatErr x.1 x.2 c now = 0
    · rw [if_pos he] at h
      simp only at h
      by_cases e : n = c.flight.toNat
      · rw [if_pos e] at h
        injection h with h
        injection h with e1 e2
        subst e1 e2
        obtain ⟨h1, h2⟩ := hF _ (by omega) x.1 x.2 hc
        exact seat_fit h2 h1 c now (by omega) he
      · rw [if_neg e] at h; exact (hF n hn p l h).2
    · rw [if_neg he] at h; exact (hF n hn p l h).2
end Go.Proofs.Ythhibagcpjeihaa
/- A command is done, and the limits are kept in mind: which. -/
namespace Go.Proofs.Ythhibagcpjeihaa
open Go.RowKit
open Go.ChangeMaps (setBlock)
open M
set_option linter.unusedVariables false
set_option linter.unusedSimpArgs false
set_option maxRecDepth 100000
set_option maxHeartbeats 2000000

/-- The limits kept in mind are those of the flights. -/
def LimR (cs : Array Value) (fl : Nat → Option (Pla × List Sea)) : Prop := ∀ n, n < 21 → ∀ p l, fl n = some (p, l) → ∀ k, k < 4 → cs[n * 4 + k]? = some (.int .i64 (p.lim k))

def set4 (cs : Array Value) (n : Nat) (p : Pla) : Array Value := (((cs.setIfInBounds (n * 4) (.int .i64 p.l0)).setIfInBounds (n * 4 + 1) (.int .i64 p.l1)).setIfInBounds (n * 4 + 2) (.int .i64 p.l2)).setIfInBounds (n * 4 + 3) (.int .i64 p.l3)

theorem lim_at (p : Pla) (e : Int) (k : Nat) : (p.at e).lim k = p.lim k := by
  cases k with | zero => rfl | succ k => cases k with | zero => rfl | succ k => cases k <;> rfl

theorem lim_tick (now : Int) (p : Pla) (l : List Sea) (k : Nat) : (tickP now p l).lim k = p.lim k := by
  unfold tickP
  split
  · cases k with | zero => rfl | succ k => cases k with | zero => rfl | succ k => cases k <;> rfl
  · rfl

/-- No flight's limits turn but by the flight's beginning. -/
theorem doK_lim0 {fl : Nat → Option (Pla × List Sea)} (now : Int) (c : Cmd) (cs : Array Value) (hne : ¬ ((doK now fl c).1 = 0 ∧ c.kind = 1)) (h : LimR cs fl) : LimR cs (doK now fl c).2.2 := by
  intro n hn p l hp k hk
  unfold doK at hp hne
  by_cases k0 : c.kind < 1 ∨ c.kind > 9
  · rw [if_pos k0] at hp; exact h n hn p l hp k hk
  rw [if_neg k0] at hp hne
  by_cases k8 : c.kind = 8
  · rw [if_pos k8] at hp
    by_cases ht : 1 ≤ c.time ∧ c.time ≤ 100
    · rw [if_pos ht] at hp
      simp only [Option.map_eq_some_iff] at hp
      obtain ⟨⟨p', l'⟩, h1, h2⟩ := hp
      have h3 := h n hn p' l' h1 k hk
      unfold tickF at h2
      injection h2 with e1 e2
      subst e1 e2
      rw [lim_tick]
      exact h3
    · rw [if_neg ht] at hp; exact h n hn p l hp k hk
  rw [if_neg k8] at hp hne
  by_cases hfl : ¬ (1 ≤ c.flight ∧ c.flight ≤ 20)
  · rw [if_pos hfl] at hp; exact h n hn p l hp k hk
  rw [if_neg hfl] at hp hne
  cases hc : fl c.flight.toNat with
  | none =>
    rw [hc] at hp hne
    simp only at hp hne
    by_cases k1 : c.kind = 1
    · rw [if_pos k1] at hp hne
      by_cases hq : c.pla.sized = true ∧ c.pla.limited = true
      · rw [if_pos hq] at hne
        exact absurd ⟨rfl, k1⟩ hne
      · rw [if_neg hq] at hp; exact h n hn p l hp k hk
    · rw [if_neg k1] at hp; exact h n hn p l hp k hk
  | some x =>
    rw [hc] at hp
    simp only at hp
    by_cases k1 : c.kind = 1
    · rw [if_pos k1] at hp; exact h n hn p l hp k hk
    rw [if_neg k1] at hp
    by_cases he : seatErr x.1 x.2 c now = 0
    · rw [if_pos he] at hp
      simp only at hp
      by_cases e : n = c.flight.toNat
      · rw [if_pos e] at hp
        injection hp with hp
        injection hp with e1 e2
        subst e1 e2
        rw [seat_lims, e]
        exact h _ (by omega) x.1 x.2 hc k hk
      · rw [if_neg e] at hp; exact h n hn p l hp k hk
    · rw [if_neg he] at hp; exact h n hn p l hp k hk

theorem set4_at (cs : Array Value) (hs : cs.size = 84) (n : Nat) (hn : n < 21) (p : Pla) (k : Nat) (hk : k < 4) : (set4 cs n p)[n * 4 + k]? = some (.int .i64 (p.lim k)) := by
  unfold set4
  have : k = 0 ∨ k = 1 ∨ k = 2 ∨ k = 3 := by omega
  rcases this with rfl | rfl | rfl | rfl <;> simp [Array.getElem?_setIfInBounds, Pla.lim, hs] <;> omega

theorem set4_ne (cs : Array Value) (n m : Nat) (p : Pla) (k : Nat) (hk : k < 4) (h : m ≠ n) : (set4 cs n p)[m * 4 + k]? = cs[m * 4 + k]? := by
  unfold set4
  rw [Array.getElem?_setIfInBounds_ne (by omega), Array.getElem?_setIfInBounds_ne (by omega), Array.getElem?_setIfInBounds_ne (by omega), Array.getElem?_setIfInBounds_ne (by omega)]

theorem doK_lim1 {fl : Nat → Option (Pla × List Sea)} (now : Int) (c : Cmd) (cs : Array Value) (hs : cs.size = 84) (h0 : (doK now fl c).1 = 0) (k1 : c.kind = 1) (h : LimR cs fl) : LimR (set4 cs c.flight.toNat c.pla) (doK now fl c).2.2 := by
  intro n hn p l hp k hk
  unfold doK at hp h0
  rw [if_neg (by omega), if_neg (by omega)] at hp h0
  by_cases hfl : ¬ (1 ≤ c.flight ∧ c.flight ≤ 20)
  · rw [if_pos hfl] at h0; exact absurd h0 (by simp)
  rw [if_neg hfl] at hp h0
  cases hc : fl c.flight.toNat with
  | none =>
    rw [hc] at hp h0
    simp only [if_pos k1] at hp h0
    by_cases hq : c.pla.sized = true ∧ c.pla.limited = true
    · rw [if_pos hq] at hp
      simp only at hp
      by_cases e : n = c.flight.toNat
      · rw [if_pos e] at hp
        injection hp with hp
        injection hp with e1 e2
        subst e1 e2
        rw [lim_at, e]
        exact set4_at cs hs _ (by omega) c.pla k hk
      · rw [if_neg e] at hp
        rw [set4_ne cs _ n c.pla k hk e]
        exact h n hn p l hp k hk
    · rw [if_neg hq] at h0; exact absurd h0 (by simp)
  | some x =>
    rw [hc] at h0
    simp only [if_pos k1] at h0
    exact absurd h0 (by simp)

structure DoesL (w w' : World) (ow : Nat → Nat) (kb lb : Nat) (cs0 : Array Value) (fl0 : Nat → Option (Pla × List Sea)) (now : Int) (fl : Nat → Option (Pla × List Sea)) (m : Nat) : Prop where
  keep : ∃ ow', KeepM w' ow' kb now fl m ∧ ∀ k, k < w.heap.size → ow' k = ow k
  lim : ∃ cs, cs.size = 84 ∧ Has w' lb cs 104 ∧ (LimR cs0 fl0 → LimR cs fl)
  mod : Mod (fun k => ow k ≠ 0 ∨ k = lb) w w'

theorem doesL_any {w : World} {ow : Nat → Nat} {kb lb : Nat} {now : Int} {fl : Nat → Option (Pla × List Sea)} {m : Nat} (h : KeepM w ow kb now fl (m + 1)) (hn : 0 ≤ now ∧ now ≤ 4611686018427387000) (c : Cmd) (cs : Array Value) (hs : cs.size = 84) (hb : Has w lb cs 104) (hol : ow lb = 0) :
    Calls Try.prog 18 #[.pointer (some ⟨kb, 0, none⟩), .agg (cmdCells c), .pointer (some ⟨lb, 0, none⟩)] w fun e w' =>
      e = .returned (.int .i64 (doK now fl c).1) ∧ DoesL w w' ow kb lb cs fl (doK now fl c).2.1 (doK now fl c).2.2 m := by
  have hlb := hb.lt
  have HD := hide (do_m (h.mod ((Mod.refl No w).alloc (.cells (cmdCells c) 37)) (fun _ _ x => x)) hn c)
  have HB := hide (hb.alloc (.cells (cmdCells c) 37))
  have HC := hide (Has.new w (cmdCells c) 37)
  have M0 := hide ((Mod.refl No w).alloc (.cells (cmdCells c) 37))
  have HO := hide (show ow w.heap.size = 0 from by
    by_cases e : ow w.heap.size = 0
    · exact e
    · have := h.old _ e; omega)
  have HA := hide fun (q : (doK now fl c).1 = 0) (r : c.kind = 1) => doK_add q r
  have HL0 := hide (doK_lim0 (fl := fl) now c cs)
  have HL1 := hide (doK_lim1 (fl := fl) now c cs hs)
  generalize doK now fl c = D at *
  obtain ⟨r, now', fl'⟩ := D
  simp only at *
  clear h hb
  unfold cmdCells at *
  go_enter Try.func18, Try.ntmps18
  go_wp2_with fail
  refine (unhide HD).mono ?_
  rintro e w2 ⟨rfl, ⟨ow', k2, ho⟩, m2⟩
  have b2 := m2.has (unhide HB) (by simp [hol])
  have c2 := m2.has (unhide HC) (by simp [unhide HO])
  have cc := c2.cell
  have M2 := hide (((unhide M0).mono (S' := fun k => ow k ≠ 0) (fun _ _ x => x.elim)).trans m2)
  have K2 := hide k2
  have HO2 := hide (fun k hk => ho k hk)
  have B2 := hide b2
  have lc2 := c2.lt
  have lb2 := b2.lt
  clear k2 ho m2 b2 c2 HD HB HC M0
  have R0 : ¬ (r = 0 ∧ c.kind = 1) → DoesL w w2 ow kb lb cs fl now' fl' m := fun hne => ⟨⟨ow', unhide K2, fun k hk => (unhide HO2) k (by simp; omega)⟩, ⟨cs, hs, unhide B2, (unhide HL0) hne⟩, (unhide M2).mono (fun _ _ x => .inl x)⟩
  have R0 := hide R0
  by_cases h0 : r = 0
  case neg =>
    have RZ := hide ((unhide R0) (fun x => h0 x.1))
    clear K2 HO2 B2 M2 HA HL0 HL1 R0
    have e0 : (r == 0) = false := by simp [h0]
    go_wp2
    go_ret
    exact ⟨rfl, unhide RZ⟩
  by_cases h1 : c.kind = 1
  case neg =>
    have RZ := hide ((unhide R0) (fun x => h1 x.2))
    clear K2 HO2 B2 M2 HA HL0 HL1 R0
    have e1 : (c.kind == 1) = false := by simp [h1]
    subst h0
    go_wp2
    go_ret
    exact ⟨rfl, unhide RZ⟩
  obtain ⟨f1, f2⟩ := (unhide HA) h0 h1
  obtain ⟨n, hfn⟩ : ∃ n : Nat, c.flight = (n : Int) := ⟨c.flight.toNat, by omega⟩
  subst h0
  have e1 : (c.kind == 1) = true := by simp [h1]
  rw [hfn] at cc f1 f2
  have i21 : (n : Int) < 21 := by omega
  have i0 : (0 : Int) ≤ n := by omega
  have fz := (unhide B2).frozen
  obtain ⟨v0, g0⟩ : ∃ v, w2.cell? ⟨lb, n * 4, none⟩ = some v := ⟨_, by rw [(unhide B2).cell, Array.getElem?_eq_getElem (by omega)]⟩
  obtain ⟨v1, g1⟩ : ∃ v, w2.cell? ⟨lb, n * 4 + 1, none⟩ = some v := ⟨_, by rw [(unhide B2).cell, Array.getElem?_eq_getElem (by omega)]⟩
  obtain ⟨v2, g2⟩ : ∃ v, w2.cell? ⟨lb, n * 4 + 2, none⟩ = some v := ⟨_, by rw [(unhide B2).cell, Array.getElem?_eq_getElem (by omega)]⟩
  obtain ⟨v3, g3⟩ : ∃ v, w2.cell? ⟨lb, n * 4 + 3, none⟩ = some v := ⟨_, by rw [(unhide B2).cell, Array.getElem?_eq_getElem (by omega)]⟩
  have hp : ∀ o, (fun k => ow k ≠ 0 ∨ k = lb) (⟨lb, o, none⟩ : Addr).block ∨ w.heap.size ≤ (⟨lb, o, none⟩ : Addr).block := fun o => .inl (.inr rfl)
  have hq : ∀ o, (fun k => k = lb) (⟨lb, o, none⟩ : Addr).block ∨ w2.heap.size ≤ (⟨lb, o, none⟩ : Addr).block := fun o => .inl rfl
  have ol : ow' lb = 0 := by rw [(unhide HO2) lb (by simp; omega)]; exact hol
  have R1 := hide (show DoesL w ((((w2.setCell ⟨lb, n * 4, none⟩ (.int .i64 c.pla.l0)).setCell ⟨lb, n * 4 + 1, none⟩ (.int .i64 c.pla.l1)).setCell ⟨lb, n * 4 + 2, none⟩ (.int .i64 c.pla.l2)).setCell ⟨lb, n * 4 + 3, none⟩ (.int .i64 c.pla.l3)).drew ow kb lb cs fl now' fl' m from
    ⟨⟨ow', (unhide K2).mod (((((Mod.refl (fun k => k = lb) w2).setCell (hq _) _).setCell (hq _) _).setCell (hq _) _).setCell (hq _) _).drew (fun k hk e => by subst e; exact hk ol), fun k hk => (unhide HO2) k (by simp; omega)⟩,
     ⟨set4 cs n c.pla, by unfold set4; simpa using hs, ((((((unhide B2).set (n * 4) _).set (n * 4 + 1) _).set (n * 4 + 2) _).set (n * 4 + 3) _)).drew, fun hl => by
       have := (unhide HL1) rfl h1 hl
       rw [show c.flight.toNat = n by omega] at this
       exact this⟩,
     (((((((unhide M2).mono (fun _ _ x => .inl x)).setCell (hp _) _).setCell (hp _) _).setCell (hp _) _).setCell (hp _) _)).drew⟩)
  clear K2 HO2 B2 M2 HA R0 HL0 HL1
  go_wp2_with fail
  go_region
  all_goals go_wp2
  all_goals go_ret
  all_goals exact ⟨rfl, unhide R1⟩
end Go.Proofs.Ythhibagcpjeihaa
/- A seat is sold and given back: the plain model. -/
namespace Go.Proofs.Ythhibagcpjeihaa
open Go.RowKit
open M
set_option linter.unusedVariables false
set_option linter.unusedSimpArgs false

def backC (kind r cc cls party now : Int) : Cmd := ⟨kind, 1, r, cc, 0, 0, party, cls, now + 5, ⟨0, 0, 0, 0, 0, 0, 0, 0⟩⟩

theorem doK_seat {fl : Nat → Option (Pla × List Sea)} {p : Pla} {l : List Sea} (hf : fl 1 = some (p, l)) (now : Int) (kind r cc cls party : Int) (hk : kind = 2 ∨ kind = 3 ∨ kind = 4) :
    doK now fl (backC kind r cc cls party now) = if seatErr p l (backC kind r cc cls party now) now = 0 then (0, now, fun j => if j = 1 then some (p.next, seatNew p l (backC kind r cc cls party now)) else fl j) else (seatErr p l (backC kind r cc cls party now) now, now, fl) := by
  have k : (backC kind r cc cls party now).kind = kind := rfl
  unfold doK
  rw [if_neg (by rw [k]; omega), if_neg (by rw [k]; omega), if_neg (by simp [backC])]
  rw [show (backC kind r cc cls party now).flight.toNat = 1 from rfl, hf]
  simp only
  rw [if_neg (by rw [k]; omega)]
  have hp : planNew p (backC kind r cc cls party now) = p.next := by unfold planNew; rw [if_neg (by rw [k]; omega)]
  rw [hp]

theorem limB_at (p : Pla) (e : Int) (j : Nat) : (p.at e).lim j = p.lim j := by
  match j with
  | 0 => rfl
  | 1 => rfl
  | 2 => rfl
  | _ + 3 => rfl
theorem leastTo_at (p : Pla) (e : Int) (l : List Sea) : ∀ c, leastTo (p.at e) l c = leastTo p l c
  | 0 => rfl
  | c + 1 => by
    unfold leastTo
    rw [leastTo_at p e l c, limB_at]
theorem leftOf_at (p : Pla) (e : Int) (l : List Sea) (c : Nat) : M.leftOf (p.at e) l c = M.leftOf p l c := by
  unfold M.leftOf
  rw [leastTo_at]
theorem leftOf_next (p : Pla) (l : List Sea) (c : Nat) : M.leftOf p.next l c = M.leftOf p l c := leftOf_at p _ l c

theorem seatErr_next (p : Pla) (l : List Sea) (c : Cmd) (now : Int) : seatErr p.next l c now = seatErr p l c now := by
  unfold seatErr
  rw [leftOf_next]
  rfl

/-- What the sale and the giving back come to. -/
structure BackOk (now : Int) (fl : Nat → Option (Pla × List Sea)) (p : Pla) (l : List Sea) (book : Bool) (kind r cc party : Int) (k : Nat) : Prop where
  now1 : (doK now fl (backC kind r cc k party now)).2.1 = now
  no : (doK now fl (backC kind r cc k party now)).1 ≠ 0 → (doK now fl (backC kind r cc k party now)).2.2 = fl ∧ (doK now fl (backC kind r cc k party now)).1 ≠ 15 ∧ (doK now fl (backC kind r cc k party now)).1 ≠ 16 ∧
    ((doK now fl (backC kind r cc k party now)).1 = 11 → M.leftOf p l k = 0)
  yes : (doK now fl (backC kind r cc k party now)).1 = 0 → ∃ l' l'', (doK now fl (backC kind r cc k party now)).2.2 1 = some (p.next, l') ∧
    (doK now (doK now fl (backC kind r cc k party now)).2.2 (backC 4 r cc k party now)).1 = 0 ∧
    (doK now (doK now fl (backC kind r cc k party now)).2.2 (backC 4 r cc k party now)).2.1 = now ∧
    (doK now (doK now fl (backC kind r cc k party now)).2.2 (backC 4 r cc k party now)).2.2 1 = some (p.next.next, l'') ∧
    (book = false → cS l' k = cS l k + 1 ∧ l'' = l) ∧ cA p l' 0 + cB p l' 0 + 1 = cA p l'' 0 + cB p l'' 0 ∧ cS l'' k = cS l' k - 1

theorem BackOk.plane {now : Int} {fl : Nat → Option (Pla × List Sea)} {p : Pla} {l : List Sea} {book : Bool} {kind r cc party : Int} {k : Nat} (h : BackOk now fl p l book kind r cc party k) (hf : fl 1 = some (p, l)) :
    ∃ e l', (doK now fl (backC kind r cc k party now)).2.2 1 = some (p.at e, l') := by
  by_cases h0 : (doK now fl (backC kind r cc k party now)).1 = 0
  · obtain ⟨l', _, y1, _⟩ := h.yes h0
    exact ⟨_, l', y1⟩
  · rw [(h.no h0).1]
    exact ⟨p.ep, l, hf⟩

theorem freeAll (p : Pla) (l : List Sea) : cA p l 0 + cB p l 0 = (nFree l : Int) := by
  have := nFree_split p l
  unfold cA cB
  rw [show ((0 : Nat) : Int) = 0 from rfl]
  omega

theorem sold_back {p : Pla} {l : List Sea} (hwf : Wf p l) (r cc party u st : Int) (k : Nat) (hst : st = 1 ∨ st = 2) (hh : p.has r cc = true) :
    ∃ l' l'', l' = l.set (p.idx r cc) ⟨r, cc, st, party, k, u⟩ ∧ seatAt p l' r cc = ⟨r, cc, st, party, k, u⟩ ∧ l'' = l'.set (p.idx r cc) (seatAt p l' r cc).freed ∧
      ((seatAt p l r cc).st = 0 → cS l' k = cS l k + 1 ∧ l'' = l) ∧ cA p l' 0 + cB p l' 0 + 1 = cA p l'' 0 + cB p l'' 0 ∧ cS l'' k = cS l' k - 1 := by
  obtain ⟨hi, he, her, hec⟩ := seatAt_eq hwf hh
  have h1 : p.idx r cc < (l.set (p.idx r cc) ⟨r, cc, st, party, k, u⟩).length := by simpa using hi
  have hs : seatAt p (l.set (p.idx r cc) ⟨r, cc, st, party, k, u⟩) r cc = ⟨r, cc, st, party, k, u⟩ := by
    unfold seatAt
    rw [List.getD_eq_getElem?_getD, List.getElem?_eq_getElem h1]
    simp
  refine ⟨_, _, rfl, hs, rfl, ?_, ?_, ?_⟩
  · intro h0
    have h0' : l[p.idx r cc].st = 0 := by rw [← he]; exact h0
    constructor
    · unfold cS nSold
      rw [countP_set _ l _ hi]
      have e1 : (l[p.idx r cc].sold && l[p.idx r cc].cl == ((k : Nat) : Int)) = false := by simp [Sea.sold, h0']
      have e2 : ((⟨r, cc, st, party, k, u⟩ : Sea).sold && (⟨r, cc, st, party, k, u⟩ : Sea).cl == ((k : Nat) : Int)) = true := by rcases hst with rfl | rfl <;> simp [Sea.sold]
      rw [e1, e2]
      simp
    · rw [hs, List.set_set]
      have hw := hwf.seat _ (List.getElem_mem hi)
      obtain ⟨b1, b2, b3⟩ := hw.bare (.inl h0')
      have e : (⟨r, cc, st, party, k, u⟩ : Sea).freed = l[p.idx r cc] := by
        unfold Sea.freed
        cases hx : l[p.idx r cc] with
        | mk a b c d e f =>
          simp only [hx] at her hec h0' b1 b2 b3
          subst her hec h0' b1 b2 b3
          rfl
      rw [e, List.set_getElem_self]
  · rw [freeAll, freeAll]
    unfold nFree
    rw [countP_set _ _ _ h1, hs]
    have e1 : ((l.set (p.idx r cc) ⟨r, cc, st, party, k, u⟩)[p.idx r cc].st == 0) = false := by rcases hst with rfl | rfl <;> simp
    have e2 : ((⟨r, cc, st, party, k, u⟩ : Sea).freed.st == 0) = true := by simp [Sea.freed]
    rw [e1, e2]
    simp
  · unfold cS nSold
    rw [countP_set _ _ _ h1, hs]
    have e1 : ((l.set (p.idx r cc) ⟨r, cc, st, party, k, u⟩)[p.idx r cc].sold && (l.set (p.idx r cc) ⟨r, cc, st, party, k, u⟩)[p.idx r cc].cl == ((k : Nat) : Int)) = true := by rcases hst with rfl | rfl <;> simp [Sea.sold]
    have e2 : ((⟨r, cc, st, party, k, u⟩ : Sea).freed.sold && (⟨r, cc, st, party, k, u⟩ : Sea).freed.cl == ((k : Nat) : Int)) = false := by simp [Sea.freed, Sea.sold]
    rw [e1, e2]
    simp

theorem back_model {fl : Nat → Option (Pla × List Sea)} {p : Pla} {l : List Sea} (hf : fl 1 = some (p, l)) (hwf : Wf p l) (now : Int) (book : Bool) (kind r cc party : Int) (k : Nat)
    (hkind : kind = if book then 3 else 2) (hk : k < 4) (hp : 1 ≤ party ∧ party ≤ 1000) : BackOk now fl p l book kind r cc party k := by
  have hk3 : kind = 2 ∨ kind = 3 ∨ kind = 4 := by cases book <;> simp at hkind <;> omega
  have hd := doK_seat hf now kind r cc k party hk3
  by_cases hh : p.has r cc = true
  case neg =>
    have hx : p.has r cc = false := by simpa using hh
    have he : seatErr p l (backC kind r cc k party now) now = 5 := by
      unfold seatErr
      rw [if_neg (by show ¬ kind = 9; omega), if_pos (.inl hx)]
    rw [he, if_neg (by omega)] at hd
    exact ⟨by rw [hd], fun _ => ⟨by rw [hd], by rw [hd]; simp, by rw [hd]; simp, fun h => by rw [hd] at h; simp at h⟩, fun h => by rw [hd] at h; simp at h⟩
  have hb : buyer (backC kind r cc k party now) = 0 := by
    unfold buyer backC
    rw [if_neg (by simp only; omega), if_neg (by simp only; omega)]
  have hh1 : ¬ (p.has (backC kind r cc k party now).ar (backC kind r cc k party now).ac = false ∨ ((backC kind r cc k party now).kind = 5 ∧ p.has (backC kind r cc k party now).tr (backC kind r cc k party now).tc = false)) := by
    rintro (h | ⟨h, _⟩)
    · have h : p.has r cc = false := h
      rw [hh] at h; cases h
    · have : kind = 5 := h
      omega
  -- the error of the sale
  have he : seatErr p l (backC kind r cc k party now) now = if book = true ∧ (seatAt p l r cc).st = 1 ∧ (seatAt p l r cc).pa = party ∧ (seatAt p l r cc).cl = k then 0 else saleN (seatAt p l r cc).st (M.leftOf p l k) := by
    unfold seatErr
    have kk : (backC kind r cc k party now).kind = kind := rfl
    rw [if_neg (by rw [kk]; omega), if_neg hh1]
    cases book with
    | false =>
      simp only [Bool.false_eq_true, if_false] at hkind
      rw [if_pos (by rw [kk]; omega), if_neg (by rw [hb]; simp), if_neg (by show ¬ (now + 5 ≤ now ∨ now + 5 > now + 100); omega), if_neg (by simp)]
      rfl
    | true =>
      simp only [if_true] at hkind
      rw [if_neg (by rw [kk]; omega), if_pos (by rw [kk]; omega), if_neg (by rw [hb]; simp)]
      simp only [true_and]
      rfl
  have hno : ∀ x, seatErr p l (backC kind r cc k party now) now = x → x ≠ 15 ∧ x ≠ 16 ∧ (x = 11 → M.leftOf p l k = 0) ∧ (x = 0 → (seatAt p l r cc).st = 0 ∨ book = true) := by
    intro x hx
    rw [he] at hx
    subst hx
    by_cases h1 : book = true ∧ (seatAt p l r cc).st = 1 ∧ (seatAt p l r cc).pa = party ∧ (seatAt p l r cc).cl = k
    · rw [if_pos h1]
      exact ⟨by omega, by omega, by omega, fun _ => .inr h1.1⟩
    · rw [if_neg h1]
      unfold saleN
      by_cases h2 : (seatAt p l r cc).st = 0
      · rw [if_neg (by simpa using h2)]
        by_cases h3 : M.leftOf p l k = 0
        · rw [if_pos h3]; exact ⟨by omega, by omega, fun _ => h3, by omega⟩
        · rw [if_neg h3]; exact ⟨by omega, by omega, by omega, fun _ => .inl h2⟩
      · rw [if_pos h2]; exact ⟨by omega, by omega, by omega, by omega⟩
  have hno := hno _ rfl
  generalize hE : seatErr p l (backC kind r cc k party now) now = E at *
  by_cases h0 : E = 0
  case neg =>
    rw [if_neg h0] at hd
    refine ⟨by rw [hd], fun _ => ⟨by rw [hd], by rw [hd]; exact hno.1, by rw [hd]; exact hno.2.1, fun h => hno.2.2.1 (by rw [hd] at h; exact h)⟩, fun h => absurd (by rw [hd] at h; exact h) h0⟩
  rw [if_pos h0] at hd
  refine ⟨by rw [hd], fun h => absurd (by rw [hd]) h, fun _ => ?_⟩
  rw [hd]
  simp only
  obtain ⟨st, u, hst, hnew⟩ : ∃ st u : Int, (st = 1 ∨ st = 2) ∧ seatNew p l (backC kind r cc k party now) = l.set (p.idx r cc) ⟨r, cc, st, party, k, u⟩ := by
    unfold seatNew
    have kk : (backC kind r cc k party now).kind = kind := rfl
    rcases (show kind = 2 ∨ kind = 3 by cases book <;> simp at hkind <;> omega) with h | h
    · rw [if_neg (by rw [kk]; omega), if_pos (by rw [kk]; exact h)]
      exact ⟨1, now + 5, .inl rfl, rfl⟩
    · rw [if_neg (by rw [kk]; omega), if_neg (by rw [kk]; omega), if_pos (by rw [kk]; exact h)]
      exact ⟨2, 0, .inr rfl, rfl⟩
  obtain ⟨l', l'', e1, e2, e3, e4, e5, e6⟩ := sold_back hwf r cc party u st k hst hh
  rw [hnew, ← e1]
  have hf2 : (fun j => if j = 1 then some (p.next, l') else fl j) 1 = some (p.next, l') := rfl
  have hd2 := doK_seat (fl := fun j => if j = 1 then some (p.next, l') else fl j) hf2 now 4 r cc k party (.inr (.inr rfl))
  have hz : seatErr p l' (backC 4 r cc k party now) now = 0 := by
    unfold seatErr
    rw [if_neg (by simp [backC]), if_neg ?_, if_neg (by simp [backC]), if_neg (by simp [backC]), if_pos (by rfl)]
    · show ownerN (seatAt p l' r cc).st (seatAt p l' r cc).pa party = 0
      rw [e2]
      unfold ownerN
      rw [if_neg (fun h => h hst), if_neg (fun h => h rfl)]
    · rintro (h | ⟨h, _⟩)
      · have : p.has r cc = false := h
        rw [hh] at this; cases this
      · exact absurd h (by simp [backC])
  rw [seatErr_next, if_pos hz] at hd2
  have hn2 : seatNew p.next l' (backC 4 r cc k party now) = l'' := by
    unfold seatNew
    rw [if_neg (by simp [backC]), if_neg (by simp [backC]), if_neg (by simp [backC]), if_neg (by simp [backC]), if_neg (by simp [backC]), e3]
    rfl
  rw [hn2] at hd2
  refine ⟨l', l'', rfl, by rw [hd2], by rw [hd2], by rw [hd2]; rfl, fun hbk => ?_, e5, e6⟩
  rcases hno.2.2.2 h0 with h | h
  · exact e4 h
  · rw [hbk] at h; cases h
end Go.Proofs.Ythhibagcpjeihaa
/- Steps, one behind the other: what stays so. -/
namespace Go.Proofs.Ythhibagcpjeihaa
open Go.RowKit
open M
set_option linter.unusedVariables false
set_option linter.unusedSimpArgs false
set_option maxRecDepth 100000

theorem doK_keeps {now : Int} {fl : Nat → Option (Pla × List Sea)} {p : Pla} {l : List Sea} (h : fl 1 = some (p, l)) (c : Cmd) :
    (∃ p' l', (doK now fl c).2.2 1 = some (p', l')) ∧ now ≤ (doK now fl c).2.1 ∧ (doK now fl c).2.1 ≤ now + 100 := by
  unfold doK
  split
  · exact ⟨⟨p, l, h⟩, by simp, by simp; omega⟩
  split
  · split
    · exact ⟨⟨tickP (now + c.time) p l, tickSeats (now + c.time) l, by simp [h, tickF]⟩, by simp; omega, by simp; omega⟩
    · exact ⟨⟨p, l, h⟩, by simp, by simp; omega⟩
  split
  · exact ⟨⟨p, l, h⟩, by simp, by simp; omega⟩
  rename_i hf
  have hf : 1 ≤ c.flight ∧ c.flight ≤ 20 := by simpa using hf
  cases hfl : fl c.flight.toNat with
  | none =>
    simp only
    have hne : (1 : Nat) ≠ c.flight.toNat := by intro e; rw [← e, h] at hfl; cases hfl
    split
    · split
      · exact ⟨⟨p, l, by simp [hne, h]⟩, by simp, by simp; omega⟩
      · exact ⟨⟨p, l, h⟩, by simp, by simp; omega⟩
    · exact ⟨⟨p, l, h⟩, by simp, by simp; omega⟩
  | some x =>
    simp only
    split
    · exact ⟨⟨p, l, h⟩, by simp, by simp; omega⟩
    · split
      · by_cases e : (1 : Nat) = c.flight.toNat
        · rw [← e, h] at hfl
          cases hfl
          exact ⟨⟨planNew p c, seatNew p l c, by simp [← e]⟩, by simp, by simp; omega⟩
        · exact ⟨⟨p, l, by simp [e, h]⟩, by simp, by simp; omega⟩
      · exact ⟨⟨p, l, h⟩, by simp, by simp; omega⟩

/-- What stays so while steps are done: from the world w on, whose last block is the box of a place. -/
structure BackI (w wr : World) (kb lb : Nat) (i : Nat) : Prop where
  keep : ∃ ow now fl p l, KeepM wr ow kb now fl (lft i) ∧ fl 1 = some (p, l) ∧ 0 ≤ now ∧ now ≤ 100 * (i : Int) ∧ ow lb = 0 ∧ ∀ k, k < w.heap.size → ow k = 0
  lim : ∃ cs : Array Value, cs.size = 84 ∧ Has wr lb cs 104
  mod : Mod No w wr
  lbn : w.heap.size ≤ lb

theorem BackI.step {w wr : World} {kb lb i : Nat} (h : BackI w wr kb lb i) (hi : i ≤ 2000000) (W : World) (hW : Mod No wr W) (c : Cmd) :
    Calls Try.prog 18 #[.pointer (some ⟨kb, 0, none⟩), .agg (cmdCells c), .pointer (some ⟨lb, 0, none⟩)] W fun e w' => (∃ x, e = .returned (.int .i64 x)) ∧ BackI w w' kb lb (i + 1) := by
  obtain ⟨ow, now, fl, p, l, k1, k2, k3, k4, k5, k6⟩ := h.keep
  obtain ⟨cs, s1, s2⟩ := h.lim
  rw [lft_succ (by omega)] at k1
  refine (does_any (k1.mod hW (fun _ _ x => x)) ⟨k3, by omega⟩ c cs s1 (hW.has s2 (fun x => x)) k5).mono ?_
  rintro e w' ⟨rfl, ⟨ow', q1, q2⟩, ⟨cs', t1, t2⟩, hm⟩
  obtain ⟨⟨p', l', e1⟩, e2, e3⟩ := doK_keeps (now := now) k2 c
  have sz : w.heap.size ≤ W.heap.size := Nat.le_trans h.mod.size hW.size
  have slb : lb < W.heap.size := Nat.lt_of_lt_of_le s2.lt hW.size
  refine ⟨⟨_, rfl⟩, ⟨ow', _, _, p', l', q1, e1, by omega, by omega, by rw [q2 lb slb]; exact k5, fun k hk => by rw [q2 k (by omega)]; exact k6 k hk⟩, ⟨cs', t1, t2⟩, ?_, h.lbn⟩
  refine (h.mod.trans hW).trans' hm (fun j hj hl => ?_)
  rcases hj with hj | hj
  · exact hj (k6 j hl)
  · have := h.lbn
    omega

theorem BackI.start {w W w' : World} {ow : Nat → Nat} {kb : Nat} (h : KeepM W ow kb 0 fl0 (lft 0)) (ho : ∀ k, k < w.heap.size → ow k = 0) (hW : Mod No w W) (hm : Mod No W w') (cs : Array Value) (hs : cs.size = 84) (hb : Has w' W.heap.size cs 104) : BackI w w' kb W.heap.size 0 := by
  refine ⟨⟨ow, 0, fl0, _, _, h.mod hm (fun _ _ x => x), rfl, by omega, by simp, ?_, ho⟩, ⟨cs, hs, hb⟩, hW.trans hm, hW.size⟩
  by_cases e : ow W.heap.size = 0
  · exact e
  · have := h.old _ e; omega

/-- A script in memory: each of its steps can be tamed. -/
def Script (w : World) (a : Option Addr) (n : Nat) : Prop :=
  ∀ i, i < n → ∃ b off S, a = some ⟨b, off, none⟩ ∧ S.size = 21 ∧ w.rangeAt b (off + i * 21) S.toList ∧ ∀ W, Calls Try.prog 17 #[.agg S] W fun e w' => ∃ c : Cmd, e = .returned (.agg (cmdCells c)) ∧ Mod No W w'

theorem Mod.cell {w w' : World} (h : Mod No w w') {a : Addr} {v : Value} (hc : w.cell? a = some v) : w'.cell? a = some v := by
  have hl := World.block_lt_of_cell? w a hc
  unfold World.cell? at hc ⊢
  rw [h.block _ hl (fun x => x)]
  exact hc

theorem Mod.range {w w' : World} (h : Mod No w w') {b o : Nat} {l : List Value} (hr : w.rangeAt b o l) : w'.rangeAt b o l := fun j v hv => h.cell (hr j v hv)

theorem Script.mod {w w' : World} {a : Option Addr} {n : Nat} (h : Script w a n) (hm : Mod No w w') : Script w' a n := fun i hi => by
  obtain ⟨b, off, S, h1, h2, h3, h4⟩ := h i hi
  exact ⟨b, off, S, h1, h2, hm.range h3, h4⟩
end Go.Proofs.Ythhibagcpjeihaa
