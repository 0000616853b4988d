import Derived.Test.YthhibagcpjeihaaLOpn3ToKeep8
import Derived.Test.YthhibagcpjeihaaLBaseToAppend
import Derived.Handy
import Derived.Test.YthhibagcpjeihaaLRp3ToKeep1
import Derived.Test.YthhibagcpjeihaaLKSToRd7
import Derived.Test.YthhibagcpjeihaaLSwap4ToWho1
import Derived.Test.YthhibagcpjeihaaLWr6ToEnt2
namespace Go.Proofs.Ythhibagcpjeihaa
open Go.RowKit
open Go.ChangeMaps (setBlock)
open M
set_option linter.unusedVariables false
set_option linter.unusedSimpArgs false
set_option maxRecDepth 100000
set_option maxHeartbeats 2000000
theorem KeepH.mod {w w' : World} {ow : Nat → Nat} {kb : Nat} {now : Int} {fl : Nat → Option (Pla × List Sea)} {S : Nat → Prop} (h : KeepH w ow kb now fl) (hm : Mod S w w') (hs : ∀ k, ow k ≠ 0 → ¬ S k) : KeepH w' ow kb now fl := by
 obtain ⟨pt, h⟩ := h
 exact ⟨pt, h.mod hm hs⟩
theorem KeepH.wf {w : World} {ow : Nat → Nat} {kb : Nat} {now : Int} {fl : Nat → Option (Pla × List Sea)} (h : KeepH w ow kb now fl) {n : Nat} (hn : n < 21) {p : Pla} {l : List Sea} (hf : fl n = some (p, l)) : Wf p l := by
 obtain ⟨pt, h⟩ := h
 obtain ⟨b, _, hw, _⟩ := h.here n p l hn hf
 exact hw
def leftK (fl : Nat → Option (Pla × List Sea)) (n c : Int) : Int × Int :=
 if ¬ (1 ≤ n ∧ n ≤ 20) then (0, 2)
 else match fl n.toNat with
  | none => (0, 2)
  | some x => if ¬ (0 ≤ c ∧ c < 4) then (0, 6) else (min (M.leftOf x.1 x.2 c.toNat) 9, 0)
def totV (p : Pla) (l : List Sea) : Array Value :=
 #[.int .i64 (cA p l 0), .int .i64 (cA p l 1), .int .i64 (cA p l 2), .int .i64 (cA p l 3), .int .i64 (cB p l 0), .int .i64 (cB p l 1), .int .i64 (cB p l 2), .int .i64 (cB p l 3), .int .i64 (cS l 0), .int .i64 (cS l 1), .int .i64 (cS l 2), .int .i64 (cS l 3)]
def countK (fl : Nat → Option (Pla × List Sea)) (n : Int) : Array Value × Int :=
 if ¬ (1 ≤ n ∧ n ≤ 20) then (zero51, 2)
 else match fl n.toNat with
  | none => (zero51, 2)
  | some x => (totV x.1 x.2, 0)
theorem left_any {w : World} {ow : Nat → Nat} {kb : Nat} {now : Int} {fl : Nat → Option (Pla × List Sea)} (h : KeepH w ow kb now fl) (n c : Int) :
  Calls Try.prog 25 #[.pointer (some ⟨kb, 0, none⟩), .int .i64 n, .int .i64 c] w fun e w' => e = .returned (.tuple #[.int .i64 (leftK fl n c).1, .int .i64 (leftK fl n c).2]) ∧ Mod No w w' := by
 obtain ⟨pt, h⟩ := h
 unfold leftK
 by_cases hn : 1 ≤ n ∧ n ≤ 20
 case neg =>
  rw [if_pos hn]
  exact left_none kb n c w (find_no kb n hn w)
 rw [if_neg (by simpa using hn)]
 have hfn : ((n.toNat : Nat) : Int) = n := by omega
 have hF := find_any h n.toNat (by omega)
 rw [hfn] at hF
 cases hfl : fl n.toNat with
 | none =>
  rw [h.gone _ (by omega) hfl] at hF
  exact left_none kb n c w hF
 | some x =>
  obtain ⟨p, l⟩ := x
  obtain ⟨b, hp, hwf, hfh⟩ := h.here _ p l (by omega) hfl
  rw [hp] at hF
  simp only
  by_cases hc : 0 ≤ c ∧ c < 4
  case neg =>
   rw [if_pos hc]
   exact left_class kb b n c hc w hF
  rw [if_neg (by simpa using hc)]
  obtain ⟨m, es, clock, q1, _⟩ := hfh
  have hcn : ((c.toNat : Nat) : Int) = c := by omega
  have := left_walk kb b n c.toNat (by omega) (min (cE p l 0) 9) (min (cE p l 1) 9) (min (cE p l 2) 9) (min (cE p l 3) 9) w hF (fleft_walk _ _ _ _ _ _ _ _ _ _ _ _ _ _ _ _ _ _ _ _ _ _ _ _ _ _ _ q1)
  rw [hcn] at this
  refine this.mono ?_
  rintro e w' ⟨rfl, hm⟩
  refine ⟨?_, hm⟩
  have : c.toNat = 0 ∨ c.toNat = 1 ∨ c.toNat = 2 ∨ c.toNat = 3 := by omega
  rcases this with e | e | e | e <;> rw [e] <;> rfl
theorem count_any {w : World} {ow : Nat → Nat} {kb : Nat} {now : Int} {fl : Nat → Option (Pla × List Sea)} (h : KeepH w ow kb now fl) (n : Int) :
  Calls Try.prog 19 #[.pointer (some ⟨kb, 0, none⟩), .int .i64 n] w fun e w' => e = .returned (.tuple #[.agg (countK fl n).1, .int .i64 (countK fl n).2]) ∧ Mod No w w' := by
 obtain ⟨pt, h⟩ := h
 unfold countK
 by_cases hn : 1 ≤ n ∧ n ≤ 20
 case neg =>
  rw [if_pos hn]
  exact count_none kb n w (fun W _ => find_no kb n hn W)
 rw [if_neg (by simpa using hn)]
 have hfn : ((n.toNat : Nat) : Int) = n := by omega
 have hF : ∀ W, Mod No w W → Calls Try.prog 44 #[.pointer (some ⟨kb, 0, none⟩), .int .i64 n] W fun e w' => e = .returned (pv (pt n.toNat)) ∧ w' = W := fun W hW => by
  have := find_any (h.mod hW (fun _ _ x => x)) n.toNat (by omega)
  rw [hfn] at this
  exact this
 cases hfl : fl n.toNat with
 | none =>
  rw [h.gone _ (by omega) hfl] at hF
  exact count_none kb n w hF
 | some x =>
  obtain ⟨p, l⟩ := x
  obtain ⟨b, hp, hwf, hfh⟩ := h.here _ p l (by omega) hfl
  rw [hp] at hF
  simp only
  exact count_walk kb b n _ _ _ _ _ _ _ _ _ _ _ _ w hF (fun W hW => by
   obtain ⟨m, es, clock, q1, _⟩ := hfh.mod0 hW
   exact ftotals_walk _ _ _ _ _ _ _ _ _ _ _ _ _ _ _ _ _ _ _ _ _ _ _ _ _ _ _ q1)
theorem doK_cfit {now : Int} {fl : Nat → Option (Pla × List Sea)} {c : Cmd} (hn : 0 ≤ now ∧ now ≤ 4611686018427387000) (hwf : ∀ n p l, n < 21 → fl n = some (p, l) → Wf p l) (h : (doK now fl c).1 = 0) : CFit now (entOf now c) := by
 unfold doK at h
 by_cases hbad : c.kind < 1 ∨ c.kind > 9
 ·rw [if_pos hbad] at h; exact absurd h (by simp)
 rw [if_neg hbad] at h
 by_cases h8 : c.kind = 8
 ·rw [if_pos h8] at h
  by_cases ht : 1 ≤ c.time ∧ c.time ≤ 100
  ·exact fit_pass h8 ht hn
  ·rw [if_neg ht] at h; exact absurd h (by simp)
 rw [if_neg h8] at h
 by_cases hf : 1 ≤ c.flight ∧ c.flight ≤ 20
 case neg => rw [if_pos hf] at h; exact absurd h (by simp)
 rw [if_neg (by simpa using hf)] at h
 cases hfl : fl c.flight.toNat with
 | none =>
  rw [hfl] at h
  simp only at h
  by_cases k1 : c.kind = 1
  ·rw [if_pos k1] at h
   by_cases hs : c.pla.sized = true ∧ c.pla.limited = true
   ·exact fit_start k1 hf hs.1 hs.2
   ·rw [if_neg hs] at h; exact absurd h (by simp)
  ·rw [if_neg k1] at h; exact absurd h (by simp)
 | some x =>
  obtain ⟨p, l⟩ := x
  rw [hfl] at h
  simp only at h
  by_cases k1 : c.kind = 1
  ·rw [if_pos k1] at h; exact absurd h (by simp)
  rw [if_neg k1] at h
  by_cases hz : seatErr p l c now = 0
  ·exact fit_seat (by omega) hf (hwf _ p l (by omega) hfl) hn hz
  ·rw [if_neg hz] at h; exact absurd h hz
structure FlOk (N : Int) (now : Int) (fl : Fls) : Prop where
 rng : ∀ j, j = 0 ∨ 20 < j → fl j = none
 wf : ∀ j p l, fl j = some (p, l) → Wf p l
 ep : ∀ j p l, fl j = some (p, l) → 1 ≤ p.ep ∧ p.ep ≤ N + 1
 one : ∀ j p l, fl j = some (p, l) → p.ep = 1 → ∀ s ∈ l, s.st = 0
 hold : ∀ j p l, fl j = some (p, l) → ∀ s ∈ l, s.st = 1 → now < s.un
 time : 0 ≤ now ∧ now ≤ 100 * N
 big : 0 ≤ N ∧ N ≤ 1099511627776
theorem FlOk.zero : FlOk 0 0 noFl := ⟨fun _ _ => rfl, fun _ _ _ h => (by cases h), fun _ _ _ h => (by cases h), fun _ _ _ h => (by cases h), fun _ _ _ h => (by cases h), by omega, by omega⟩
theorem FlOk.more {N M now : Int} {fl : Fls} (h : FlOk N now fl) (hM : N ≤ M) (hb : M ≤ 1099511627776) : FlOk M now fl :=
 ⟨h.rng, h.wf, fun j p l e => by have := h.ep j p l e; omega, h.one, h.hold, by have := h.time; omega, by have := h.big; omega⟩
theorem nx_small {e N : Int} (h : 1 ≤ e ∧ e ≤ N + 1) (hb : 0 ≤ N ∧ N ≤ 1099511627776) : nx e = e + 1 := by
 unfold nx
 rw [IntKind.wrap_i64]
 omega
def lateB (now : Int) (s : Sea) : Bool := s.st == 1 && decide (s.un ≤ now)
theorem lateB_ask (now : Int) : Ask (lateB now) := ⟨fun s h => by unfold lateB at h; simp at h; omega, fun s x => rfl⟩
theorem late_zero {now : Int} {l : List Sea} (h : ∀ s ∈ l, s.st = 1 → now < s.un) : l.countP (lateB now) = 0 := by
 rw [List.countP_eq_zero]
 intro s hs
 unfold lateB
 simp only [Bool.and_eq_true, beq_iff_eq, decide_eq_true_eq]
 rintro ⟨h1, h2⟩
 have := h s hs h1
 omega
theorem zero_late {now : Int} {l : List Sea} (h : l.countP (lateB now) = 0) : ∀ s ∈ l, s.st = 1 → now < s.un := by
 rw [List.countP_eq_zero] at h
 intro s hs h1
 have := h s hs
 unfold lateB at this
 simp only [Bool.and_eq_true, beq_iff_eq, decide_eq_true_eq] at this
 have := fun q => this ⟨h1, q⟩
 omega
theorem seatK_wf {p : Pla} {l : List Sea} (hwf : Wf p l) {c : Cmd} {now : Int} (hn : 0 ≤ now ∧ now ≤ 4611686018427387000) (h : seatErr p l c now = 0) : Wf (planNew p c) (seatNew p l c) := by
 by_cases h9 : c.kind = 9
 ·unfold seatErr at h
  rw [if_pos h9] at h
  by_cases hq : c.pla.sized = true ∧ ¬ (c.pla.rows * c.pla.cols < (nFull l : Int))
  ·unfold planNew seatNew
   rw [if_pos h9, if_pos h9]
   exact swap_wf (q := swapPla p c.pla) hwf hq.1 hwf.limited hq.2
  ·rw [if_neg hq] at h; omega
 ·unfold planNew
  rw [if_neg h9]
  exact (seatNew_wf hwf hn h h9).next
theorem planK_ep (p : Pla) (c : Cmd) : (planNew p c).ep = nx p.ep := by
 unfold planNew
 split <;> rfl
theorem seatK_hold {p : Pla} {l : List Sea} (hwf : Wf p l) {c : Cmd} {now : Int} (h : seatErr p l c now = 0) (hh : ∀ s ∈ l, s.st = 1 → now < s.un) : ∀ s ∈ seatNew p l c, s.st = 1 → now < s.un := by
 by_cases h9 : c.kind = 9
 ·unfold seatErr at h
  rw [if_pos h9] at h
  by_cases hq : c.pla.sized = true ∧ ¬ (c.pla.rows * c.pla.cols < (nFull l : Int))
  ·unfold seatNew
   rw [if_pos h9]
   refine zero_late ?_
   rw [swap_count (q := swapPla p c.pla) (lateB_ask now) hwf hq.1 hwf.limited hq.2]
   exact late_zero hh
  ·rw [if_neg hq] at h; omega
 ·obtain ⟨_, hat, h5, h2, h3⟩ := seatErr_zero h h9
  obtain ⟨hi, hs, _⟩ := seatAt_eq hwf hat
  have hsat : (seatAt p l c.ar c.ac).st = 1 → now < (seatAt p l c.ar c.ac).un := by rw [hs]; exact hh _ (List.getElem_mem hi)
  have put : ∀ (m : List Sea) i (x : Sea), (∀ s ∈ m, s.st = 1 → now < s.un) → (x.st = 1 → now < x.un) → ∀ s ∈ m.set i x, s.st = 1 → now < s.un := fun m i x h1 h2 s hs => by
   rcases List.mem_or_eq_of_mem_set hs with q | q
   ·exact h1 s q
   ·subst q; exact h2
  have fr : ∀ x : Sea, x.freed.st = 1 → now < x.freed.un := fun x e => by simp [Sea.freed] at e
  unfold seatNew
  rw [if_neg h9]
  by_cases k2 : c.kind = 2
  ·rw [if_pos k2]
   exact put _ _ _ hh (fun _ => (h2 k2).2.1)
  rw [if_neg k2]
  by_cases k3 : c.kind = 3
  ·rw [if_pos k3]
   exact put _ _ _ hh (fun e => by simp at e)
  rw [if_neg k3]
  by_cases k5 : c.kind = 5
  ·rw [if_pos k5]
   exact put _ _ _ (put _ _ _ hh (fr _)) hsat
  rw [if_neg k5]
  by_cases k6 : c.kind = 6
  ·rw [if_pos k6]
   exact put _ _ _ hh (fun e => by simp at e)
  rw [if_neg k6]
  exact put _ _ _ hh (fr _)
theorem FlOk.step {N now now' : Int} {fl fl' : Fls} {c : Cmd} (h : FlOk N now fl) (hd : doK now fl c = (0, now', fl')) (hN : N + 1 ≤ 1099511627776) : FlOk (N + 1) now' fl' := by
 have hl := doK_late hd
 have hb := h.big
 have ht := h.time
 unfold doK at hd
 by_cases hbad : c.kind < 1 ∨ c.kind > 9
 ·rw [if_pos hbad] at hd; exact absurd hd (by simp)
 rw [if_neg hbad] at hd
 by_cases h8 : c.kind = 8
 ·rw [if_pos h8] at hd
  by_cases htm : 1 ≤ c.time ∧ c.time ≤ 100
  ·rw [if_pos htm] at hd
   injection hd with _ hd
   injection hd with e1 e2
   rw [← e2, e1]
   have get : ∀ j p l, (fl j).map (tickF now') = some (p, l) → ∃ p0 l0, fl j = some (p0, l0) ∧ p = tickP now' p0 l0 ∧ l = tickSeats now' l0 := fun j p l e => by
    cases hx : fl j with
    | none => rw [hx] at e; cases e
    | some x =>
     rw [hx] at e
     obtain ⟨p0, l0⟩ := x
     injection e with e
     injection e with a b
     exact ⟨p0, l0, rfl, a.symm, b.symm⟩
   refine ⟨fun j hj => (by show (fl j).map _ = none; rw [h.rng j hj]; rfl), fun j p l e => ?_, fun j p l e => ?_, fun j p l e => ?_, fun j p l e => ?_, by omega, by omega⟩
   ·obtain ⟨p0, l0, hx, rfl, rfl⟩ := get j p l e
    exact tickP_wf (h.wf j p0 l0 hx) now'
   ·obtain ⟨p0, l0, hx, rfl, rfl⟩ := get j p l e
    have := h.ep j p0 l0 hx
    unfold tickP
    split
    ·show 1 ≤ nx p0.ep ∧ nx p0.ep ≤ N + 1 + 1
     rw [nx_small this hb]; omega
    ·omega
   ·obtain ⟨p0, l0, hx, rfl, rfl⟩ := get j p l e
    have hep := h.ep j p0 l0 hx
    intro h1 s hs
    unfold tickP at h1
    split at h1
    ·have h1 : nx p0.ep = 1 := h1
     rw [nx_small hep hb] at h1
     omega
    ·simp only [tickSeats, List.mem_map] at hs
     obtain ⟨x, hx2, rfl⟩ := hs
     have := h.one j p0 l0 hx h1 x hx2
     split
     ·rfl
     ·exact this
   ·obtain ⟨p0, l0, hx, rfl, rfl⟩ := get j p l e
    intro s hs h1
    simp only [tickSeats, List.mem_map] at hs
    obtain ⟨x, hx2, rfl⟩ := hs
    by_cases hdu : due now' x = true
    ·rw [if_pos hdu] at h1; simp [Sea.freed] at h1
    ·rw [if_neg hdu] at h1 ⊢
     unfold due at hdu
     simp only [h1, beq_self_eq_true, Bool.true_and, decide_eq_true_eq] at hdu
     omega
  ·rw [if_neg htm] at hd; exact absurd hd (by simp)
 rw [if_neg h8] at hd
 by_cases hf : 1 ≤ c.flight ∧ c.flight ≤ 20
 case neg => rw [if_pos hf] at hd; exact absurd hd (by simp)
 rw [if_neg (by simpa using hf)] at hd
 have upd : ∀ (P : Pla) (L : List Sea), fl' = (fun j => if j = c.flight.toNat then some (P, L) else fl j) → now' = now → Wf P L → (1 ≤ P.ep ∧ P.ep ≤ N + 1 + 1) → (P.ep = 1 → ∀ s ∈ L, s.st = 0) → (∀ s ∈ L, s.st = 1 → now < s.un) → FlOk (N + 1) now' fl' := fun P L e1 e2 w1 w2 w3 w4 => by
  subst e1
  rw [e2]
  have get : ∀ j p l, (if j = c.flight.toNat then some (P, L) else fl j) = some (p, l) → (P = p ∧ L = l) ∨ fl j = some (p, l) := fun j p l e => by
   split at e
   ·injection e with e
    injection e with a b
    exact .inl ⟨a, b⟩
   ·exact .inr e
  refine ⟨fun j hj => ?_, fun j p l e => ?_, fun j p l e => ?_, fun j p l e => ?_, fun j p l e => ?_, by omega, by omega⟩
  ·rw [if_neg (by omega)]; exact h.rng j hj
  ·rcases get j p l e with ⟨rfl, rfl⟩ | q
   ·exact w1
   ·exact h.wf j p l q
  ·rcases get j p l e with ⟨rfl, rfl⟩ | q
   ·exact w2
   ·have := h.ep j p l q; omega
  ·rcases get j p l e with ⟨rfl, rfl⟩ | q
   ·exact w3
   ·exact h.one j p l q
  ·rcases get j p l e with ⟨rfl, rfl⟩ | q
   ·exact w4
   ·exact h.hold j p l q
 cases hx : fl c.flight.toNat with
 | none =>
  rw [hx] at hd
  simp only at hd
  by_cases k1 : c.kind = 1
  ·rw [if_pos k1] at hd
   by_cases hs : c.pla.sized = true ∧ c.pla.limited = true
   ·rw [if_pos hs] at hd
    injection hd with _ hd
    injection hd with e1 e2
    have em : ∀ s ∈ emptySeats c.pla, s.st = 0 := fun s hs => by
     simp only [emptySeats, List.mem_map] at hs
     obtain ⟨i, _, rfl⟩ := hs
     rfl
    exact upd _ _ e2.symm e1.symm ((empty_wf hs.1 hs.2).at 1) ⟨by show (1 : Int) ≤ 1; omega, by show (1 : Int) ≤ N + 1 + 1; omega⟩ (fun _ => em) (fun s hs e => by rw [em s hs] at e; omega)
   ·rw [if_neg hs] at hd; exact absurd hd (by simp)
  ·rw [if_neg k1] at hd; exact absurd hd (by simp)
 | some x =>
  obtain ⟨p, l⟩ := x
  rw [hx] at hd
  simp only at hd
  by_cases k1 : c.kind = 1
  ·rw [if_pos k1] at hd; exact absurd hd (by simp)
  rw [if_neg k1] at hd
  by_cases hz : seatErr p l c now = 0
  ·rw [if_pos hz] at hd
   injection hd with _ hd
   injection hd with e1 e2
   have hep := h.ep _ p l hx
   have hwf := h.wf _ p l hx
   exact upd _ _ e2.symm e1.symm (seatK_wf hwf (by omega) hz) (by rw [planK_ep, nx_small hep hb]; omega) (fun e => by rw [planK_ep, nx_small hep hb] at e; omega) (seatK_hold hwf hz (h.hold _ p l hx))
  ·rw [if_neg hz] at hd; exact absurd (congrArg (·.1) hd) hz
set_option maxHeartbeats 4000000
def repP (T : TP) (i : Nat) (r : List Int) : Int × TP :=
 if T.room < (T.used : Int) + r.length then (15, T)
 else
  let W := if r = [] then (true, T) else writeP T (1 - i) r
  if W.1 = false then (16, W.2)
  else
   let C := clearP W.2 i
   if C.1 = false then (16, C.2) else (0, C.2)
def repC (e : Int) (i : Nat) (cs : Array Value) : Array Value := if e = 16 then cs.setIfInBounds 30 (.pointer none) else if e = 0 then (cs.setIfInBounds 31 (.int .i64 ((1 - i : Nat) : Int))).setIfInBounds 32 (.bool false) else cs
structure Repd (w w' : World) (S : Nat → Prop) (kb tb i : Nat) (cs : Array Value) (R : Int × TP) : Prop where
 tape : TapeH w' (fun k => S k ∨ w.heap.size ≤ k) tb R.2
 has : Has w' kb (repC R.1 i cs) 117
 mod : Mod (fun k => S k ∨ k = kb) w w'
theorem clear_end {w w2 w3 : World} {S : Nat → Prop} {kb tb i : Nat} {C : Bool × TP} {cs : Array Value} (hw : w.heap.size ≤ w2.heap.size) (hk2 : Has w2 kb cs 117) (hkS : ¬ S kb) (hkl : kb < w.heap.size) (htS : S tb) (m2 : Mod (fun k => S k ∨ k = kb) w w2) (t3 : TapeH w3 (fun k => S k ∨ w.heap.size ≤ k) tb C.2) (m3 : Mod (· = tb) w2 w3) :
  Has w3 kb cs 117 ∧ Mod (fun k => S k ∨ k = kb) w w3 ∧
  (C.1 = false → Repd w (w3.setCell ⟨kb, 30, none⟩ (.pointer none)) S kb tb i cs (16, C.2)) ∧
  (C.1 = true → Repd w ((w3.setCell ⟨kb, 31, none⟩ (.int .i64 ((1 - i : Nat) : Int))).setCell ⟨kb, 32, none⟩ (.bool false)) S kb tb i cs (0, C.2)) := by
 have hkt : ¬ kb = tb := fun e => hkS (by rw [e]; exact htS)
 have hk3 := m3.has hk2 hkt
 have m : Mod (fun k => S k ∨ k = kb) w w3 := m2.trans (m3.mono (fun k _ (e : k = tb) => .inl (by rw [e]; exact htS)))
 have hn : ∀ k, S k ∨ w.heap.size ≤ k → ¬ k = kb := fun k q e => by
  subst e
  rcases q with q | q
  ·exact hkS q
  ·omega
 refine ⟨hk3, m, fun _ => ?_, fun _ => ?_⟩
 ·exact ⟨t3.mod (S' := fun k => k = kb) ((Mod.refl _ w3).at 30 _) hn, hk3.set 30 _, m.setCell (p := ⟨kb, 30, none⟩) (.inl (.inr rfl)) _⟩
 ·exact ⟨t3.mod (S' := fun k => k = kb) (((Mod.refl _ w3).at 31 _).at 32 _) hn, (hk3.set 31 _).set 32 _, (m.setCell (p := ⟨kb, 31, none⟩) (.inl (.inr rfl)) _).setCell (p := ⟨kb, 32, none⟩) (.inl (.inr rfl)) _⟩
theorem sreplace_any {w : World} {S : Nat → Prop} {kb tb : Nat} {T : TP} {cs : Array Value} (hk : Has w kb cs 117) (c30 : cs[30]? = some (.pointer (some ⟨tb, 0, none⟩))) (hkS : ¬ S kb) (ht : TapeH w S tb T) (i : Nat) (hi : i < 2) (c31 : cs[31]? = some (.int .i64 i)) (tn : Bool) (c32 : cs[32]? = some (.bool tn))
  (xa : Option Addr) (c : Nat) (r : List Int) (hx : Reads w (.slice xa r.length c) r.length (u8s r)) (hxb : (Value.slice xa r.length c).ownBlock ≠ some tb) (hr : ∀ x ∈ r, 0 ≤ x ∧ x < 256) (hl : (T.b (1 - i)).length + r.length ≤ 17592186044416) :
  Calls Try.prog 62 #[.pointer (some ⟨kb, 30, none⟩), .slice xa r.length c] w fun e w' => e = .returned (.int .i64 (repP T i r).1) ∧ Repd w w' S kb tb i cs (repP T i r) := by
 have HA := hide (ask_any hk c30 ht r.length (by omega))
 have HW := hide fun W (hm : Mod No w W) => (write_any (hm.has hk (fun x => x)) c30 hkS (ht.mod0 hm) (1 - i) (by omega) xa c r (hx.mod hm (fun _ _ x => x)) hxb hr hl).mono fun e w' ⟨q1, q2, q3⟩ => (⟨q1, q2.wide (fun k q => q.imp id (fun q => Nat.le_trans hm.size q)), q3⟩ : e = _ ∧ TapeH w' (fun k => S k ∨ w.heap.size ≤ k) tb (writeP T (1 - i) r).2 ∧ Mod S W w')
 have HK := hide hk
 have HT := hide ht
 have lt := hk.lt
 have HLT := hide hk.lt
 have NK := hide hkS
 have htb := hide ht.inn
 have hi1 : IntKind.i64.wrap (1 - (i : Int)) = ((1 - i : Nat) : Int) := by rw [IntKind.wrap_i64]; omega
 clear hk ht hx hxb hl hr hkS
 unfold repP
 unfold askP at HA
 by_cases hno : T.room < (T.used : Int) + r.length
 ·rw [if_pos hno] at HA ⊢
  have HNO := hide hno
  generalize r.length = n at *
  clear hno HNO HW
  go_enter Try.func62, Try.ntmps62
  go_wp2_with fail
  refine (unhide HA).mono ?_
  rintro e w1 ⟨rfl, m1⟩
  have M1 := hide m1
  clear m1
  go_wp2
  go_ret
  exact ⟨rfl, ((unhide HT).mod0 (unhide M1)).wide (fun _ q => .inl q), (unhide M1).has (unhide HK) (fun x => x), (unhide M1).mono (fun _ _ x => x.elim)⟩
 rw [if_neg hno] at HA ⊢
 clear hno
 by_cases hrn : r = []
 ·subst hrn
  simp only [if_true]
  rw [if_neg (by simp)]
  have HC := hide fun W (h : TapeH W (fun k => S k ∨ w.heap.size ≤ k) tb T) => clear_t h i (by omega)
  clear HW
  have hlen : ([] : List Int).length = 0 := rfl
  rw [hlen] at HA ⊢
  generalize clearP T i = C at *
  obtain ⟨cc, T3⟩ := C
  simp only at HC ⊢
  cases cc with
  | false =>
   rw [if_pos rfl]
   go_enter Try.func62, Try.ntmps62
   go_wp2_with fail
   refine (unhide HA).mono ?_
   rintro e w2 ⟨rfl, m2⟩
   have hk2 := m2.has (unhide HK) (fun x => x)
   have HC := hide ((unhide HC) w2.drew (((unhide HT).mod0 m2.drew).wide (fun _ q => .inl q)))
   have CE := hide (fun w3 t3 m3 => clear_end (C := (false, T3)) (w2 := w2.drew) (w3 := w3) (i := i)  m2.size hk2 (unhide NK) (unhide HLT) (unhide htb) (m2.drew.mono (fun _ _ x => x.elim)) t3 m3)
   clear m2
   have d0 := hk2.cell 30
   rw [c30] at d0
   have d1 := hk2.cell 31
   rw [c31] at d1
   have dl := hk2.lt
   clear hk2
   go_wp2_with fail
   go_region_with (go_at_call 41; refine (unhide HC).mono ?_; rintro e w3 ⟨rfl, t3, m3⟩; have E3 := hide ((unhide CE) w3 t3 m3); have hk3 := ((unhide E3)).1; have HD := hide (die_any hk3 _ c30); clear hk3 t3 m3)
   all_goals go_wp2_with fail
   all_goals refine (unhide HD).mono ?_
   all_goals rintro e w4 ⟨rfl, rfl⟩
   all_goals go_wp2
   all_goals go_ret
   all_goals exact ⟨rfl, (unhide E3).2.2.1 (by trivial)⟩
  | true =>
   rw [if_neg (by simp)]
   go_enter Try.func62, Try.ntmps62
   go_wp2_with fail
   refine (unhide HA).mono ?_
   rintro e w2 ⟨rfl, m2⟩
   have hk2 := m2.has (unhide HK) (fun x => x)
   have HC := hide ((unhide HC) w2.drew (((unhide HT).mod0 m2.drew).wide (fun _ q => .inl q)))
   have CE := hide (fun w3 t3 m3 => clear_end (C := (true, T3)) (w2 := w2.drew) (w3 := w3) (i := i)  m2.size hk2 (unhide NK) (unhide HLT) (unhide htb) (m2.drew.mono (fun _ _ x => x.elim)) t3 m3)
   clear m2
   have d0 := hk2.cell 30
   rw [c30] at d0
   have d1 := hk2.cell 31
   rw [c31] at d1
   have dl := hk2.lt
   clear hk2
   go_wp2_with fail
   go_region_with (go_at_call 41; refine (unhide HC).mono ?_; rintro e w3 ⟨rfl, t3, m3⟩; have E3 := hide ((unhide CE) w3 t3 m3); have hk3 := ((unhide E3)).1; have k1 := hk3.cell 31; rw [c31] at k1; have k2 := hk3.cell 32; rw [c32] at k2; have kl := hk3.lt; have kf := hk3.frozen; clear hk3 t3 m3)
   all_goals go_wp2_with fail
   all_goals go_ret
   all_goals exact ⟨rfl, (unhide E3).2.2.2 (by trivial)⟩
 ·rw [if_neg hrn]
  have hpos : (r.length : Int) > 0 := by have := List.length_pos_iff.2 hrn; omega
  generalize writeP T (1 - i) r = A at *
  obtain ⟨a, T2⟩ := A
  generalize r.length = n at *
  simp only at HW ⊢
  clear hrn
  cases a with
  | false =>
   rw [if_pos rfl]
   go_enter Try.func62, Try.ntmps62
   go_wp2_with fail
   refine (unhide HA).mono ?_
   rintro e w1 ⟨rfl, m1⟩
   have h1 := m1.has (unhide HK) (fun x => x)
   have c1 := h1.cell 31
   rw [c31] at c1
   have lt1 := h1.lt
   have HW1 := hide ((unhide HW) _ m1)
   have H1 := hide h1
   have M1 := hide m1
   clear h1 m1 HA HW
   go_wp2_with fail
   refine (unhide HW1).mono ?_
   rintro e w2 ⟨rfl, t2, m2⟩
   have h2 := m2.has (unhide H1) (unhide NK)
   have HD := hide (die_any h2 _ c30)
   have T2H := hide t2
   have H2 := hide h2
   have M2 := hide (((unhide M1).mono (S' := fun k => S k ∨ k = kb) (fun _ _ x => x.elim)).trans (m2.mono (fun _ _ q => .inl q)))
   clear t2 m2 h2 HW1
   go_wp2_with fail
   refine (unhide HD).mono ?_
   rintro e w3 ⟨rfl, rfl⟩
   have FIN := hide (show Repd w (w2.setCell ⟨kb, 30, none⟩ (.pointer none)) S kb tb i cs (16, T2) from
    ⟨(unhide T2H).mod (S' := fun k => k = kb) ((Mod.refl _ w2).at 30 _) (fun k q e => by
      subst e
      rcases q with q | q
      ·exact unhide NK q
      ·have := unhide HLT; omega), (unhide H2).set 30 _, (unhide M2).setCell (p := ⟨kb, 30, none⟩) (.inl (.inr rfl)) _⟩)
   clear HD H2 M2 T2H
   go_wp2
   go_ret
   exact ⟨rfl, unhide FIN⟩
  | true =>
   rw [if_neg (by simp)]
   have HC := hide fun W (h : TapeH W (fun k => S k ∨ w.heap.size ≤ k) tb T2) => clear_t h i (by omega)
   generalize clearP T2 i = C at *
   obtain ⟨cc, T3⟩ := C
   simp only at HC ⊢
   cases cc with
   | false =>
    rw [if_pos rfl]
    go_enter Try.func62, Try.ntmps62
    go_wp2_with fail
    refine (unhide HA).mono ?_
    rintro e w1 ⟨rfl, m1⟩
    have h1 := m1.has (unhide HK) (fun x => x)
    have c1 := h1.cell 31
    rw [c31] at c1
    have lt1 := h1.lt
    have HW1 := hide ((unhide HW) _ m1)
    have H1 := hide h1
    have M1 := hide m1
    clear h1 m1 HA HW
    go_wp2_with fail
    refine (unhide HW1).mono ?_
    rintro e w2 ⟨rfl, t2, m2⟩
    have hk2 := m2.has (unhide H1) (unhide NK)
    have HC := hide ((unhide HC) w2.drew (t2.mod0 (Mod.refl No w2).drew))
    have CE := hide (fun w3 t3 m3 => clear_end (C := (false, T3)) (w2 := w2.drew) (w3 := w3) (i := i)  (Nat.le_trans (unhide M1).size m2.size) hk2 (unhide NK) (unhide HLT) (unhide htb) ((((unhide M1).mono (S' := fun k => S k ∨ k = kb) (fun _ _ x => x.elim)).trans (m2.mono (fun _ _ q => .inl q))).drew) t3 m3)
    clear t2 m2 HW1
    have d0 := hk2.cell 30
    rw [c30] at d0
    have d1 := hk2.cell 31
    rw [c31] at d1
    have dl := hk2.lt
    clear hk2
    go_wp2_with fail
    go_region_with (go_at_call 41; refine (unhide HC).mono ?_; rintro e w3 ⟨rfl, t3, m3⟩; have E3 := hide ((unhide CE) w3 t3 m3); have hk3 := ((unhide E3)).1; have HD := hide (die_any hk3 _ c30); clear hk3 t3 m3)
    all_goals go_wp2_with fail
    all_goals refine (unhide HD).mono ?_
    all_goals rintro e w4 ⟨rfl, rfl⟩
    all_goals go_wp2
    all_goals go_ret
    all_goals exact ⟨rfl, (unhide E3).2.2.1 (by trivial)⟩
   | true =>
    rw [if_neg (by simp)]
    go_enter Try.func62, Try.ntmps62
    go_wp2_with fail
    refine (unhide HA).mono ?_
    rintro e w1 ⟨rfl, m1⟩
    have h1 := m1.has (unhide HK) (fun x => x)
    have c1 := h1.cell 31
    rw [c31] at c1
    have lt1 := h1.lt
    have HW1 := hide ((unhide HW) _ m1)
    have H1 := hide h1
    have M1 := hide m1
    clear h1 m1 HA HW
    go_wp2_with fail
    refine (unhide HW1).mono ?_
    rintro e w2 ⟨rfl, t2, m2⟩
    have hk2 := m2.has (unhide H1) (unhide NK)
    have HC := hide ((unhide HC) w2.drew (t2.mod0 (Mod.refl No w2).drew))
    have CE := hide (fun w3 t3 m3 => clear_end (C := (true, T3)) (w2 := w2.drew) (w3 := w3) (i := i)  (Nat.le_trans (unhide M1).size m2.size) hk2 (unhide NK) (unhide HLT) (unhide htb) ((((unhide M1).mono (S' := fun k => S k ∨ k = kb) (fun _ _ x => x.elim)).trans (m2.mono (fun _ _ q => .inl q))).drew) t3 m3)
    clear t2 m2 HW1
    have d0 := hk2.cell 30
    rw [c30] at d0
    have d1 := hk2.cell 31
    rw [c31] at d1
    have dl := hk2.lt
    clear hk2
    go_wp2_with fail
    go_region_with (go_at_call 41; refine (unhide HC).mono ?_; rintro e w3 ⟨rfl, t3, m3⟩; have E3 := hide ((unhide CE) w3 t3 m3); have hk3 := ((unhide E3)).1; have k1 := hk3.cell 31; rw [c31] at k1; have k2 := hk3.cell 32; rw [c32] at k2; have kl := hk3.lt; have kf := hk3.frozen; clear hk3 t3 m3)
    all_goals go_wp2_with fail
    all_goals go_ret
    all_goals exact ⟨rfl, (unhide E3).2.2.2 (by trivial)⟩
theorem fillsB_snoc (now : Int) : ∀ (ss : List Sea) (s : Sea), fillsB now (ss ++ [s]) = fillsB now ss ++ fillB now s
 | [], s => by simp [fillsB]
 | x :: ss, s => by
  show fillB now x ++ fillsB now (ss ++ [s]) = _
  rw [fillsB_snoc now ss s]
  simp [fillsB]
theorem fillsB_len (now : Int) : ∀ (ss : List Sea), (fillsB now ss).length ≤ 36 * ss.length
 | [] => by simp [fillsB]
 | s :: ss => by
  have := fillB_len now s
  have := fillsB_len now ss
  simp only [fillsB, List.length_append, List.length_cons]
  omega
theorem planeB_len (p : Pla) : (planeB p).length ≤ 63 := by
 have a := shapeB_len p
 have l0 := (numB_len p.l0).2
 have l1 := (numB_len p.l1).2
 have l2 := (numB_len p.l2).2
 have l3 := (numB_len p.l3).2
 unfold planeB
 simp only [List.length_append]
 omega
theorem wwhole_any {O : Nat → Prop} {w : World} {wb : Nat} {xs : List Int} {now : Int} (h : ∃ v, WrX O w wb v xs now) (hO : Up O w) (hl : xs.length < 1099511600000) (p : Pla) (hp : Pla.fit p) (he : 0 ≤ p.ep ∧ p.ep < 9223372036854775808) {a : Option Addr} {c : Nat} (ss : List Sea) (hss : ∀ s ∈ ss, SFit now s) (hsl : ss.length ≤ 120)
  (hr : w.ownsRow 0 180 6 (.slice a ss.length c) ss.length (ss.flatMap fillL)) (hb : ∀ g, (Value.slice a ss.length c).ownBlock = some g → ¬ O g) :
  Calls Try.prog 101 #[.pointer (some ⟨wb, 0, none⟩), .agg #[.int .i64 p.rows, .int .i64 p.cols, .int .i64 p.front, .int .i64 p.l0, .int .i64 p.l1, .int .i64 p.l2, .int .i64 p.l3, .slice a ss.length c, .int .i64 p.ep]] w fun e w' => e = .returned (.tuple #[]) ∧ Wrote O w w' wb (xs ++ wholeB now p ss) now := by
 obtain ⟨v, h⟩ := h
 have hpl := planeB_len p
 have hel := (numB_len p.ep).2
 have hnl := (numB_len (ss.length : Int)).2
 have mA : Mod No w (w.alloc (.cells #[.int .i64 p.rows, .int .i64 p.cols, .int .i64 p.front, .int .i64 p.l0, .int .i64 p.l1, .int .i64 p.l2, .int .i64 p.l3, .slice a ss.length c, .int .i64 p.ep] 177)) := (Mod.refl _ _).alloc _
 have B0 := hide (Has.new w #[.int .i64 p.rows, .int .i64 p.cols, .int .i64 p.front, .int .i64 p.l0, .int .i64 p.l1, .int .i64 p.l2, .int .i64 p.l3, .slice a ss.length c, .int .i64 p.ep] 177)
 have HO := hide (hO.box (.cells #[.int .i64 p.rows, .int .i64 p.cols, .int .i64 p.front, .int .i64 p.l0, .int .i64 p.l1, .int .i64 p.l2, .int .i64 p.l3, .slice a ss.length c, .int .i64 p.ep] 177))
 have HN := hide (wplane_any ⟨v, h.box (.cells #[.int .i64 p.rows, .int .i64 p.cols, .int .i64 p.front, .int .i64 p.l0, .int .i64 p.l1, .int .i64 p.l2, .int .i64 p.l3, .slice a ss.length c, .int .i64 p.ep] 177)⟩ (unhide HO) (by omega) p hp)
 have HR := hide (mA.owns hr (fun _ _ x => x))
 have HB := hide hb
 have HSS := hide hss
 have MA := hide mA
 have HX := hide hO
 clear h hO hr hb hss mA
 go_enter Try.func101, Try.ntmps101
 go_wp2_with fail
 refine (unhide HN).mono ?_
 rintro e w1 ⟨rfl, q1⟩
 have b1 := q1.mod.has (unhide B0) (fun q => q.2 rfl)
 have c7 : w1.cell? ⟨w.heap.size, 7, none⟩ = some (.slice a ss.length c) := b1.cell 7
 have c8 : w1.cell? ⟨w.heap.size, 8, none⟩ = some (.int .i64 p.ep) := b1.cell 8
 have hlt := b1.lt
 have HO1 := hide ((unhide HO).mod q1.mod)
 have HN1 := hide (wnum_w q1.ex (unhide HO1) (by simp only [List.length_append]; omega) p.ep he)
 have R1 := hide (q1.mod.owns (unhide HR) (fun k hk e => (unhide HB) k hk e.1))
 have Q1 := hide q1.mod
 have B1 := hide b1
 clear q1 b1 HN B0 HR HO
 go_wp2_with fail
 refine (unhide HN1).mono ?_
 rintro e w2 ⟨rfl, q2⟩
 have b2 := q2.mod.has (unhide B1) (fun q => q.2 rfl)
 have c72 : w2.cell? ⟨w.heap.size, 7, none⟩ = some (.slice a ss.length c) := b2.cell 7
 have hlt2 := b2.lt
 have HO2 := hide ((unhide HO1).mod q2.mod)
 have HN2 := hide (wnum_w q2.ex (unhide HO2) (by simp only [List.length_append]; omega) (ss.length : Int) (by omega))
 have R2 := hide (q2.mod.owns (unhide R1) (fun k hk e => (unhide HB) k hk e.1))
 have Q2 := hide ((unhide Q1).trans q2.mod)
 have B2 := hide b2
 clear q2 b2 HN1 B1 R1 HO1 Q1 c7 c8 hlt
 go_wp2_with fail
 refine (unhide HN2).mono ?_
 rintro e w3 ⟨rfl, q3⟩
 have b3 := q3.mod.has (unhide B2) (fun q => q.2 rfl)
 have c73 : w3.cell? ⟨w.heap.size, 7, none⟩ = some (.slice a ss.length c) := b3.cell 7
 have hlt3 := b3.lt
 have HO3 := hide ((unhide HO2).mod q3.mod)
 have R3 := hide (q3.mod.owns (unhide R2) (fun k hk e => (unhide HB) k hk e.1))
 have Q3 := hide ((unhide Q2).trans q3.mod)
 have W3 := hide q3.ex
 clear q3 b3 HN2 B2 R2 HO2 Q2 c72 hlt2
 generalize hY : xs ++ planeB p ++ numB p.ep ++ numB (ss.length : Int) = Y at *
 have hYl : Y.length < 1099511601000 := by rw [← hY]; simp only [List.length_append]; omega
 have HY := hide hY
 clear hY
 go_wp2_with fail
 go_loopw [22] (fun s wr => ∃ i : Nat, s = .int .i64 i ∧ i ≤ ss.length ∧ Hid (∃ v, WrX (fun k => O k ∧ k ≠ w.heap.size) wr wb v (Y ++ fillsB now (ss.take i)) now) ∧ Hid (Mod (fun k => O k ∧ k ≠ w.heap.size) w3 wr)) (fun s _ => ss.length - (intOf s).toNat)
 case atStart => exact ⟨0, rfl, by omega, by rw [List.take_zero]; show Hid (∃ v, WrX _ w3 wb v (Y ++ []) now); rw [List.append_nil]; exact W3, Mod.refl _ _⟩
 case round =>
  obtain ⟨i, rfl, hi, W4, M4⟩ := hrel
  clear W3 c73 hlt3
  by_cases hlt : i < ss.length
  ·have hlt1 : (i : Int) < (ss.length : Int) := by omega
   obtain ⟨g, rfl, hg, d0, d1, d2, d3, d4, d5⟩ := fill_cells ((unhide M4).owns (unhide R3) (fun k hk e => (unhide HB) k hk e.1)) i hlt
   have hfit := (unhide HSS) ss[i] (List.getElem_mem hlt)
   have hfl := fillsB_len now (ss.take i)
   have HSN := hide (show fillsB now (ss.take (i + 1)) = fillsB now (ss.take i) ++ fillB now ss[i] from by rw [← fillsB_snoc, List.take_add_one, List.getElem?_eq_getElem hlt]; rfl)
   have htk : (ss.take i).length ≤ 120 := by rw [List.length_take]; omega
   generalize hsi : ss[i] = s at *
   have mB : Mod No wr (wr.alloc (.cells #[.int .i64 s.row, .int .i64 s.col, .int .i64 s.st, .int .i64 s.pa, .int .i64 s.cl, .int .i64 s.un] 180)) := (Mod.refl _ _).alloc _
   have HF := hide (wfill_any (O := fun k => O k ∧ k ≠ w.heap.size) (w := wr.alloc (.cells #[.int .i64 s.row, .int .i64 s.col, .int .i64 s.st, .int .i64 s.pa, .int .i64 s.cl, .int .i64 s.un] 180)) (by
    obtain ⟨v, hv⟩ := unhide W4
    exact ⟨v, hv.mod mB (fun _ _ x => x)⟩) (((unhide HO3).mod (unhide M4)).mod mB) (by simp only [List.length_append]; omega) s hfit)
   have MB := hide mB
   have H120 := hide hsl
   clear hsi hfit hfl htk mB
   go_wp2_with fail
   refine (unhide HF).mono ?_
   rintro e w5 ⟨rfl, q5⟩
   have W5 := hide q5.ex
   have M5 := hide (((unhide M4).trans ((unhide MB).mono fun _ _ x => x.elim)).trans q5.mod)
   have H12 := unhide H120
   clear q5 HF
   go_wp2
   refine ⟨⟨i + 1, rfl, by omega, ?_, M5⟩, by simp [intOf]; omega⟩
   rw [unhide HSN, ← List.append_assoc]
   exact W5
  ·have hlt1 : ¬ (i : Int) < (ss.length : Int) := by omega
   obtain rfl : i = ss.length := by omega
   have FIN : Wrote O w wr wb (xs ++ wholeB now p ss) now := by
    obtain ⟨v, hv⟩ := unhide W4
    rw [List.take_length, ← unhide HY] at hv
    refine ⟨⟨v, ?_⟩, ((unhide MA).mono fun _ _ x => x.elim).trans (((unhide Q3).trans (unhide M4)).mono fun _ _ q => q.1)⟩
    unfold wholeB
    rw [← List.append_assoc, ← List.append_assoc, ← List.append_assoc]
    exact hv.wide (fun k q => q.1)
   have FIN := hide FIN
   clear W4 M4
   go_wp2_with fail
   go_end0
   exact ⟨rfl, unhide FIN⟩
end Go.Proofs.Ythhibagcpjeihaa
