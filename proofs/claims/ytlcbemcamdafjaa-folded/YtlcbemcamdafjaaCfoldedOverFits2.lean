import Derived.Test.YtlcbemcamdafjaaCfoldedPg6Sts
/- Rows of seats: none is over its limits, each is behind the other. -/
namespace Go.Proofs.Ytlcbemcamdafjaa
open Go.RowKit
open M
set_option linter.unusedVariables false
set_option linter.unusedSimpArgs false
set_option maxRecDepth 100000
set_option maxHeartbeats 4000000

/-- Taken, in this class or a dearer one. -/
def takenIn (k : Int) (s : Sea) : Bool := (s.st == 1 || s.st == 2) && decide (k ≤ s.cl)

theorem taken_step (k : Int) (l : List Sea) (i : Nat) (hi : i < l.length) : (((l.take (i + 1)).countP (takenIn k) : Nat) : Int) = ((l.take i).countP (takenIn k) : Nat) + (if takenIn k l[i] then 1 else 0) := by
  rw [take_succ l i hi, List.countP_append]
  cases h : takenIn k l[i] <;> simp [h]

theorem over_no (g cap : Nat) (l : List Sea) (L0 L1 L2 L3 : Int) (w : World) (hr : RowS w g cap l) (hl : l.length ≤ 1000)
    (hL : ∀ k : Nat, k < 4 → ((l.countP (takenIn (k : Int)) : Nat) : Int) ≤ (match k with | 0 => L0 | 1 => L1 | 2 => L2 | _ => L3))
    (hS : ∀ i (h : i + 1 < l.length), l[i].row < l[i + 1].row ∨ (l[i].row = l[i + 1].row ∧ l[i].col < l[i + 1].col)) :
    Calls Try.prog 20 #[.slice (some ⟨g, 0, none⟩) l.length cap, .agg #[.int .i64 L0, .int .i64 L1, .int .i64 L2, .int .i64 L3]] w fun e w' => e = .returned (.bool false) ∧ Mod No w w' := by
  have mA : Mod No w (w.alloc (.cells #[.int .i64 L0, .int .i64 L1, .int .i64 L2, .int .i64 L3] 33)) := (Mod.refl _ w).alloc _
  have HR := hide (hr.mod mA (fun x => x))
  have HB := hide (Has.new w #[.int .i64 L0, .int .i64 L1, .int .i64 L2, .int .i64 L3] 33)
  have MA := hide mA
  have HL := hide hL
  have HS := hide hS
  clear hr hL hS mA
  go_enter Try.func20, Try.ntmps20
  go_wp2_with fail
  generalize w.alloc (.cells #[.int .i64 L0, .int .i64 L1, .int .i64 L2, .int .i64 L3] 33) = w1 at *
  generalize hbb : w.heap.size = bb at *
  clear hbb
  go_loopw [5] (fun s5 wx => ∃ k : Nat, s5 = .int .i64 (k : Int) ∧ k ≤ 4 ∧ wx = w1) (fun s5 _ => 4 - (intOf s5).toNat)
  case atStart => exact ⟨0, rfl, by omega, rfl⟩
  case round =>
    obtain ⟨k, rfl, hk, rfl⟩ := hrel
    by_cases hk4 : k < 4
    · have hk1 : (k : Int) < 4 := by omega
      have hw1 : IntKind.i64.wrap ((k : Int) + 1) = ((k + 1 : Nat) : Int) := by rw [wrap_id _ (by omega) (by omega)]; rfl
      go_wp2_with fail
      go_loopw [6, 7] (fun s6 s7 wx => ∃ i : Nat, s7 = .int .i64 (i : Int) ∧ i ≤ l.length ∧ s6 = .int .i64 (((l.take i).countP (takenIn (k : Int)) : Nat) : Int) ∧ wx = wr) (fun _ s7 _ => l.length - (intOf s7).toNat)
      case atStart => exact ⟨0, rfl, by omega, rfl, rfl⟩
      case round =>
        obtain ⟨i, rfl, hi, rfl, rfl⟩ := hrel
        by_cases hil : i < l.length
        · have hi1 : (i : Int) < (l.length : Int) := by omega
          have hi0 : (0 : Int) ≤ (i : Int) := by omega
          have hw2 : IntKind.i64.wrap ((i : Int) + 1) = ((i + 1 : Nat) : Int) := by rw [wrap_id _ (by omega) (by omega)]; rfl
          have hcp : (l.take i).countP (takenIn (k : Int)) ≤ 1000 := Nat.le_trans List.countP_le_length (by rw [List.length_take]; omega)
          have hw3 : IntKind.i64.wrap ((((l.take i).countP (takenIn (k : Int)) : Nat) : Int) + 1) = (((l.take i).countP (takenIn (k : Int)) : Nat) : Int) + 1 := wrap_id _ (by omega) (by omega)
          have hst := (unhide HR).st i hil
          have hcl := (unhide HR).cl i hil
          have hlt := (unhide HR).lt
          have HT := hide (taken_step (k : Int) l i hil)
          have HTK := hide (show takenIn (k : Int) l[i] = ((l[i].st == 1 || l[i].st == 2) && decide ((k : Int) ≤ l[i].cl)) from rfl)
          generalize l[i].st = st at *
          generalize l[i].cl = cl at *
          generalize takenIn (k : Int) l[i] = tk at *
          generalize (l.take i).countP (takenIn (k : Int)) = cnt at *
          have HI := hide hil
          have fin0 : tk = false → (((l.take (i + 1)).countP (takenIn (k : Int)) : Nat) : Int) = (cnt : Int) := fun h => by rw [unhide HT, h]; simp
          have fin1 : tk = true → (((l.take (i + 1)).countP (takenIn (k : Int)) : Nat) : Int) = (cnt : Int) + 1 := fun h => by rw [unhide HT, h]; simp
          have F0 := hide fin0
          have F1 := hide fin1
          clear fin0 fin1
          by_cases h1 : st = 1
          · subst h1
            by_cases h3 : (k : Int) ≤ cl
            · go_wp2
              exact ⟨⟨i + 1, rfl, unhide HI, by rw [(unhide F1) (by rw [unhide HTK]; simp [h3])], by trivial⟩, by simp [intOf]; have := unhide HI; omega⟩
            · go_wp2
              exact ⟨⟨i + 1, rfl, unhide HI, by rw [(unhide F0) (by rw [unhide HTK]; simp [h3])], by trivial⟩, by simp [intOf]; have := unhide HI; omega⟩
          · have b1 : (st == 1) = false := by simpa using h1
            by_cases h2 : st = 2
            · subst h2
              by_cases h3 : (k : Int) ≤ cl
              · go_wp2
                exact ⟨⟨i + 1, rfl, unhide HI, by rw [(unhide F1) (by rw [unhide HTK]; simp [h3])], by trivial⟩, by simp [intOf]; have := unhide HI; omega⟩
              · go_wp2
                exact ⟨⟨i + 1, rfl, unhide HI, by rw [(unhide F0) (by rw [unhide HTK]; simp [h3])], by trivial⟩, by simp [intOf]; have := unhide HI; omega⟩
            · have b2 : (st == 2) = false := by simpa using h2
              go_wp2
              exact ⟨⟨i + 1, rfl, unhide HI, by rw [(unhide F0) (by rw [unhide HTK, b1, b2]; rfl)], by trivial⟩, by simp [intOf]; have := unhide HI; omega⟩
        · have hi1 : ¬ (i : Int) < (l.length : Int) := by omega
          have e : i = l.length := by omega
          subst e
          rw [List.take_length]
          have hlim := (unhide HL) k hk4
          have HK4 := hide hk4
          have HW1 := hide hw1
          have bc := (unhide HB).cell
          have bl := (unhide HB).lt
          have : k = 0 ∨ k = 1 ∨ k = 2 ∨ k = 3 := by omega
          clear hk hw1
          rcases this with rfl | rfl | rfl | rfl <;> simp only at hlim
          · have hno : ¬ ((l.countP (takenIn ((0 : Nat) : Int)) : Nat) : Int) > L0 := by omega
            generalize ((l.countP (takenIn ((0 : Nat) : Int)) : Nat) : Int) = ct at *
            go_wp2
            exact ⟨⟨1, rfl, by omega, by trivial⟩, by simp [intOf]⟩
          · have hno : ¬ ((l.countP (takenIn ((1 : Nat) : Int)) : Nat) : Int) > L1 := by omega
            generalize ((l.countP (takenIn ((1 : Nat) : Int)) : Nat) : Int) = ct at *
            go_wp2
            exact ⟨⟨2, rfl, by omega, by trivial⟩, by simp [intOf]⟩
          · have hno : ¬ ((l.countP (takenIn ((2 : Nat) : Int)) : Nat) : Int) > L2 := by omega
            generalize ((l.countP (takenIn ((2 : Nat) : Int)) : Nat) : Int) = ct at *
            go_wp2
            exact ⟨⟨3, rfl, by omega, by trivial⟩, by simp [intOf]⟩
          · have hno : ¬ ((l.countP (takenIn ((3 : Nat) : Int)) : Nat) : Int) > L3 := by omega
            generalize ((l.countP (takenIn ((3 : Nat) : Int)) : Nat) : Int) = ct at *
            go_wp2
            exact ⟨⟨4, rfl, by omega, by trivial⟩, by simp [intOf]⟩
    · have hk1 : ¬ (k : Int) < 4 := by omega
      clear hk
      go_wp2_with fail
      go_loopw [8] (fun s8 wx => ∃ j : Nat, s8 = .int .i64 ((j : Int) + 1) ∧ j ≤ l.length ∧ Hid (Mod No wr wx)) (fun s8 _ => l.length + 1 - (intOf s8).toNat)
      case atStart => exact ⟨0, rfl, by omega, hide (Mod.refl _ _)⟩
      case round =>
        obtain ⟨j, rfl, hj, M⟩ := hrel
        have HR2 := hide ((unhide HR).mod (unhide M) (fun x => x))
        by_cases hjl : j + 1 < l.length
        · have hj1 : (j : Int) + 1 < (l.length : Int) := by omega
          have hj2 : (j : Int) < (l.length : Int) := by omega
          have t1 : ((j : Int) + 1).toNat = j + 1 := by omega
          have hwa : IntKind.i64.wrap ((j : Int) + 1 - 1) = (j : Int) := wrap_id _ (by omega) (by omega) |>.trans (by omega)
          have hwb : IntKind.i64.wrap (j : Int) = (j : Int) := wrap_id _ (by omega) (by omega)
          have hwc : IntKind.i64.wrap ((j : Int) + 1 + 1) = ((j + 1 : Nat) : Int) + 1 := by rw [wrap_id _ (by omega) (by omega)]; rfl
          have hr0 := (unhide HR2).row j (by omega)
          have hc0 := (unhide HR2).col j (by omega)
          have hr1 := (unhide HR2).row (j + 1) hjl
          have hc1 := (unhide HR2).col (j + 1) hjl
          have hlt := (unhide HR2).lt
          have hso := (unhide HS) j hjl
          generalize l[j].row = r0 at *
          generalize l[j].col = c0 at *
          generalize l[j + 1].row = r1 at *
          generalize l[j + 1].col = c1 at *
          have HJ := hide hjl
          rcases hso with hso | ⟨rfl, hso⟩
          · have g1 : ¬ r0 > r1 := by omega
            have g2 : (r0 == r1) = false := by simp; omega
            go_wp2
            exact ⟨⟨j + 1, rfl, by have := unhide HJ; omega, hide (((unhide M).alloc _).alloc _)⟩, by simp [intOf]; have := unhide HJ; omega⟩
          · have g1 : ¬ r0 > r0 := by omega
            have g2 : ¬ c0 ≥ c1 := by omega
            go_wp2
            exact ⟨⟨j + 1, rfl, by have := unhide HJ; omega, hide (((unhide M).alloc _).alloc _)⟩, by simp [intOf]; have := unhide HJ; omega⟩
        · have hj1 : ¬ (j : Int) + 1 < (l.length : Int) := by omega
          go_wp2
          go_ret
          exact ⟨rfl, (unhide MA).trans (unhide M)⟩
end Go.Proofs.Ytlcbemcamdafjaa
/- No class is sold above its limit: it stays so. -/
namespace Go.Proofs.Ytlcbemcamdafjaa
open Go.RowKit
open M
set_option linter.unusedVariables false
set_option linter.unusedSimpArgs false
set_option maxRecDepth 100000
set_option maxHeartbeats 2000000

/-- A question to a seat that asks not where it is, and that no free seat answers. -/
structure Ask (f : Sea → Bool) : Prop where
  full : ∀ s, f s = true → s.st ≠ 0
  at_ : ∀ s x, f (Sea.at s x) = f s

theorem Ask.free {f : Sea → Bool} (h : Ask f) {s : Sea} (h0 : s.st = 0) : f s = false := by
  cases hf : f s with
  | false => rfl
  | true => exact absurd h0 (h.full s hf)

def sold1 (f : Sea → Bool) (s : Sea) : Nat := if f s = true then 1 else 0

theorem count_put (f : Sea → Bool) (acc : List Sea) (j : Nat) (h : j < acc.length) (s : Sea) : (acc.set j s).countP f + sold1 f acc[j] = acc.countP f + sold1 f s := by
  have := countP_set f acc j h s
  unfold sold1
  cases h1 : f acc[j] <;> cases h2 : f s <;> simp [h1, h2] at this ⊢ <;> omega

theorem count_step (f : Sea → Bool) (l : List Sea) (i : Nat) (h : i < l.length) : (l.take (i + 1)).countP f = (l.take i).countP f + sold1 f l[i] := by
  rw [take_succ l i h, List.countP_append]
  unfold sold1
  cases hf : f l[i] <;> simp [hf]

theorem count_empty {f : Sea → Bool} (h : Ask f) (q : Pla) : (emptySeats q).countP f = 0 := by
  rw [List.countP_eq_zero]
  intro s hs
  simp only [emptySeats, List.mem_map] at hs
  obtain ⟨i, _, rfl⟩ := hs
  rw [h.free rfl]
  simp

theorem stay_count {f : Sea → Bool} (h : Ask f) {p q : Pla} {l : List Sea} (hwf : Wf p l) (h1 : q.sized = true) (h2 : q.limited = true) : ∀ i, i ≤ l.length → (stay q (l.take i)).countP f + (homeless q (l.take i)).countP f = (l.take i).countP f
  | 0, _ => by
    show (emptySeats q).countP f + 0 = 0
    rw [count_empty h]
  | i + 1, hi => by
    have ih := stay_count h hwf h1 h2 i (by omega)
    have hS := stayed_take hwf h1 h2 i (by omega)
    rw [stay_take q l i (by omega), homeless_take q l i (by omega), List.countP_append, count_step f l i (by omega)]
    unfold stayStep
    by_cases hc : l[i].st ≠ 0 ∧ q.has l[i].row l[i].col = true
    · rw [if_pos hc, if_neg (fun x => x.2 hc.2)]
      obtain ⟨hj, f0, _, _⟩ := hS.free hwf (by omega) hc.2
      have := count_put f (stay q (l.take i)) _ hj l[i]
      have e0 : sold1 f (stay q (l.take i))[q.idx l[i].row l[i].col] = 0 := by unfold sold1; rw [h.free f0]; rfl
      simp only [List.countP_nil]
      omega
    · rw [if_neg hc]
      by_cases h0 : l[i].st = 0
      · rw [if_neg (fun x => x.1 h0)]
        have e0 : sold1 f l[i] = 0 := by unfold sold1; rw [h.free h0]; rfl
        simp only [List.countP_nil]
        omega
      · rw [if_pos ⟨h0, fun x => hc ⟨h0, x⟩⟩]
        have : List.countP f [l[i]] = sold1 f l[i] := by
          unfold sold1
          cases hf : f l[i] <;> simp [hf]
        omega

theorem reseat_count {f : Sea → Bool} (h : Ask f) {q : Pla} : ∀ (hs acc : List Sea), (∀ s ∈ hs, s.wf ∧ s.st ≠ 0) → Reseat q acc hs.length → (hs.foldl reseatStep acc).countP f = acc.countP f + hs.countP f
  | [], acc, _, _ => by simp
  | s :: hs, acc, ho, hr => by
    have hr' : Reseat q acc (hs.length + 1) := hr
    have h1 := ho s (List.mem_cons_self)
    have ih := reseat_count h hs (reseatStep acc s) (fun x hx => ho x (List.mem_cons_of_mem _ hx)) (hr'.step h1.1 h1.2)
    have hl := firstFree_lt hr'
    have e : acc.getD (firstFree acc) noSea = acc[firstFree acc] := by
      rw [List.getD_eq_getElem?_getD, List.getElem?_eq_getElem hl]; rfl
    have hp := count_put f acc (firstFree acc) hl (Sea.at s acc[firstFree acc])
    have e0 : sold1 f acc[firstFree acc] = 0 := by unfold sold1; rw [h.free (firstFree_at hl)]; rfl
    have e1 : sold1 f (Sea.at s acc[firstFree acc]) = sold1 f s := by unfold sold1; rw [h.at_]
    have e2 : (reseatStep acc s).countP f = acc.countP f + sold1 f s := by
      unfold reseatStep
      rw [e]
      omega
    rw [List.foldl_cons, ih, e2, List.countP_cons]
    unfold sold1
    omega

theorem swap_count {f : Sea → Bool} (h : Ask f) {p q : Pla} {l : List Sea} (hwf : Wf p l) (h1 : q.sized = true) (h2 : q.limited = true) (hn : ¬ q.rows * q.cols < (nFull l : Int)) : (swapSeats q l).countP f = l.countP f := by
  unfold swapSeats
  rw [reseat_count h _ _ (homeless_ok hwf) (reseat_start hwf h1 h2 hn)]
  have := stay_count h hwf h1 h2 l.length (Nat.le_refl _)
  rw [List.take_length] at this
  exact this

theorem ask_from (k : Int) : Ask (takenIn k) := by
  refine ⟨fun s hs h0 => ?_, fun s x => rfl⟩
  unfold takenIn at hs
  rw [h0] at hs
  simp at hs

/-- No class of a flight is sold above its limit. -/
def FitL (p : Pla) (l : List Sea) : Prop := ∀ k : Nat, k < 4 → ((l.countP (takenIn (k : Int)) : Nat) : Int) ≤ p.lim k

theorem fit_empty {p : Pla} (h : p.limited = true) (q : Pla) (hq : ∀ k, q.lim k = p.lim k) : FitL q (emptySeats p) := by
  intro k hk
  rw [count_empty (ask_from k), hq]
  simp only [Pla.limited, decide_eq_true_eq] at h
  have : k = 0 ∨ k = 1 ∨ k = 2 ∨ k = 3 := by omega
  rcases this with rfl | rfl | rfl | rfl <;> simp [Pla.lim] <;> omega

theorem fit_swap {p q : Pla} {l : List Sea} (hf : FitL p l) (hwf : Wf p l) (h1 : q.sized = true) (h2 : (swapPla p q).limited = true) (hn : ¬ q.rows * q.cols < (nFull l : Int)) : FitL (swapPla p q) (swapSeats (swapPla p q) l) := by
  intro k hk
  rw [swap_count (q := swapPla p q) (ask_from k) hwf h1 h2 hn]
  exact hf k hk

theorem fit_tick {p : Pla} {l : List Sea} (hf : FitL p l) (now : Int) : FitL (tickP now p l) (tickSeats now l) := by
  intro k hk
  have h1 : (tickP now p l).lim k = p.lim k := by unfold tickP; split <;> rfl
  rw [h1]
  have h2 : (tickSeats now l).countP (takenIn k) ≤ l.countP (takenIn k) := by
    unfold tickSeats
    rw [List.countP_map]
    refine List.countP_mono_left fun s _ hs => ?_
    simp only [Function.comp] at hs
    split at hs
    · rw [(ask_from k).free rfl] at hs
      exact absurd hs (by simp)
    · exact hs
  have := hf k hk
  omega

theorem fit_le {p q : Pla} {l : List Sea} (hf : FitL p l) (hq : ∀ k, q.lim k = p.lim k) {j : Nat} (hj : j < l.length) (s : Sea) (hs : ∀ k : Nat, k < 4 → takenIn k s = true → takenIn k l[j] = true ∨ (l.countP (takenIn k) : Int) < p.lim k) : FitL q (l.set j s) := by
  intro k hk
  have h1 := count_put (takenIn k) l j hj s
  have h2 := hf k hk
  have h3 := hs k hk
  rw [hq]
  unfold sold1 at h1
  cases ha : takenIn k s with
  | false =>
    rw [ha] at h1
    simp at h1
    split at h1 <;> omega
  | true =>
    rw [ha, if_pos rfl] at h1
    rcases h3 ha with h4 | h4
    · rw [if_pos h4] at h1
      omega
    · split at h1 <;> omega
end Go.Proofs.Ytlcbemcamdafjaa
/- No class is sold above its limit: no command does so. -/
namespace Go.Proofs.Ytlcbemcamdafjaa
open Go.RowKit
open M
set_option linter.unusedVariables false
set_option linter.unusedSimpArgs false
set_option maxRecDepth 100000
set_option maxHeartbeats 2000000

theorem least_lt (p : Pla) (l : List Sea) : ∀ c k : Nat, k ≤ c → 0 < leastTo p l c → ((l.countP (takenIn (k : Int)) : Nat) : Int) < p.lim k
  | 0, k, hk, h => by
    obtain rfl : k = 0 := by omega
    have h' : 0 < min (nFree l : Int) (p.lim 0 - nFrom 0 l) := h
    have : (nFrom 0 l : Int) < p.lim 0 := by omega
    exact this
  | c + 1, k, hk, h => by
    have h' : 0 < min (leastTo p l c) (p.lim (c + 1) - nFrom ((c : Int) + 1) l) := h
    by_cases e : k = c + 1
    · subst e
      have : (nFrom ((c : Int) + 1) l : Int) < p.lim (c + 1) := by omega
      exact this
    · exact least_lt p l c k (by omega) (by omega)

theorem sale_fit {p : Pla} {l : List Sea} {st cls : Int} (h : saleN st (M.leftOf p l cls.toNat) = 0) (hc : 0 ≤ cls) (k : Nat) (hk : (k : Int) ≤ cls) : ((l.countP (takenIn (k : Int)) : Nat) : Int) < p.lim k := by
  unfold saleN at h
  by_cases h0 : st ≠ 0
  · rw [if_pos h0] at h; omega
  rw [if_neg h0] at h
  by_cases h1 : M.leftOf p l cls.toNat = 0
  · rw [if_pos h1] at h; omega
  unfold M.leftOf at h1
  exact least_lt p l cls.toNat k (by omega) (by omega)

theorem not_taken_freed (k : Int) (s : Sea) : takenIn k s.freed = false := (ask_from k).free rfl

theorem seat_fit {p : Pla} {l : List Sea} (hf : FitL p l) (hwf : Wf p l) (c : Cmd) (now : Int) (hk : 2 ≤ c.kind ∧ c.kind ≤ 9) (h : seatErr p l c now = 0) : FitL (planNew p c) (seatNew p l c) := by
  unfold seatErr at h
  unfold planNew seatNew
  by_cases k9 : c.kind = 9
  · rw [if_pos k9] at h ⊢
    rw [if_pos k9]
    by_cases hq : c.pla.sized = true ∧ ¬ (c.pla.rows * c.pla.cols < (nFull l : Int))
    · exact fit_swap hf hwf hq.1 hwf.limited hq.2
    · rw [if_neg hq] at h; omega
  rw [if_neg k9] at h ⊢
  rw [if_neg k9]
  by_cases hh : p.has c.ar c.ac = false ∨ (c.kind = 5 ∧ p.has c.tr c.tc = false)
  · rw [if_pos hh] at h; omega
  rw [if_neg hh] at h
  have ha : p.has c.ar c.ac = true := by
    cases e : p.has c.ar c.ac with
    | true => rfl
    | false => exact absurd (Or.inl e) hh
  obtain ⟨hj, hs, _, _⟩ := seatAt_eq hwf ha
  by_cases k2 : c.kind = 2
  · rw [if_pos k2] at h ⊢
    by_cases hb : buyer c ≠ 0
    · rw [if_pos hb] at h; exact absurd h hb
    rw [if_neg hb] at h
    by_cases ht : c.time ≤ now ∨ c.time > now + 100
    · rw [if_pos ht] at h; omega
    rw [if_neg ht] at h
    have hc := buyer_ok (c := c) (by omega)
    refine fit_le hf (fun _ => rfl) hj _ fun k _ ht => .inr (sale_fit h hc.1 k ?_)
    simpa [takenIn] using ht
  rw [if_neg k2] at h ⊢
  by_cases k3 : c.kind = 3
  · rw [if_pos k3] at h ⊢
    by_cases hb : buyer c ≠ 0
    · rw [if_pos hb] at h; exact absurd h hb
    rw [if_neg hb] at h
    have hc := buyer_ok (c := c) (by omega)
    by_cases hm : (seatAt p l c.ar c.ac).st = 1 ∧ (seatAt p l c.ar c.ac).pa = c.party ∧ (seatAt p l c.ar c.ac).cl = c.cls
    · refine fit_le hf (fun _ => rfl) hj _ fun k _ ht => .inl ?_
      rw [← hs]
      have : (k : Int) ≤ c.cls := by simpa [takenIn] using ht
      simp [takenIn, hm.1, hm.2.2, this]
    · rw [if_neg hm] at h
      refine fit_le hf (fun _ => rfl) hj _ fun k _ ht => .inr (sale_fit h hc.1 k ?_)
      simpa [takenIn] using ht
  rw [if_neg k3] at h ⊢
  have hfree : ∀ s : Sea, FitL p (l.set (p.idx c.ar c.ac) s.freed) := fun s => fit_le hf (fun _ => rfl) hj _ fun k _ ht => by
    rw [not_taken_freed] at ht
    exact absurd ht (by simp)
  have hfree' : ∀ s : Sea, FitL p.next (l.set (p.idx c.ar c.ac) s.freed) := fun s => hfree s
  by_cases k5 : c.kind = 5
  · rw [if_pos k5]
    have hb : p.has c.tr c.tc = true := by
      cases e : p.has c.tr c.tc with
      | true => rfl
      | false => exact absurd (Or.inr ⟨k5, e⟩) hh
    have hi : p.idx c.tr c.tc < (l.set (p.idx c.ar c.ac) (seatAt p l c.ar c.ac).freed).length := by rw [List.length_set]; exact Fli.wf.idx_lt hwf hb
    refine fit_le (hfree _) (fun _ => rfl) hi _ fun k hk4 ht => .inr ?_
    have ht' : takenIn k (seatAt p l c.ar c.ac) = true := ht
    have h1 := count_put (takenIn k) l _ hj (seatAt p l c.ar c.ac).freed
    have h2 := hf k hk4
    unfold sold1 at h1
    rw [← hs, ht', if_pos rfl, not_taken_freed] at h1
    simp at h1
    omega
  rw [if_neg k5]
  by_cases k6 : c.kind = 6
  · rw [if_pos k6]
    refine fit_le hf (fun _ => rfl) hj _ fun k _ ht => ?_
    simp [takenIn] at ht
  rw [if_neg k6]
  exact hfree' _

theorem seat_lims (p : Pla) (c : Cmd) (k : Nat) : (planNew p c).lim k = p.lim k := by
  unfold planNew
  split <;> (unfold Pla.lim; cases k with | zero => rfl | succ k => cases k with | zero => rfl | succ k => cases k <;> rfl)

/-- All flights are within their limits. -/
def FitK (fl : Nat → Option (Pla × List Sea)) : Prop := ∀ n, n < 21 → ∀ p l, fl n = some (p, l) → Wf p l ∧ FitL p l

theorem doK_fit {fl : Nat → Option (Pla × List Sea)} (now : Int) (c : Cmd) (hF : FitK fl) (n : Nat) (hn : n < 21) (p : Pla) (l : List Sea) (h : (doK now fl c).2.2 n = some (p, l)) : FitL p l := by
  unfold doK at h
  by_cases k0 : c.kind < 1 ∨ c.kind > 9
  · rw [if_pos k0] at h; exact (hF n hn p l h).2
  rw [if_neg k0] at h
  by_cases k8 : c.kind = 8
  · rw [if_pos k8] at h
    by_cases ht : 1 ≤ c.time ∧ c.time ≤ 100
    · rw [if_pos ht] at h
      simp only [Option.map_eq_some_iff] at h
      obtain ⟨⟨p', l'⟩, h1, h2⟩ := h
      have h3 := (hF n hn p' l' h1).2
      unfold tickF at h2
      injection h2 with e1 e2
      subst e1 e2
      exact fit_tick h3 _
    · rw [if_neg ht] at h; exact (hF n hn p l h).2
  rw [if_neg k8] at h
  by_cases hfl : ¬ (1 ≤ c.flight ∧ c.flight ≤ 20)
  · rw [if_pos hfl] at h; exact (hF n hn p l h).2
  rw [if_neg hfl] at h
  cases hc : fl c.flight.toNat with
  | none =>
    rw [hc] at h
    simp only at h
    by_cases k1 : c.kind = 1
    · rw [if_pos k1] at h
      by_cases hp : c.pla.sized = true ∧ c.pla.limited = true
      · rw [if_pos hp] at h
        simp only at h
        by_cases e : n = c.flight.toNat
        · rw [if_pos e] at h
          injection h with h
          injection h with e1 e2
          subst e1 e2
          exact fit_empty hp.2 _ (fun k => by cases k with | zero => rfl | succ k => cases k with | zero => rfl | succ k => cases k <;> rfl)
        · rw [if_neg e] at h; exact (hF n hn p l h).2
      · rw [if_neg hp] at h; exact (hF n hn p l h).2
    · rw [if_neg k1] at h; exact (hF n hn p l h).2
  | some x =>
    rw [hc] at h
    simp only at h
    by_cases k1 : c.kind = 1
    · rw [if_pos k1] at h; exact (hF n hn p l h).2
    rw [if_neg k1] at h
    by_cases he : seatErr x.1 x.2 c now = 0
    · rw [if_pos he] at h
      simp only at h
      by_cases e : n = c.flight.toNat
      · rw [if_pos e] at h
        injection h with h
        injection h with e1 e2
        subst e1 e2
        obtain ⟨h1, h2⟩ := hF _ (by omega) x.1 x.2 hc
        exact seat_fit h2 h1 c now (by omega) he
      · rw [if_neg e] at h; exact (hF n hn p l h).2
    · rw [if_neg he] at h; exact (hF n hn p l h).2
end Go.Proofs.Ytlcbemcamdafjaa
