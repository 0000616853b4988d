import Derived.Test.YtlcbemcamdafjaaCrecountedCountedFits
import Derived.Test.YtlcbemcamdafjaaCrecountedCellsTape
import Derived.Handy
/- No class is sold above its limit: no command does so. -/
namespace Go.Proofs.Ytlcbemcamdafjaa
open Go.RowKit
open M
set_option linter.unusedVariables false
set_option linter.unusedSimpArgs false
set_option maxRecDepth 100000
set_option maxHeartbeats 2000000

theorem least_lt (p : Pla) (l : List Sea) : ∀ c k : Nat, k ≤ c → 0 < leastTo p l c → ((l.countP (takenIn (k : Int)) : Nat) : Int) < p.lim k
  | 0, k, hk, h => by
    obtain rfl : k = 0 := by omega
    have h' : 0 < min (nFree l : Int) (p.lim 0 - nFrom 0 l) := h
    have : (nFrom 0 l : Int) < p.lim 0 := by omega
    exact this
  | c + 1, k, hk, h => by
    have h' : 0 < min (leastTo p l c) (p.lim (c + 1) - nFrom ((c : Int) + 1) l) := h
    by_cases e : k = c + 1
    · subst e
      have : (nFrom ((c : Int) + 1) l : Int) < p.lim (c + 1) := by omega
      exact this
    · exact least_lt p l c k (by omega) (by omega)

theorem sale_fit {p : Pla} {l : List Sea} {st cls : Int} (h : saleN st (M.leftOf p l cls.toNat) = 0) (hc : 0 ≤ cls) (k : Nat) (hk : (k : Int) ≤ cls) : ((l.countP (takenIn (k : Int)) : Nat) : Int) < p.lim k := by
  unfold saleN at h
  by_cases h0 : st ≠ 0
  · rw [if_pos h0] at h; omega
  rw [if_neg h0] at h
  by_cases h1 : M.leftOf p l cls.toNat = 0
  · rw [if_pos h1] at h; omega
  unfold M.leftOf at h1
  exact least_lt p l cls.toNat k (by omega) (by omega)

theorem not_taken_freed (k : Int) (s : Sea) : takenIn k s.freed = false := (ask_from k).free rfl

theorem seat_fit {p : Pla} {l : List Sea} (hf : FitL p l) (hwf : Wf p l) (c : Cmd) (now : Int) (hk : 2 ≤ c.kind ∧ c.kind ≤ 9) (h : seatErr p l c now = 0) : FitL (planNew p c) (seatNew p l c) := by
  unfold seatErr at h
  unfold planNew seatNew
  by_cases k9 : c.kind = 9
  · rw [if_pos k9] at h ⊢
    rw [if_pos k9]
    by_cases hq : c.pla.sized = true ∧ ¬ (c.pla.rows * c.pla.cols < (nFull l : Int))
    · exact fit_swap hf hwf hq.1 hwf.limited hq.2
    · rw [if_neg hq] at h; omega
  rw [if_neg k9] at h ⊢
  rw [if_neg k9]
  by_cases hh : p.has c.ar c.ac = false ∨ (c.kind = 5 ∧ p.has c.tr c.tc = false)
  · rw [if_pos hh] at h; omega
  rw [if_neg hh] at h
  have ha : p.has c.ar c.ac = true := by
    cases e : p.has c.ar c.ac with
    | true => rfl
    | false => exact absurd (Or.inl e) hh
  obtain ⟨hj, hs, _, _⟩ := seatAt_eq hwf ha
  by_cases k2 : c.kind = 2
  · rw [if_pos k2] at h ⊢
    by_cases hb : buyer c ≠ 0
    · rw [if_pos hb] at h; exact absurd h hb
    rw [if_neg hb] at h
    by_cases ht : c.time ≤ now ∨ c.time > now + 100
    · rw [if_pos ht] at h; omega
    rw [if_neg ht] at h
    have hc := buyer_ok (c := c) (by omega)
    refine fit_le hf (fun _ => rfl) hj _ fun k _ ht => .inr (sale_fit h hc.1 k ?_)
    simpa [takenIn] using ht
  rw [if_neg k2] at h ⊢
  by_cases k3 : c.kind = 3
  · rw [if_pos k3] at h ⊢
    by_cases hb : buyer c ≠ 0
    · rw [if_pos hb] at h; exact absurd h hb
    rw [if_neg hb] at h
    have hc := buyer_ok (c := c) (by omega)
    by_cases hm : (seatAt p l c.ar c.ac).st = 1 ∧ (seatAt p l c.ar c.ac).pa = c.party ∧ (seatAt p l c.ar c.ac).cl = c.cls
    · refine fit_le hf (fun _ => rfl) hj _ fun k _ ht => .inl ?_
      rw [← hs]
      have : (k : Int) ≤ c.cls := by simpa [takenIn] using ht
      simp [takenIn, hm.1, hm.2.2, this]
    · rw [if_neg hm] at h
      refine fit_le hf (fun _ => rfl) hj _ fun k _ ht => .inr (sale_fit h hc.1 k ?_)
      simpa [takenIn] using ht
  rw [if_neg k3] at h ⊢
  have hfree : ∀ s : Sea, FitL p (l.set (p.idx c.ar c.ac) s.freed) := fun s => fit_le hf (fun _ => rfl) hj _ fun k _ ht => by
    rw [not_taken_freed] at ht
    exact absurd ht (by simp)
  have hfree' : ∀ s : Sea, FitL p.next (l.set (p.idx c.ar c.ac) s.freed) := fun s => hfree s
  by_cases k5 : c.kind = 5
  · rw [if_pos k5]
    have hb : p.has c.tr c.tc = true := by
      cases e : p.has c.tr c.tc with
      | true => rfl
      | false => exact absurd (Or.inr ⟨k5, e⟩) hh
    have hi : p.idx c.tr c.tc < (l.set (p.idx c.ar c.ac) (seatAt p l c.ar c.ac).freed).length := by rw [List.length_set]; exact Fli.wf.idx_lt hwf hb
    refine fit_le (hfree _) (fun _ => rfl) hi _ fun k hk4 ht => .inr ?_
    have ht' : takenIn k (seatAt p l c.ar c.ac) = true := ht
    have h1 := count_put (takenIn k) l _ hj (seatAt p l c.ar c.ac).freed
    have h2 := hf k hk4
    unfold sold1 at h1
    rw [← hs, ht', if_pos rfl, not_taken_freed] at h1
    simp at h1
    omega
  rw [if_neg k5]
  by_cases k6 : c.kind = 6
  · rw [if_pos k6]
    refine fit_le hf (fun _ => rfl) hj _ fun k _ ht => ?_
    simp [takenIn] at ht
  rw [if_neg k6]
  exact hfree' _

theorem seat_lims (p : Pla) (c : Cmd) (k : Nat) : (planNew p c).lim k = p.lim k := by
  unfold planNew
  split <;> (unfold Pla.lim; cases k with | zero => rfl | succ k => cases k with | zero => rfl | succ k => cases k <;> rfl)

/-- All flights are within their limits. -/
def FitK (fl : Nat → Option (Pla × List Sea)) : Prop := ∀ n, n < 21 → ∀ p l, fl n = some (p, l) → Wf p l ∧ FitL p l

theorem doK_fit {fl : Nat → Option (Pla × List Sea)} (now : Int) (c : Cmd) (hF : FitK fl) (n : Nat) (hn : n < 21) (p : Pla) (l : List Sea) (h : (doK now fl c).2.2 n = some (p, l)) : FitL p l := by
  unfold doK at h
  by_cases k0 : c.kind < 1 ∨ c.kind > 9
  · rw [if_pos k0] at h; exact (hF n hn p l h).2
  rw [if_neg k0] at h
  by_cases k8 : c.kind = 8
  · rw [if_pos k8] at h
    by_cases ht : 1 ≤ c.time ∧ c.time ≤ 100
    · rw [if_pos ht] at h
      simp only [Option.map_eq_some_iff] at h
      obtain ⟨⟨p', l'⟩, h1, h2⟩ := h
      have h3 := (hF n hn p' l' h1).2
      unfold tickF at h2
      injection h2 with e1 e2
      subst e1 e2
      exact fit_tick h3 _
    · rw [if_neg ht] at h; exact (hF n hn p l h).2
  rw [if_neg k8] at h
  by_cases hfl : ¬ (1 ≤ c.flight ∧ c.flight ≤ 20)
  · rw [if_pos hfl] at h; exact (hF n hn p l h).2
  rw [if_neg hfl] at h
  cases hc : fl c.flight.toNat with
  | none =>
    rw [hc] at h
    simp only at h
    by_cases k1 : c.kind = 1
    · rw [if_pos k1] at h
      by_cases hp : c.pla.sized = true ∧ c.pla.limited = true
      · rw [if_pos hp] at h
        simp only at h
        by_cases e : n = c.flight.toNat
        · rw [if_pos e] at h
          injection h with h
          injection h with e1 e2
          subst e1 e2
          exact fit_empty hp.2 _ (fun k => by cases k with | zero => rfl | succ k => cases k with | zero => rfl | succ k => cases k <;> rfl)
        · rw [if_neg e] at h; exact (hF n hn p l h).2
      · rw [if_neg hp] at h; exact (hF n hn p l h).2
    · rw [if_neg k1] at h; exact (hF n hn p l h).2
  | some x =>
    rw [hc] at h
    simp only at h
    by_cases k1 : c.kind = 1
    · rw [if_pos k1] at h; exact (hF n hn p l h).2
    rw [if_neg k1] at h
    by_cases he : seatErr x.1 x.2 c now = 0
    · rw [if_pos he] at h
      simp only at h
      by_cases e : n = c.flight.toNat
      · rw [if_pos e] at h
        injection h with h
        injection h with e1 e2
        subst e1 e2
        obtain ⟨h1, h2⟩ := hF _ (by omega) x.1 x.2 hc
        exact seat_fit h2 h1 c now (by omega) he
      · rw [if_neg e] at h; exact (hF n hn p l h).2
    · rw [if_neg he] at h; exact (hF n hn p l h).2
end Go.Proofs.Ytlcbemcamdafjaa
/- A command is done, and the limits are kept in mind: which. -/
namespace Go.Proofs.Ytlcbemcamdafjaa
open Go.RowKit
open Go.ChangeMaps (setBlock)
open M
set_option linter.unusedVariables false
set_option linter.unusedSimpArgs false
set_option maxRecDepth 100000
set_option maxHeartbeats 2000000

/-- The limits kept in mind are those of the flights. -/
def LimR (cs : Array Value) (fl : Nat → Option (Pla × List Sea)) : Prop := ∀ n, n < 21 → ∀ p l, fl n = some (p, l) → ∀ k, k < 4 → cs[n * 4 + k]? = some (.int .i64 (p.lim k))

def set4 (cs : Array Value) (n : Nat) (p : Pla) : Array Value := (((cs.setIfInBounds (n * 4) (.int .i64 p.l0)).setIfInBounds (n * 4 + 1) (.int .i64 p.l1)).setIfInBounds (n * 4 + 2) (.int .i64 p.l2)).setIfInBounds (n * 4 + 3) (.int .i64 p.l3)

theorem lim_at (p : Pla) (e : Int) (k : Nat) : (p.at e).lim k = p.lim k := by
  cases k with | zero => rfl | succ k => cases k with | zero => rfl | succ k => cases k <;> rfl

theorem lim_tick (now : Int) (p : Pla) (l : List Sea) (k : Nat) : (tickP now p l).lim k = p.lim k := by
  unfold tickP
  split
  · cases k with | zero => rfl | succ k => cases k with | zero => rfl | succ k => cases k <;> rfl
  · rfl

/-- No flight's limits turn but by the flight's beginning. -/
theorem doK_lim0 {fl : Nat → Option (Pla × List Sea)} (now : Int) (c : Cmd) (cs : Array Value) (hne : ¬ ((doK now fl c).1 = 0 ∧ c.kind = 1)) (h : LimR cs fl) : LimR cs (doK now fl c).2.2 := by
  intro n hn p l hp k hk
  unfold doK at hp hne
  by_cases k0 : c.kind < 1 ∨ c.kind > 9
  · rw [if_pos k0] at hp; exact h n hn p l hp k hk
  rw [if_neg k0] at hp hne
  by_cases k8 : c.kind = 8
  · rw [if_pos k8] at hp
    by_cases ht : 1 ≤ c.time ∧ c.time ≤ 100
    · rw [if_pos ht] at hp
      simp only [Option.map_eq_some_iff] at hp
      obtain ⟨⟨p', l'⟩, h1, h2⟩ := hp
      have h3 := h n hn p' l' h1 k hk
      unfold tickF at h2
      injection h2 with e1 e2
      subst e1 e2
      rw [lim_tick]
      exact h3
    · rw [if_neg ht] at hp; exact h n hn p l hp k hk
  rw [if_neg k8] at hp hne
  by_cases hfl : ¬ (1 ≤ c.flight ∧ c.flight ≤ 20)
  · rw [if_pos hfl] at hp; exact h n hn p l hp k hk
  rw [if_neg hfl] at hp hne
  cases hc : fl c.flight.toNat with
  | none =>
    rw [hc] at hp hne
    simp only at hp hne
    by_cases k1 : c.kind = 1
    · rw [if_pos k1] at hp hne
      by_cases hq : c.pla.sized = true ∧ c.pla.limited = true
      · rw [if_pos hq] at hne
        exact absurd ⟨rfl, k1⟩ hne
      · rw [if_neg hq] at hp; exact h n hn p l hp k hk
    · rw [if_neg k1] at hp; exact h n hn p l hp k hk
  | some x =>
    rw [hc] at hp
    simp only at hp
    by_cases k1 : c.kind = 1
    · rw [if_pos k1] at hp; exact h n hn p l hp k hk
    rw [if_neg k1] at hp
    by_cases he : seatErr x.1 x.2 c now = 0
    · rw [if_pos he] at hp
      simp only at hp
      by_cases e : n = c.flight.toNat
      · rw [if_pos e] at hp
        injection hp with hp
        injection hp with e1 e2
        subst e1 e2
        rw [seat_lims, e]
        exact h _ (by omega) x.1 x.2 hc k hk
      · rw [if_neg e] at hp; exact h n hn p l hp k hk
    · rw [if_neg he] at hp; exact h n hn p l hp k hk

theorem set4_at (cs : Array Value) (hs : cs.size = 84) (n : Nat) (hn : n < 21) (p : Pla) (k : Nat) (hk : k < 4) : (set4 cs n p)[n * 4 + k]? = some (.int .i64 (p.lim k)) := by
  unfold set4
  have : k = 0 ∨ k = 1 ∨ k = 2 ∨ k = 3 := by omega
  rcases this with rfl | rfl | rfl | rfl <;> simp [Array.getElem?_setIfInBounds, Pla.lim, hs] <;> omega

theorem set4_ne (cs : Array Value) (n m : Nat) (p : Pla) (k : Nat) (hk : k < 4) (h : m ≠ n) : (set4 cs n p)[m * 4 + k]? = cs[m * 4 + k]? := by
  unfold set4
  rw [Array.getElem?_setIfInBounds_ne (by omega), Array.getElem?_setIfInBounds_ne (by omega), Array.getElem?_setIfInBounds_ne (by omega), Array.getElem?_setIfInBounds_ne (by omega)]

theorem doK_lim1 {fl : Nat → Option (Pla × List Sea)} (now : Int) (c : Cmd) (cs : Array Value) (hs : cs.size = 84) (h0 : (doK now fl c).1 = 0) (k1 : c.kind = 1) (h : LimR cs fl) : LimR (set4 cs c.flight.toNat c.pla) (doK now fl c).2.2 := by
  intro n hn p l hp k hk
  unfold doK at hp h0
  rw [if_neg (by omega), if_neg (by omega)] at hp h0
  by_cases hfl : ¬ (1 ≤ c.flight ∧ c.flight ≤ 20)
  · rw [if_pos hfl] at h0; exact absurd h0 (by simp)
  rw [if_neg hfl] at hp h0
  cases hc : fl c.flight.toNat with
  | none =>
    rw [hc] at hp h0
    simp only [if_pos k1] at hp h0
    by_cases hq : c.pla.sized = true ∧ c.pla.limited = true
    · rw [if_pos hq] at hp
      simp only at hp
      by_cases e : n = c.flight.toNat
      · rw [if_pos e] at hp
        injection hp with hp
        injection hp with e1 e2
        subst e1 e2
        rw [lim_at, e]
        exact set4_at cs hs _ (by omega) c.pla k hk
      · rw [if_neg e] at hp
        rw [set4_ne cs _ n c.pla k hk e]
        exact h n hn p l hp k hk
    · rw [if_neg hq] at h0; exact absurd h0 (by simp)
  | some x =>
    rw [hc] at h0
    simp only [if_pos k1] at h0
    exact absurd h0 (by simp)

structure DoesL (w w' : World) (ow : Nat → Nat) (kb lb : Nat) (cs0 : Array Value) (fl0 : Nat → Option (Pla × List Sea)) (now : Int) (fl : Nat → Option (Pla × List Sea)) : Prop where
  keep : ∃ ow', KeepH w' ow' kb now fl ∧ ∀ k, k < w.heap.size → ow' k = ow k
  lim : ∃ cs, cs.size = 84 ∧ Has w' lb cs 97 ∧ (LimR cs0 fl0 → LimR cs fl)
  mod : Mod (fun k => ow k ≠ 0 ∨ k = lb) w w'

theorem doesL_any {w : World} {ow : Nat → Nat} {kb lb : Nat} {now : Int} {fl : Nat → Option (Pla × List Sea)} (h : KeepH w ow kb now fl) (hn : 0 ≤ now ∧ now ≤ 4611686018427387000) (c : Cmd) (cs : Array Value) (hs : cs.size = 84) (hb : Has w lb cs 97) (hol : ow lb = 0) :
    Calls Try.prog 16 #[.pointer (some ⟨kb, 0, none⟩), .agg (cmdCells c), .pointer (some ⟨lb, 0, none⟩)] w fun e w' =>
      e = .returned (.int .i64 (doK now fl c).1) ∧ DoesL w w' ow kb lb cs fl (doK now fl c).2.1 (doK now fl c).2.2 := by
  have hlb := hb.lt
  have HD := hide (do_any (h.mod ((Mod.refl No w).alloc (.cells (cmdCells c) 37)) (fun _ _ x => x)) hn c)
  have HB := hide (hb.alloc (.cells (cmdCells c) 37))
  have HC := hide (Has.new w (cmdCells c) 37)
  have M0 := hide ((Mod.refl No w).alloc (.cells (cmdCells c) 37))
  have HO := hide (show ow w.heap.size = 0 from by
    obtain ⟨pt, hx⟩ := h
    by_cases e : ow w.heap.size = 0
    · exact e
    · have := hx.old _ e; omega)
  have HA := hide fun (q : (doK now fl c).1 = 0) (r : c.kind = 1) => doK_add q r
  have HL0 := hide (doK_lim0 (fl := fl) now c cs)
  have HL1 := hide (doK_lim1 (fl := fl) now c cs hs)
  generalize doK now fl c = D at *
  obtain ⟨r, now', fl'⟩ := D
  simp only at *
  clear h hb
  unfold cmdCells at *
  go_enter Try.func16, Try.ntmps16
  go_wp2_with fail
  refine (unhide HD).mono ?_
  rintro e w2 ⟨rfl, ⟨ow', k2, ho⟩, m2⟩
  have b2 := m2.has (unhide HB) (by simp [hol])
  have c2 := m2.has (unhide HC) (by simp [unhide HO])
  have cc := c2.cell
  have M2 := hide (((unhide M0).mono (S' := fun k => ow k ≠ 0) (fun _ _ x => x.elim)).trans m2)
  have K2 := hide k2
  have HO2 := hide (fun k hk => ho k hk)
  have B2 := hide b2
  have lc2 := c2.lt
  have lb2 := b2.lt
  clear k2 ho m2 b2 c2 HD HB HC M0
  have R0 : ¬ (r = 0 ∧ c.kind = 1) → DoesL w w2 ow kb lb cs fl now' fl' := fun hne => ⟨⟨ow', unhide K2, fun k hk => (unhide HO2) k (by simp; omega)⟩, ⟨cs, hs, unhide B2, (unhide HL0) hne⟩, (unhide M2).mono (fun _ _ x => .inl x)⟩
  have R0 := hide R0
  by_cases h0 : r = 0
  case neg =>
    have RZ := hide ((unhide R0) (fun x => h0 x.1))
    clear K2 HO2 B2 M2 HA HL0 HL1 R0
    have e0 : (r == 0) = false := by simp [h0]
    go_wp2
    go_ret
    exact ⟨rfl, unhide RZ⟩
  by_cases h1 : c.kind = 1
  case neg =>
    have RZ := hide ((unhide R0) (fun x => h1 x.2))
    clear K2 HO2 B2 M2 HA HL0 HL1 R0
    have e1 : (c.kind == 1) = false := by simp [h1]
    subst h0
    go_wp2
    go_ret
    exact ⟨rfl, unhide RZ⟩
  obtain ⟨f1, f2⟩ := (unhide HA) h0 h1
  obtain ⟨n, hfn⟩ : ∃ n : Nat, c.flight = (n : Int) := ⟨c.flight.toNat, by omega⟩
  subst h0
  have e1 : (c.kind == 1) = true := by simp [h1]
  rw [hfn] at cc f1 f2
  have i21 : (n : Int) < 21 := by omega
  have i0 : (0 : Int) ≤ n := by omega
  have fz := (unhide B2).frozen
  obtain ⟨v0, g0⟩ : ∃ v, w2.cell? ⟨lb, n * 4, none⟩ = some v := ⟨_, by rw [(unhide B2).cell, Array.getElem?_eq_getElem (by omega)]⟩
  obtain ⟨v1, g1⟩ : ∃ v, w2.cell? ⟨lb, n * 4 + 1, none⟩ = some v := ⟨_, by rw [(unhide B2).cell, Array.getElem?_eq_getElem (by omega)]⟩
  obtain ⟨v2, g2⟩ : ∃ v, w2.cell? ⟨lb, n * 4 + 2, none⟩ = some v := ⟨_, by rw [(unhide B2).cell, Array.getElem?_eq_getElem (by omega)]⟩
  obtain ⟨v3, g3⟩ : ∃ v, w2.cell? ⟨lb, n * 4 + 3, none⟩ = some v := ⟨_, by rw [(unhide B2).cell, Array.getElem?_eq_getElem (by omega)]⟩
  have hp : ∀ o, (fun k => ow k ≠ 0 ∨ k = lb) (⟨lb, o, none⟩ : Addr).block ∨ w.heap.size ≤ (⟨lb, o, none⟩ : Addr).block := fun o => .inl (.inr rfl)
  have hq : ∀ o, (fun k => k = lb) (⟨lb, o, none⟩ : Addr).block ∨ w2.heap.size ≤ (⟨lb, o, none⟩ : Addr).block := fun o => .inl rfl
  have ol : ow' lb = 0 := by rw [(unhide HO2) lb (by simp; omega)]; exact hol
  have R1 := hide (show DoesL w ((((w2.setCell ⟨lb, n * 4, none⟩ (.int .i64 c.pla.l0)).setCell ⟨lb, n * 4 + 1, none⟩ (.int .i64 c.pla.l1)).setCell ⟨lb, n * 4 + 2, none⟩ (.int .i64 c.pla.l2)).setCell ⟨lb, n * 4 + 3, none⟩ (.int .i64 c.pla.l3)).drew ow kb lb cs fl now' fl' from
    ⟨⟨ow', (unhide K2).mod (((((Mod.refl (fun k => k = lb) w2).setCell (hq _) _).setCell (hq _) _).setCell (hq _) _).setCell (hq _) _).drew (fun k hk e => by subst e; exact hk ol), fun k hk => (unhide HO2) k (by simp; omega)⟩,
     ⟨set4 cs n c.pla, by unfold set4; simpa using hs, ((((((unhide B2).set (n * 4) _).set (n * 4 + 1) _).set (n * 4 + 2) _).set (n * 4 + 3) _)).drew, fun hl => by
       have := (unhide HL1) rfl h1 hl
       rw [show c.flight.toNat = n by omega] at this
       exact this⟩,
     (((((((unhide M2).mono (fun _ _ x => .inl x)).setCell (hp _) _).setCell (hp _) _).setCell (hp _) _).setCell (hp _) _)).drew⟩)
  clear K2 HO2 B2 M2 HA R0 HL0 HL1
  go_wp2_with fail
  go_region
  all_goals go_wp2
  all_goals go_ret
  all_goals exact ⟨rfl, unhide R1⟩
end Go.Proofs.Ytlcbemcamdafjaa
