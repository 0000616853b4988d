import Derived.Test.YtlcbemcamdafjaaCfoldedBegunPg1
import Derived.Test.YtlcbemcamdafjaaCfoldedOverFits2
import Derived.Test.YtlcbemcamdafjaaCfoldedCellsSwap5
import Derived.Handy
import Derived.Test.YtlcbemcamdafjaaCfoldedFol6Fol7
/- A command is done, and the limits are kept in mind: which. -/
namespace Go.Proofs.Ytlcbemcamdafjaa
open Go.RowKit
open Go.ChangeMaps (setBlock)
open M
set_option linter.unusedVariables false
set_option linter.unusedSimpArgs false
set_option maxRecDepth 100000
set_option maxHeartbeats 2000000

/-- The limits kept in mind are those of the flights. -/
def LimR (cs : Array Value) (fl : Nat → Option (Pla × List Sea)) : Prop := ∀ n, n < 21 → ∀ p l, fl n = some (p, l) → ∀ k, k < 4 → cs[n * 4 + k]? = some (.int .i64 (p.lim k))

def set4 (cs : Array Value) (n : Nat) (p : Pla) : Array Value := (((cs.setIfInBounds (n * 4) (.int .i64 p.l0)).setIfInBounds (n * 4 + 1) (.int .i64 p.l1)).setIfInBounds (n * 4 + 2) (.int .i64 p.l2)).setIfInBounds (n * 4 + 3) (.int .i64 p.l3)

theorem lim_at (p : Pla) (e : Int) (k : Nat) : (p.at e).lim k = p.lim k := by
  cases k with | zero => rfl | succ k => cases k with | zero => rfl | succ k => cases k <;> rfl

theorem lim_tick (now : Int) (p : Pla) (l : List Sea) (k : Nat) : (tickP now p l).lim k = p.lim k := by
  unfold tickP
  split
  · cases k with | zero => rfl | succ k => cases k with | zero => rfl | succ k => cases k <;> rfl
  · rfl

/-- No flight's limits turn but by the flight's beginning. -/
theorem doK_lim0 {fl : Nat → Option (Pla × List Sea)} (now : Int) (c : Cmd) (cs : Array Value) (hne : ¬ ((doK now fl c).1 = 0 ∧ c.kind = 1)) (h : LimR cs fl) : LimR cs (doK now fl c).2.2 := by
  intro n hn p l hp k hk
  unfold doK at hp hne
  by_cases k0 : c.kind < 1 ∨ c.kind > 9
  · rw [if_pos k0] at hp; exact h n hn p l hp k hk
  rw [if_neg k0] at hp hne
  by_cases k8 : c.kind = 8
  · rw [if_pos k8] at hp
    by_cases ht : 1 ≤ c.time ∧ c.time ≤ 100
    · rw [if_pos ht] at hp
      simp only [Option.map_eq_some_iff] at hp
      obtain ⟨⟨p', l'⟩, h1, h2⟩ := hp
      have h3 := h n hn p' l' h1 k hk
      unfold tickF at h2
      injection h2 with e1 e2
      subst e1 e2
      rw [lim_tick]
      exact h3
    · rw [if_neg ht] at hp; exact h n hn p l hp k hk
  rw [if_neg k8] at hp hne
  by_cases hfl : ¬ (1 ≤ c.flight ∧ c.flight ≤ 20)
  · rw [if_pos hfl] at hp; exact h n hn p l hp k hk
  rw [if_neg hfl] at hp hne
  cases hc : fl c.flight.toNat with
  | none =>
    rw [hc] at hp hne
    simp only at hp hne
    by_cases k1 : c.kind = 1
    · rw [if_pos k1] at hp hne
      by_cases hq : c.pla.sized = true ∧ c.pla.limited = true
      · rw [if_pos hq] at hne
        exact absurd ⟨rfl, k1⟩ hne
      · rw [if_neg hq] at hp; exact h n hn p l hp k hk
    · rw [if_neg k1] at hp; exact h n hn p l hp k hk
  | some x =>
    rw [hc] at hp
    simp only at hp
    by_cases k1 : c.kind = 1
    · rw [if_pos k1] at hp; exact h n hn p l hp k hk
    rw [if_neg k1] at hp
    by_cases he : seatErr x.1 x.2 c now = 0
    · rw [if_pos he] at hp
      simp only at hp
      by_cases e : n = c.flight.toNat
      · rw [if_pos e] at hp
        injection hp with hp
        injection hp with e1 e2
        subst e1 e2
        rw [seat_lims, e]
        exact h _ (by omega) x.1 x.2 hc k hk
      · rw [if_neg e] at hp; exact h n hn p l hp k hk
    · rw [if_neg he] at hp; exact h n hn p l hp k hk

theorem set4_at (cs : Array Value) (hs : cs.size = 84) (n : Nat) (hn : n < 21) (p : Pla) (k : Nat) (hk : k < 4) : (set4 cs n p)[n * 4 + k]? = some (.int .i64 (p.lim k)) := by
  unfold set4
  have : k = 0 ∨ k = 1 ∨ k = 2 ∨ k = 3 := by omega
  rcases this with rfl | rfl | rfl | rfl <;> simp [Array.getElem?_setIfInBounds, Pla.lim, hs] <;> omega

theorem set4_ne (cs : Array Value) (n m : Nat) (p : Pla) (k : Nat) (hk : k < 4) (h : m ≠ n) : (set4 cs n p)[m * 4 + k]? = cs[m * 4 + k]? := by
  unfold set4
  rw [Array.getElem?_setIfInBounds_ne (by omega), Array.getElem?_setIfInBounds_ne (by omega), Array.getElem?_setIfInBounds_ne (by omega), Array.getElem?_setIfInBounds_ne (by omega)]

theorem doK_lim1 {fl : Nat → Option (Pla × List Sea)} (now : Int) (c : Cmd) (cs : Array Value) (hs : cs.size = 84) (h0 : (doK now fl c).1 = 0) (k1 : c.kind = 1) (h : LimR cs fl) : LimR (set4 cs c.flight.toNat c.pla) (doK now fl c).2.2 := by
  intro n hn p l hp k hk
  unfold doK at hp h0
  rw [if_neg (by omega), if_neg (by omega)] at hp h0
  by_cases hfl : ¬ (1 ≤ c.flight ∧ c.flight ≤ 20)
  · rw [if_pos hfl] at h0; exact absurd h0 (by simp)
  rw [if_neg hfl] at hp h0
  cases hc : fl c.flight.toNat with
  | none =>
    rw [hc] at hp h0
    simp only [if_pos k1] at hp h0
    by_cases hq : c.pla.sized = true ∧ c.pla.limited = true
    · rw [if_pos hq] at hp
      simp only at hp
      by_cases e : n = c.flight.toNat
      · rw [if_pos e] at hp
        injection hp with hp
        injection hp with e1 e2
        subst e1 e2
        rw [lim_at, e]
        exact set4_at cs hs _ (by omega) c.pla k hk
      · rw [if_neg e] at hp
        rw [set4_ne cs _ n c.pla k hk e]
        exact h n hn p l hp k hk
    · rw [if_neg hq] at h0; exact absurd h0 (by simp)
  | some x =>
    rw [hc] at h0
    simp only [if_pos k1] at h0
    exact absurd h0 (by simp)

structure DoesL (w w' : World) (ow : Nat → Nat) (kb lb : Nat) (cs0 : Array Value) (fl0 : Nat → Option (Pla × List Sea)) (now : Int) (fl : Nat → Option (Pla × List Sea)) : Prop where
  keep : ∃ ow', KeepH w' ow' kb now fl ∧ ∀ k, k < w.heap.size → ow' k = ow k
  lim : ∃ cs, cs.size = 84 ∧ Has w' lb cs 97 ∧ (LimR cs0 fl0 → LimR cs fl)
  mod : Mod (fun k => ow k ≠ 0 ∨ k = lb) w w'

theorem doesL_any {w : World} {ow : Nat → Nat} {kb lb : Nat} {now : Int} {fl : Nat → Option (Pla × List Sea)} (h : KeepH w ow kb now fl) (hn : 0 ≤ now ∧ now ≤ 4611686018427387000) (c : Cmd) (cs : Array Value) (hs : cs.size = 84) (hb : Has w lb cs 97) (hol : ow lb = 0) :
    Calls Try.prog 16 #[.pointer (some ⟨kb, 0, none⟩), .agg (cmdCells c), .pointer (some ⟨lb, 0, none⟩)] w fun e w' =>
      e = .returned (.int .i64 (doK now fl c).1) ∧ DoesL w w' ow kb lb cs fl (doK now fl c).2.1 (doK now fl c).2.2 := by
  have hlb := hb.lt
  have HD := hide (do_any (h.mod ((Mod.refl No w).alloc (.cells (cmdCells c) 37)) (fun _ _ x => x)) hn c)
  have HB := hide (hb.alloc (.cells (cmdCells c) 37))
  have HC := hide (Has.new w (cmdCells c) 37)
  have M0 := hide ((Mod.refl No w).alloc (.cells (cmdCells c) 37))
  have HO := hide (show ow w.heap.size = 0 from by
    obtain ⟨pt, hx⟩ := h
    by_cases e : ow w.heap.size = 0
    · exact e
    · have := hx.old _ e; omega)
  have HA := hide fun (q : (doK now fl c).1 = 0) (r : c.kind = 1) => doK_add q r
  have HL0 := hide (doK_lim0 (fl := fl) now c cs)
  have HL1 := hide (doK_lim1 (fl := fl) now c cs hs)
  generalize doK now fl c = D at *
  obtain ⟨r, now', fl'⟩ := D
  simp only at *
  clear h hb
  unfold cmdCells at *
  go_enter Try.func16, Try.ntmps16
  go_wp2_with fail
  refine (unhide HD).mono ?_
  rintro e w2 ⟨rfl, ⟨ow', k2, ho⟩, m2⟩
  have b2 := m2.has (unhide HB) (by simp [hol])
  have c2 := m2.has (unhide HC) (by simp [unhide HO])
  have cc := c2.cell
  have M2 := hide (((unhide M0).mono (S' := fun k => ow k ≠ 0) (fun _ _ x => x.elim)).trans m2)
  have K2 := hide k2
  have HO2 := hide (fun k hk => ho k hk)
  have B2 := hide b2
  have lc2 := c2.lt
  have lb2 := b2.lt
  clear k2 ho m2 b2 c2 HD HB HC M0
  have R0 : ¬ (r = 0 ∧ c.kind = 1) → DoesL w w2 ow kb lb cs fl now' fl' := fun hne => ⟨⟨ow', unhide K2, fun k hk => (unhide HO2) k (by simp; omega)⟩, ⟨cs, hs, unhide B2, (unhide HL0) hne⟩, (unhide M2).mono (fun _ _ x => .inl x)⟩
  have R0 := hide R0
  by_cases h0 : r = 0
  case neg =>
    have RZ := hide ((unhide R0) (fun x => h0 x.1))
    clear K2 HO2 B2 M2 HA HL0 HL1 R0
    have e0 : (r == 0) = false := by simp [h0]
    go_wp2
    go_ret
    exact ⟨rfl, unhide RZ⟩
  by_cases h1 : c.kind = 1
  case neg =>
    have RZ := hide ((unhide R0) (fun x => h1 x.2))
    clear K2 HO2 B2 M2 HA HL0 HL1 R0
    have e1 : (c.kind == 1) = false := by simp [h1]
    subst h0
    go_wp2
    go_ret
    exact ⟨rfl, unhide RZ⟩
  obtain ⟨f1, f2⟩ := (unhide HA) h0 h1
  obtain ⟨n, hfn⟩ : ∃ n : Nat, c.flight = (n : Int) := ⟨c.flight.toNat, by omega⟩
  subst h0
  have e1 : (c.kind == 1) = true := by simp [h1]
  rw [hfn] at cc f1 f2
  have i21 : (n : Int) < 21 := by omega
  have i0 : (0 : Int) ≤ n := by omega
  have fz := (unhide B2).frozen
  obtain ⟨v0, g0⟩ : ∃ v, w2.cell? ⟨lb, n * 4, none⟩ = some v := ⟨_, by rw [(unhide B2).cell, Array.getElem?_eq_getElem (by omega)]⟩
  obtain ⟨v1, g1⟩ : ∃ v, w2.cell? ⟨lb, n * 4 + 1, none⟩ = some v := ⟨_, by rw [(unhide B2).cell, Array.getElem?_eq_getElem (by omega)]⟩
  obtain ⟨v2, g2⟩ : ∃ v, w2.cell? ⟨lb, n * 4 + 2, none⟩ = some v := ⟨_, by rw [(unhide B2).cell, Array.getElem?_eq_getElem (by omega)]⟩
  obtain ⟨v3, g3⟩ : ∃ v, w2.cell? ⟨lb, n * 4 + 3, none⟩ = some v := ⟨_, by rw [(unhide B2).cell, Array.getElem?_eq_getElem (by omega)]⟩
  have hp : ∀ o, (fun k => ow k ≠ 0 ∨ k = lb) (⟨lb, o, none⟩ : Addr).block ∨ w.heap.size ≤ (⟨lb, o, none⟩ : Addr).block := fun o => .inl (.inr rfl)
  have hq : ∀ o, (fun k => k = lb) (⟨lb, o, none⟩ : Addr).block ∨ w2.heap.size ≤ (⟨lb, o, none⟩ : Addr).block := fun o => .inl rfl
  have ol : ow' lb = 0 := by rw [(unhide HO2) lb (by simp; omega)]; exact hol
  have R1 := hide (show DoesL w ((((w2.setCell ⟨lb, n * 4, none⟩ (.int .i64 c.pla.l0)).setCell ⟨lb, n * 4 + 1, none⟩ (.int .i64 c.pla.l1)).setCell ⟨lb, n * 4 + 2, none⟩ (.int .i64 c.pla.l2)).setCell ⟨lb, n * 4 + 3, none⟩ (.int .i64 c.pla.l3)).drew ow kb lb cs fl now' fl' from
    ⟨⟨ow', (unhide K2).mod (((((Mod.refl (fun k => k = lb) w2).setCell (hq _) _).setCell (hq _) _).setCell (hq _) _).setCell (hq _) _).drew (fun k hk e => by subst e; exact hk ol), fun k hk => (unhide HO2) k (by simp; omega)⟩,
     ⟨set4 cs n c.pla, by unfold set4; simpa using hs, ((((((unhide B2).set (n * 4) _).set (n * 4 + 1) _).set (n * 4 + 2) _).set (n * 4 + 3) _)).drew, fun hl => by
       have := (unhide HL1) rfl h1 hl
       rw [show c.flight.toNat = n by omega] at this
       exact this⟩,
     (((((((unhide M2).mono (fun _ _ x => .inl x)).setCell (hp _) _).setCell (hp _) _).setCell (hp _) _).setCell (hp _) _)).drew⟩)
  clear K2 HO2 B2 M2 HA R0 HL0 HL1
  go_wp2_with fail
  go_region
  all_goals go_wp2
  all_goals go_ret
  all_goals exact ⟨rfl, unhide R1⟩
end Go.Proofs.Ytlcbemcamdafjaa
/- A command is done, and the limits are kept in mind: the followers stand. A keeper is begun: it has told nothing. -/
namespace Go.Proofs.Ytlcbemcamdafjaa
open Go.RowKit
open Go.ChangeMaps (setBlock)
open M
set_option linter.unusedVariables false
set_option linter.unusedSimpArgs false
set_option maxRecDepth 100000
set_option maxHeartbeats 2000000

/-- What has become of a keeper behind a command, its followers too. -/
structure DoesF (w w' : World) (ow om : Nat → Nat) (kb lb : Nat) (tl : Nat → Option (List FEnt)) (now : Int) (fl : Nat → Option (Pla × List Sea)) : Prop where
  keep : ∃ ow', KeepH w' ow' kb now fl ∧ FolX w' ow' om kb tl ∧ ∀ k, k < w.heap.size → ow' k = ow k
  lim : ∃ cs, cs.size = 84 ∧ Has w' lb cs 97
  mod : Mod (fun k => ow k ≠ 0 ∨ k = lb) w w'

theorem doesF_any {w : World} {ow om : Nat → Nat} {tl : Nat → Option (List FEnt)} {kb lb : Nat} {now : Int} {fl : Nat → Option (Pla × List Sea)} (h : KeepH w ow kb now fl) (hf : FolX w ow om kb tl) (hn : 0 ≤ now ∧ now ≤ 4611686018427387000) (c : Cmd) (cs : Array Value) (hs : cs.size = 84) (hb : Has w lb cs 97) (hol : ow lb = 0) (hom : om lb = 0) :
    Calls Try.prog 16 #[.pointer (some ⟨kb, 0, none⟩), .agg (cmdCells c), .pointer (some ⟨lb, 0, none⟩)] w fun e w' =>
      e = .returned (.int .i64 (doK now fl c).1) ∧ DoesF w w' ow om kb lb tl (doK now fl c).2.1 (doK now fl c).2.2 := by
  have hlb := hb.lt
  have HD := hide (do_any (h.mod ((Mod.refl No w).alloc (.cells (cmdCells c) 37)) (fun _ _ x => x)) hn c)
  have HB := hide (hb.alloc (.cells (cmdCells c) 37))
  have HC := hide (Has.new w (cmdCells c) 37)
  have M0 := hide ((Mod.refl No w).alloc (.cells (cmdCells c) 37))
  have HO := hide (show ow w.heap.size = 0 from by
    obtain ⟨pt, hx⟩ := h
    by_cases e : ow w.heap.size = 0
    · exact e
    · have := hx.old _ e; omega)
  have HA := hide fun (q : (doK now fl c).1 = 0) (r : c.kind = 1) => doK_add q r
  generalize doK now fl c = D at *
  obtain ⟨r, now', fl'⟩ := D
  simp only at *
  have HFA := hide (hf.still ((Mod.refl No w).alloc (.cells (cmdCells c) 37)))
  clear h hb hf
  unfold cmdCells at *
  go_enter Try.func16, Try.ntmps16
  go_wp2_with fail
  refine (unhide HD).mono ?_
  rintro e w2 ⟨rfl, hkept⟩
  obtain ⟨ow', k2, f2, ho, m2⟩ := (unhide HFA).kept hkept
  have F2 := hide f2
  clear f2 hkept HFA
  have b2 := m2.has (unhide HB) (by simp [hol])
  have c2 := m2.has (unhide HC) (by simp [unhide HO])
  have cc := c2.cell
  have M2 := hide (((unhide M0).mono (S' := fun k => ow k ≠ 0) (fun _ _ x => x.elim)).trans m2)
  have K2 := hide k2
  have HO2 := hide (fun k hk => ho k hk)
  have B2 := hide b2
  have lc2 := c2.lt
  have lb2 := b2.lt
  clear k2 ho m2 b2 c2 HD HB HC M0
  have R0 : ¬ (r = 0 ∧ c.kind = 1) → DoesF w w2 ow om kb lb tl now' fl' := fun hne => ⟨⟨ow', unhide K2, unhide F2, fun k hk => (unhide HO2) k (by simp; omega)⟩, ⟨cs, hs, unhide B2⟩, (unhide M2).mono (fun _ _ x => .inl x)⟩
  have R0 := hide R0
  by_cases h0 : r = 0
  case neg =>
    have RZ := hide ((unhide R0) (fun x => h0 x.1))
    clear K2 HO2 B2 M2 HA R0
    have e0 : (r == 0) = false := by simp [h0]
    go_wp2
    go_ret
    exact ⟨rfl, unhide RZ⟩
  by_cases h1 : c.kind = 1
  case neg =>
    have RZ := hide ((unhide R0) (fun x => h1 x.2))
    clear K2 HO2 B2 M2 HA R0
    have e1 : (c.kind == 1) = false := by simp [h1]
    subst h0
    go_wp2
    go_ret
    exact ⟨rfl, unhide RZ⟩
  obtain ⟨f1, f2⟩ := (unhide HA) h0 h1
  obtain ⟨n, hfn⟩ : ∃ n : Nat, c.flight = (n : Int) := ⟨c.flight.toNat, by omega⟩
  subst h0
  have e1 : (c.kind == 1) = true := by simp [h1]
  rw [hfn] at cc f1 f2
  have i21 : (n : Int) < 21 := by omega
  have i0 : (0 : Int) ≤ n := by omega
  have fz := (unhide B2).frozen
  obtain ⟨v0, g0⟩ : ∃ v, w2.cell? ⟨lb, n * 4, none⟩ = some v := ⟨_, by rw [(unhide B2).cell, Array.getElem?_eq_getElem (by omega)]⟩
  obtain ⟨v1, g1⟩ : ∃ v, w2.cell? ⟨lb, n * 4 + 1, none⟩ = some v := ⟨_, by rw [(unhide B2).cell, Array.getElem?_eq_getElem (by omega)]⟩
  obtain ⟨v2, g2⟩ : ∃ v, w2.cell? ⟨lb, n * 4 + 2, none⟩ = some v := ⟨_, by rw [(unhide B2).cell, Array.getElem?_eq_getElem (by omega)]⟩
  obtain ⟨v3, g3⟩ : ∃ v, w2.cell? ⟨lb, n * 4 + 3, none⟩ = some v := ⟨_, by rw [(unhide B2).cell, Array.getElem?_eq_getElem (by omega)]⟩
  have hp : ∀ o, (fun k => ow k ≠ 0 ∨ k = lb) (⟨lb, o, none⟩ : Addr).block ∨ w.heap.size ≤ (⟨lb, o, none⟩ : Addr).block := fun o => .inl (.inr rfl)
  have hq : ∀ o, (fun k => k = lb) (⟨lb, o, none⟩ : Addr).block ∨ w2.heap.size ≤ (⟨lb, o, none⟩ : Addr).block := fun o => .inl rfl
  have okb : ow' kb ≠ 0 := by obtain ⟨pt, hx⟩ := unhide K2; rw [hx.mine]; omega
  have ol : ow' lb = 0 := by rw [(unhide HO2) lb (by simp; omega)]; exact hol
  have R1 := hide (show DoesF w ((((w2.setCell ⟨lb, n * 4, none⟩ (.int .i64 c.pla.l0)).setCell ⟨lb, n * 4 + 1, none⟩ (.int .i64 c.pla.l1)).setCell ⟨lb, n * 4 + 2, none⟩ (.int .i64 c.pla.l2)).setCell ⟨lb, n * 4 + 3, none⟩ (.int .i64 c.pla.l3)).drew ow om kb lb tl now' fl' from
    ⟨⟨ow', (unhide K2).mod (((((Mod.refl (fun k => k = lb) w2).setCell (hq _) _).setCell (hq _) _).setCell (hq _) _).setCell (hq _) _).drew (fun k hk e => by subst e; exact hk ol), (unhide F2).mod (((((Mod.refl (fun k => k = lb) w2).setCell (hq _) _).setCell (hq _) _).setCell (hq _) _).setCell (hq _) _).drew (fun e => okb (by have e' : kb = lb := e; rw [e']; exact ol)) (fun k hk e => by subst e; exact hk hom), fun k hk => (unhide HO2) k (by simp; omega)⟩,
     ⟨set4 cs n c.pla, by unfold set4; simpa using hs, ((((((unhide B2).set (n * 4) _).set (n * 4 + 1) _).set (n * 4 + 2) _).set (n * 4 + 3) _)).drew⟩,
     (((((((unhide M2).mono (fun _ _ x => .inl x)).setCell (hp _) _).setCell (hp _) _).setCell (hp _) _).setCell (hp _) _)).drew⟩)
  clear K2 HO2 B2 M2 HA R0
  go_wp2_with fail
  go_region
  all_goals go_wp2
  all_goals go_ret
  all_goals exact ⟨rfl, unhide R1⟩

theorem begunF_any (tb : Nat) (cs : Array Value) (w : World) (h : Has w tb cs 96) (h8 : cs[8]? = some (.int .i64 1099511627776)) :
    Calls Try.prog 12 #[.pointer (some ⟨tb, 0, none⟩)] w fun e w' => e = .returned (.tuple #[.pointer (some ⟨w.heap.size, 0, none⟩), .bool true]) ∧
      (∃ ow, KeepH w' ow w.heap.size 0 fl0 ∧ FolX w' ow (fun _ => 0) w.heap.size (fun _ => none) ∧ ∀ k, k < w.heap.size → ow k = 0) ∧ Mod No w w' := by
  have HO := hide (open_walk tb 1099511627776 cs w h h8 (by omega))
  have K0 := hide (keep_start w)
  have FX0 := hide (show FolX (w.alloc (.cells (keepCells 0 noP) 108)) (fun k => if k = w.heap.size then 1 else 0) (fun _ => 0) w.heap.size (fun _ => none) from
    ⟨fun i hi _ => by rw [(Has.new w (keepCells 0 noP) 108).cell, keep_far _ _ i hi]; rfl, fun i hi es h => (by cases h), fun k hk => absurd rfl hk⟩)
  have M0 := hide ((Mod.refl No w).alloc (.cells (keepCells 0 noP) 108))
  have l0 := (Has.new w (keepCells 0 noP) 108).lt
  clear h h8
  go_enter Try.func12, Try.ntmps12
  go_wp2_with fail
  refine (unhide HO).mono ?_
  rintro e w1 ⟨rfl, rfl⟩
  clear HO
  generalize w.alloc (.cells (keepCells 0 noP) 108) = w1 at *
  go_wp2_with fail
  have HD : Calls Try.prog 24 #[.pointer (some ⟨w.heap.size, 0, none⟩), .agg #[.int .i64 1, .int .i64 1, .int .i64 0, .int .i64 0, .int .i64 0, .int .i64 0, .int .i64 0, .int .i64 0, .int .i64 0, .int .i64 4, .int .i64 3, .int .i64 2, .int .i64 10, .int .i64 8, .int .i64 5, .int .i64 1]] (w1.alloc (.cells #[.int .i64 4, .int .i64 3, .int .i64 2, .int .i64 10, .int .i64 8, .int .i64 5, .int .i64 1] 35)) fun e w' => e = .returned (.int .i64 0) ∧ Kept (w1.alloc (.cells #[.int .i64 4, .int .i64 3, .int .i64 2, .int .i64 10, .int .i64 8, .int .i64 5, .int .i64 1] 35)) w' (fun k => if k = w.heap.size then 1 else 0) w.heap.size 0 fl0 := by
    have := do_any ((unhide K0).mod ((Mod.refl No _).alloc (.cells #[.int .i64 4, .int .i64 3, .int .i64 2, .int .i64 10, .int .i64 8, .int .i64 5, .int .i64 1] 35)) (fun _ _ x => x)) (by omega) addC
    rw [doK_begun] at this
    exact this
  refine HD.mono ?_
  rintro e w2 ⟨rfl, hkept⟩
  obtain ⟨ow, k2, f2, ho, m2⟩ := ((unhide FX0).still ((Mod.refl No w1).alloc (.cells #[.int .i64 4, .int .i64 3, .int .i64 2, .int .i64 10, .int .i64 8, .int .i64 5, .int .i64 1] 35))).kept hkept
  have F2 := hide f2
  clear f2 hkept FX0
  have H0 : ∀ W, Mod No w2 W → Calls Try.prog 23 #[.pointer (some ⟨w.heap.size, 0, none⟩), .int .i64 1, .int .i64 0] W fun e w' => e = .returned (.tuple #[.int .i64 9, .int .i64 0]) ∧ Mod No W w' := fun W hW => by
    have := left_any (k2.mod hW (fun _ _ x => x)) 1 0
    rw [left_begun0] at this
    exact this
  have H2 : ∀ W, Mod No w2 W → Calls Try.prog 23 #[.pointer (some ⟨w.heap.size, 0, none⟩), .int .i64 1, .int .i64 2] W fun e w' => e = .returned (.tuple #[.int .i64 5, .int .i64 0]) ∧ Mod No W w' := fun W hW => by
    have := left_any (k2.mod hW (fun _ _ x => x)) 1 2
    rw [left_begun2] at this
    exact this
  have K2 := hide k2
  have OW := hide ho
  have M2 := hide ((((unhide M0).alloc _).mono (fun k hk (x : No k) => x.elim)).trans' (S := No) m2 (fun i hi hl => hi (if_neg (by omega))))
  have HH0 := hide H0
  have HH2 := hide H2
  clear H0 H2 k2 ho m2 HD K0 M0
  go_wp2_with fail
  refine ((unhide HH0) _ (Mod.refl _ _)).mono ?_
  rintro e w3 ⟨rfl, m3⟩
  have M3 := hide m3
  clear m3
  go_wp2_with fail
  refine ((unhide HH2) _ (unhide M3)).mono ?_
  rintro e w4 ⟨rfl, m4⟩
  have M4 := hide ((unhide M3).trans m4)
  clear m4
  go_wp2
  go_ret2
  refine ⟨rfl, ⟨ow, (unhide K2).mod (unhide M4) (fun _ _ x => x), (unhide F2).still (unhide M4), fun k hk => ?_⟩, (unhide M2).trans (unhide M4)⟩
  rw [(unhide OW) k (by simp; omega)]
  exact if_neg (by omega)

end Go.Proofs.Ytlcbemcamdafjaa
