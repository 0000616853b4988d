import Derived.Test.YtgemhmhlcaojcaaBegun
import Derived.Test.YtgemhmhlcaojcaaCells
import Derived.Handy
/- A command is done, and the limits are kept in mind. -/
namespace Go.Proofs.Ytgemhmhlcaojcaa
open Go.RowKit
open Go.ChangeMaps (setBlock)
open M
set_option linter.unusedVariables false
set_option linter.unusedSimpArgs false
set_option maxRecDepth 100000
set_option maxHeartbeats 2000000

structure DoesOk (w w' : World) (ow : Nat → Nat) (kb lb : Nat) (now : Int) (fl : Nat → Option (Pla × List Sea)) : Prop where
  keep : ∃ ow', KeepH w' ow' kb now fl ∧ ∀ k, k < w.heap.size → ow' k = ow k
  lim : ∃ cs, cs.size = 84 ∧ Has w' lb cs 86
  mod : Mod (fun k => ow k ≠ 0 ∨ k = lb) w w'

theorem doK_add {now : Int} {fl : Nat → Option (Pla × List Sea)} {c : Cmd} (h : (doK now fl c).1 = 0) (hk : c.kind = 1) : 1 ≤ c.flight ∧ c.flight ≤ 20 := by
  unfold doK at h
  rw [if_neg (by omega), if_neg (by omega)] at h
  by_cases hf : 1 ≤ c.flight ∧ c.flight ≤ 20
  · exact hf
  · rw [if_pos hf] at h
    exact absurd h (by simp)

theorem does_any {w : World} {ow : Nat → Nat} {kb lb : Nat} {now : Int} {fl : Nat → Option (Pla × List Sea)} (h : KeepH w ow kb now fl) (hn : 0 ≤ now ∧ now ≤ 4611686018427387000) (c : Cmd) (cs : Array Value) (hs : cs.size = 84) (hb : Has w lb cs 86) (hol : ow lb = 0) :
    Calls Try.prog 15 #[.pointer (some ⟨kb, 0, none⟩), .agg (cmdCells c), .pointer (some ⟨lb, 0, none⟩)] w fun e w' =>
      e = .returned (.int .i64 (doK now fl c).1) ∧ DoesOk w w' ow kb lb (doK now fl c).2.1 (doK now fl c).2.2 := by
  have hlb := hb.lt
  have HD := hide (do_any (h.mod ((Mod.refl No w).alloc (.cells (cmdCells c) 37)) (fun _ _ x => x)) hn c)
  have HB := hide (hb.alloc (.cells (cmdCells c) 37))
  have HC := hide (Has.new w (cmdCells c) 37)
  have M0 := hide ((Mod.refl No w).alloc (.cells (cmdCells c) 37))
  have HO := hide (show ow w.heap.size = 0 from by
    obtain ⟨pt, hx⟩ := h
    by_cases e : ow w.heap.size = 0
    · exact e
    · have := hx.old _ e; omega)
  have HA := hide fun (q : (doK now fl c).1 = 0) (r : c.kind = 1) => doK_add q r
  generalize doK now fl c = D at *
  obtain ⟨r, now', fl'⟩ := D
  simp only at *
  clear h hb
  unfold cmdCells at *
  go_enter Try.func15, Try.ntmps15
  go_wp2_with fail
  refine (unhide HD).mono ?_
  rintro e w2 ⟨rfl, ⟨ow', k2, ho⟩, m2⟩
  have b2 := m2.has (unhide HB) (by simp [hol])
  have c2 := m2.has (unhide HC) (by simp [unhide HO])
  have cc := c2.cell
  have M2 := hide (((unhide M0).mono (S' := fun k => ow k ≠ 0) (fun _ _ x => x.elim)).trans m2)
  have K2 := hide k2
  have HO2 := hide (fun k hk => ho k hk)
  have B2 := hide b2
  have lc2 := c2.lt
  have lb2 := b2.lt
  clear k2 ho m2 b2 c2 HD HB HC M0
  have R0 : DoesOk w w2 ow kb lb now' fl' := ⟨⟨ow', unhide K2, fun k hk => (unhide HO2) k (by simp; omega)⟩, ⟨cs, hs, unhide B2⟩, (unhide M2).mono (fun _ _ x => .inl x)⟩
  have R0 := hide R0
  by_cases h0 : r = 0
  case neg =>
    clear K2 HO2 B2 M2 HA
    have e0 : (r == 0) = false := by simp [h0]
    go_wp2
    go_ret
    exact ⟨rfl, unhide R0⟩
  by_cases h1 : c.kind = 1
  case neg =>
    clear K2 HO2 B2 M2 HA
    have e1 : (c.kind == 1) = false := by simp [h1]
    subst h0
    go_wp2
    go_ret
    exact ⟨rfl, unhide R0⟩
  obtain ⟨f1, f2⟩ := (unhide HA) h0 h1
  obtain ⟨n, hfn⟩ : ∃ n : Nat, c.flight = (n : Int) := ⟨c.flight.toNat, by omega⟩
  subst h0
  have e1 : (c.kind == 1) = true := by simp [h1]
  rw [hfn] at cc f1 f2
  have i21 : (n : Int) < 21 := by omega
  have i0 : (0 : Int) ≤ n := by omega
  have fz := (unhide B2).frozen
  obtain ⟨v0, g0⟩ : ∃ v, w2.cell? ⟨lb, n * 4, none⟩ = some v := ⟨_, by rw [(unhide B2).cell, Array.getElem?_eq_getElem (by omega)]⟩
  obtain ⟨v1, g1⟩ : ∃ v, w2.cell? ⟨lb, n * 4 + 1, none⟩ = some v := ⟨_, by rw [(unhide B2).cell, Array.getElem?_eq_getElem (by omega)]⟩
  obtain ⟨v2, g2⟩ : ∃ v, w2.cell? ⟨lb, n * 4 + 2, none⟩ = some v := ⟨_, by rw [(unhide B2).cell, Array.getElem?_eq_getElem (by omega)]⟩
  obtain ⟨v3, g3⟩ : ∃ v, w2.cell? ⟨lb, n * 4 + 3, none⟩ = some v := ⟨_, by rw [(unhide B2).cell, Array.getElem?_eq_getElem (by omega)]⟩
  have hp : ∀ o, (fun k => ow k ≠ 0 ∨ k = lb) (⟨lb, o, none⟩ : Addr).block ∨ w.heap.size ≤ (⟨lb, o, none⟩ : Addr).block := fun o => .inl (.inr rfl)
  have hq : ∀ o, (fun k => k = lb) (⟨lb, o, none⟩ : Addr).block ∨ w2.heap.size ≤ (⟨lb, o, none⟩ : Addr).block := fun o => .inl rfl
  have ol : ow' lb = 0 := by rw [(unhide HO2) lb (by simp; omega)]; exact hol
  have R1 := hide (show DoesOk w ((((w2.setCell ⟨lb, n * 4, none⟩ (.int .i64 c.pla.l0)).setCell ⟨lb, n * 4 + 1, none⟩ (.int .i64 c.pla.l1)).setCell ⟨lb, n * 4 + 2, none⟩ (.int .i64 c.pla.l2)).setCell ⟨lb, n * 4 + 3, none⟩ (.int .i64 c.pla.l3)).drew ow kb lb now' fl' from
    ⟨⟨ow', (unhide K2).mod (((((Mod.refl (fun k => k = lb) w2).setCell (hq _) _).setCell (hq _) _).setCell (hq _) _).setCell (hq _) _).drew (fun k hk e => by subst e; exact hk ol), fun k hk => (unhide HO2) k (by simp; omega)⟩,
     ⟨_, by simpa using hs, ((((((unhide B2).set (n * 4) _).set (n * 4 + 1) _).set (n * 4 + 2) _).set (n * 4 + 3) _)).drew⟩,
     (((((((unhide M2).mono (fun _ _ x => .inl x)).setCell (hp _) _).setCell (hp _) _).setCell (hp _) _).setCell (hp _) _)).drew⟩)
  clear K2 HO2 B2 M2 HA R0
  go_wp2_with fail
  go_region
  all_goals go_wp2
  all_goals go_ret
  all_goals exact ⟨rfl, unhide R1⟩
end Go.Proofs.Ytgemhmhlcaojcaa
