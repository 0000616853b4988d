import Derived.Test.YtlcbemcamdafjaaCbackKeep8Open
import Derived.Handy
import Derived.Test.YtlcbemcamdafjaaCbackCellsSwap5
/- A keeper with one flight is begun. -/
namespace Go.Proofs.Ytlcbemcamdafjaa
open Go.RowKit
open Go.ChangeMaps (setBlock)
open M
set_option linter.unusedVariables false
set_option linter.unusedSimpArgs false
set_option maxRecDepth 100000
set_option maxHeartbeats 2000000

def p0 : Pla := ⟨4, 3, 2, 10, 8, 5, 1, 1⟩
def addC : Cmd := ⟨1, 1, 0, 0, 0, 0, 0, 0, 0, p0⟩
def fl0 : Nat → Option (Pla × List Sea) := fun j => if j = 1 then some (p0, emptySeats p0) else none

theorem doK_begun : doK 0 noFl addC = (0, 0, fl0) := by
  unfold doK
  rw [if_neg (by decide), if_neg (by decide), if_neg (by decide)]
  simp only [noFl]
  rw [if_pos (by decide), if_pos (by decide)]
  rfl
theorem left_begun0 : leftK fl0 1 0 = (9, 0) := by decide +kernel
theorem left_begun2 : leftK fl0 1 2 = (5, 0) := by decide +kernel

theorem begun_any (tb : Nat) (cs : Array Value) (w : World) (h : Has w tb cs 96) (h8 : cs[8]? = some (.int .i64 1099511627776)) :
    Calls Try.prog 12 #[.pointer (some ⟨tb, 0, none⟩)] w fun e w' => e = .returned (.tuple #[.pointer (some ⟨w.heap.size, 0, none⟩), .bool true]) ∧
      (∃ ow, KeepH w' ow w.heap.size 0 fl0 ∧ ∀ k, k < w.heap.size → ow k = 0) ∧ Mod No w w' := by
  have HO := hide (open_walk tb 1099511627776 cs w h h8 (by omega))
  have K0 := hide (keep_start w)
  have M0 := hide ((Mod.refl No w).alloc (.cells (keepCells 0 noP) 108))
  have l0 := (Has.new w (keepCells 0 noP) 108).lt
  clear h h8
  go_enter Try.func12, Try.ntmps12
  go_wp2_with fail
  refine (unhide HO).mono ?_
  rintro e w1 ⟨rfl, rfl⟩
  clear HO
  generalize w.alloc (.cells (keepCells 0 noP) 108) = w1 at *
  go_wp2_with fail
  have HD : Calls Try.prog 24 #[.pointer (some ⟨w.heap.size, 0, none⟩), .agg #[.int .i64 1, .int .i64 1, .int .i64 0, .int .i64 0, .int .i64 0, .int .i64 0, .int .i64 0, .int .i64 0, .int .i64 0, .int .i64 4, .int .i64 3, .int .i64 2, .int .i64 10, .int .i64 8, .int .i64 5, .int .i64 1]] (w1.alloc (.cells #[.int .i64 4, .int .i64 3, .int .i64 2, .int .i64 10, .int .i64 8, .int .i64 5, .int .i64 1] 35)) fun e w' => e = .returned (.int .i64 0) ∧ Kept (w1.alloc (.cells #[.int .i64 4, .int .i64 3, .int .i64 2, .int .i64 10, .int .i64 8, .int .i64 5, .int .i64 1] 35)) w' (fun k => if k = w.heap.size then 1 else 0) w.heap.size 0 fl0 := by
    have := do_any ((unhide K0).mod ((Mod.refl No _).alloc (.cells #[.int .i64 4, .int .i64 3, .int .i64 2, .int .i64 10, .int .i64 8, .int .i64 5, .int .i64 1] 35)) (fun _ _ x => x)) (by omega) addC
    rw [doK_begun] at this
    exact this
  refine HD.mono ?_
  rintro e w2 ⟨rfl, ⟨ow, k2, ho⟩, m2⟩
  have H0 : ∀ W, Mod No w2 W → Calls Try.prog 23 #[.pointer (some ⟨w.heap.size, 0, none⟩), .int .i64 1, .int .i64 0] W fun e w' => e = .returned (.tuple #[.int .i64 9, .int .i64 0]) ∧ Mod No W w' := fun W hW => by
    have := left_any (k2.mod hW (fun _ _ x => x)) 1 0
    rw [left_begun0] at this
    exact this
  have H2 : ∀ W, Mod No w2 W → Calls Try.prog 23 #[.pointer (some ⟨w.heap.size, 0, none⟩), .int .i64 1, .int .i64 2] W fun e w' => e = .returned (.tuple #[.int .i64 5, .int .i64 0]) ∧ Mod No W w' := fun W hW => by
    have := left_any (k2.mod hW (fun _ _ x => x)) 1 2
    rw [left_begun2] at this
    exact this
  have K2 := hide k2
  have OW := hide ho
  have M2 := hide ((((unhide M0).alloc _).mono (fun k hk (x : No k) => x.elim)).trans' (S := No) m2 (fun i hi hl => hi (if_neg (by omega))))
  have HH0 := hide H0
  have HH2 := hide H2
  clear H0 H2 k2 ho m2 HD K0 M0
  go_wp2_with fail
  refine ((unhide HH0) _ (Mod.refl _ _)).mono ?_
  rintro e w3 ⟨rfl, m3⟩
  have M3 := hide m3
  clear m3
  go_wp2_with fail
  refine ((unhide HH2) _ (unhide M3)).mono ?_
  rintro e w4 ⟨rfl, m4⟩
  have M4 := hide ((unhide M3).trans m4)
  clear m4
  go_wp2
  go_ret2
  refine ⟨rfl, ⟨ow, (unhide K2).mod (unhide M4) (fun _ _ x => x), fun k hk => ?_⟩, (unhide M2).trans (unhide M4)⟩
  rw [(unhide OW) k (by simp; omega)]
  exact if_neg (by omega)

theorem first_any (w : World) : Calls Try.prog 14 #[] w fun e w' => ∃ cs, cs.size = 84 ∧ e = .returned (.pointer (some ⟨w.heap.size, 0, none⟩)) ∧ Has w' w.heap.size cs 97 ∧ Mod No w w' := by
  go_enter Try.func14, Try.ntmps14
  go_wp2
  go_ret
  exact ⟨_, rfl, rfl, Has.new w _ _, (Mod.refl No w).alloc _⟩
end Go.Proofs.Ytlcbemcamdafjaa
/- A command is done, and the limits are kept in mind. -/
namespace Go.Proofs.Ytlcbemcamdafjaa
open Go.RowKit
open Go.ChangeMaps (setBlock)
open M
set_option linter.unusedVariables false
set_option linter.unusedSimpArgs false
set_option maxRecDepth 100000
set_option maxHeartbeats 2000000

structure DoesOk (w w' : World) (ow : Nat → Nat) (kb lb : Nat) (now : Int) (fl : Nat → Option (Pla × List Sea)) : Prop where
  keep : ∃ ow', KeepH w' ow' kb now fl ∧ ∀ k, k < w.heap.size → ow' k = ow k
  lim : ∃ cs, cs.size = 84 ∧ Has w' lb cs 97
  mod : Mod (fun k => ow k ≠ 0 ∨ k = lb) w w'

theorem doK_add {now : Int} {fl : Nat → Option (Pla × List Sea)} {c : Cmd} (h : (doK now fl c).1 = 0) (hk : c.kind = 1) : 1 ≤ c.flight ∧ c.flight ≤ 20 := by
  unfold doK at h
  rw [if_neg (by omega), if_neg (by omega)] at h
  by_cases hf : 1 ≤ c.flight ∧ c.flight ≤ 20
  · exact hf
  · rw [if_pos hf] at h
    exact absurd h (by simp)

theorem does_any {w : World} {ow : Nat → Nat} {kb lb : Nat} {now : Int} {fl : Nat → Option (Pla × List Sea)} (h : KeepH w ow kb now fl) (hn : 0 ≤ now ∧ now ≤ 4611686018427387000) (c : Cmd) (cs : Array Value) (hs : cs.size = 84) (hb : Has w lb cs 97) (hol : ow lb = 0) :
    Calls Try.prog 16 #[.pointer (some ⟨kb, 0, none⟩), .agg (cmdCells c), .pointer (some ⟨lb, 0, none⟩)] w fun e w' =>
      e = .returned (.int .i64 (doK now fl c).1) ∧ DoesOk w w' ow kb lb (doK now fl c).2.1 (doK now fl c).2.2 := by
  have hlb := hb.lt
  have HD := hide (do_any (h.mod ((Mod.refl No w).alloc (.cells (cmdCells c) 37)) (fun _ _ x => x)) hn c)
  have HB := hide (hb.alloc (.cells (cmdCells c) 37))
  have HC := hide (Has.new w (cmdCells c) 37)
  have M0 := hide ((Mod.refl No w).alloc (.cells (cmdCells c) 37))
  have HO := hide (show ow w.heap.size = 0 from by
    obtain ⟨pt, hx⟩ := h
    by_cases e : ow w.heap.size = 0
    · exact e
    · have := hx.old _ e; omega)
  have HA := hide fun (q : (doK now fl c).1 = 0) (r : c.kind = 1) => doK_add q r
  generalize doK now fl c = D at *
  obtain ⟨r, now', fl'⟩ := D
  simp only at *
  clear h hb
  unfold cmdCells at *
  go_enter Try.func16, Try.ntmps16
  go_wp2_with fail
  refine (unhide HD).mono ?_
  rintro e w2 ⟨rfl, ⟨ow', k2, ho⟩, m2⟩
  have b2 := m2.has (unhide HB) (by simp [hol])
  have c2 := m2.has (unhide HC) (by simp [unhide HO])
  have cc := c2.cell
  have M2 := hide (((unhide M0).mono (S' := fun k => ow k ≠ 0) (fun _ _ x => x.elim)).trans m2)
  have K2 := hide k2
  have HO2 := hide (fun k hk => ho k hk)
  have B2 := hide b2
  have lc2 := c2.lt
  have lb2 := b2.lt
  clear k2 ho m2 b2 c2 HD HB HC M0
  have R0 : DoesOk w w2 ow kb lb now' fl' := ⟨⟨ow', unhide K2, fun k hk => (unhide HO2) k (by simp; omega)⟩, ⟨cs, hs, unhide B2⟩, (unhide M2).mono (fun _ _ x => .inl x)⟩
  have R0 := hide R0
  by_cases h0 : r = 0
  case neg =>
    clear K2 HO2 B2 M2 HA
    have e0 : (r == 0) = false := by simp [h0]
    go_wp2
    go_ret
    exact ⟨rfl, unhide R0⟩
  by_cases h1 : c.kind = 1
  case neg =>
    clear K2 HO2 B2 M2 HA
    have e1 : (c.kind == 1) = false := by simp [h1]
    subst h0
    go_wp2
    go_ret
    exact ⟨rfl, unhide R0⟩
  obtain ⟨f1, f2⟩ := (unhide HA) h0 h1
  obtain ⟨n, hfn⟩ : ∃ n : Nat, c.flight = (n : Int) := ⟨c.flight.toNat, by omega⟩
  subst h0
  have e1 : (c.kind == 1) = true := by simp [h1]
  rw [hfn] at cc f1 f2
  have i21 : (n : Int) < 21 := by omega
  have i0 : (0 : Int) ≤ n := by omega
  have fz := (unhide B2).frozen
  obtain ⟨v0, g0⟩ : ∃ v, w2.cell? ⟨lb, n * 4, none⟩ = some v := ⟨_, by rw [(unhide B2).cell, Array.getElem?_eq_getElem (by omega)]⟩
  obtain ⟨v1, g1⟩ : ∃ v, w2.cell? ⟨lb, n * 4 + 1, none⟩ = some v := ⟨_, by rw [(unhide B2).cell, Array.getElem?_eq_getElem (by omega)]⟩
  obtain ⟨v2, g2⟩ : ∃ v, w2.cell? ⟨lb, n * 4 + 2, none⟩ = some v := ⟨_, by rw [(unhide B2).cell, Array.getElem?_eq_getElem (by omega)]⟩
  obtain ⟨v3, g3⟩ : ∃ v, w2.cell? ⟨lb, n * 4 + 3, none⟩ = some v := ⟨_, by rw [(unhide B2).cell, Array.getElem?_eq_getElem (by omega)]⟩
  have hp : ∀ o, (fun k => ow k ≠ 0 ∨ k = lb) (⟨lb, o, none⟩ : Addr).block ∨ w.heap.size ≤ (⟨lb, o, none⟩ : Addr).block := fun o => .inl (.inr rfl)
  have hq : ∀ o, (fun k => k = lb) (⟨lb, o, none⟩ : Addr).block ∨ w2.heap.size ≤ (⟨lb, o, none⟩ : Addr).block := fun o => .inl rfl
  have ol : ow' lb = 0 := by rw [(unhide HO2) lb (by simp; omega)]; exact hol
  have R1 := hide (show DoesOk w ((((w2.setCell ⟨lb, n * 4, none⟩ (.int .i64 c.pla.l0)).setCell ⟨lb, n * 4 + 1, none⟩ (.int .i64 c.pla.l1)).setCell ⟨lb, n * 4 + 2, none⟩ (.int .i64 c.pla.l2)).setCell ⟨lb, n * 4 + 3, none⟩ (.int .i64 c.pla.l3)).drew ow kb lb now' fl' from
    ⟨⟨ow', (unhide K2).mod (((((Mod.refl (fun k => k = lb) w2).setCell (hq _) _).setCell (hq _) _).setCell (hq _) _).setCell (hq _) _).drew (fun k hk e => by subst e; exact hk ol), fun k hk => (unhide HO2) k (by simp; omega)⟩,
     ⟨_, by simpa using hs, ((((((unhide B2).set (n * 4) _).set (n * 4 + 1) _).set (n * 4 + 2) _).set (n * 4 + 3) _)).drew⟩,
     (((((((unhide M2).mono (fun _ _ x => .inl x)).setCell (hp _) _).setCell (hp _) _).setCell (hp _) _).setCell (hp _) _)).drew⟩)
  clear K2 HO2 B2 M2 HA R0
  go_wp2_with fail
  go_region
  all_goals go_wp2
  all_goals go_ret
  all_goals exact ⟨rfl, unhide R1⟩
end Go.Proofs.Ytlcbemcamdafjaa
