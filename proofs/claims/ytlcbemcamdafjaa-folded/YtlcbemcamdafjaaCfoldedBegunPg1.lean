import Derived.Test.YtlcbemcamdafjaaCfoldedTape2Fol4
import Derived.Handy
import Derived.Test.YtlcbemcamdafjaaCfoldedCellsSwap5
import Derived.Test.YtlcbemcamdafjaaCfoldedModelMaps2
import Derived.Test.YtlcbemcamdafjaaCfoldedFMapSeat
import Derived.Test.YtlcbemcamdafjaaCfoldedFol1Append
import Derived.Test.YtlcbemcamdafjaaCfoldedReckonPut
import Derived.Test.YtlcbemcamdafjaaCfoldedLook7Swap0
import Derived.Test.YtlcbemcamdafjaaCfoldedSwap2
/- A keeper with one flight is begun. -/
namespace Go.Proofs.Ytlcbemcamdafjaa
open Go.RowKit
open Go.ChangeMaps (setBlock)
open M
set_option linter.unusedVariables false
set_option linter.unusedSimpArgs false
set_option maxRecDepth 100000
set_option maxHeartbeats 2000000

def p0 : Pla := ⟨4, 3, 2, 10, 8, 5, 1, 1⟩
def addC : Cmd := ⟨1, 1, 0, 0, 0, 0, 0, 0, 0, p0⟩
def fl0 : Nat → Option (Pla × List Sea) := fun j => if j = 1 then some (p0, emptySeats p0) else none

theorem doK_begun : doK 0 noFl addC = (0, 0, fl0) := by
  unfold doK
  rw [if_neg (by decide), if_neg (by decide), if_neg (by decide)]
  simp only [noFl]
  rw [if_pos (by decide), if_pos (by decide)]
  rfl
theorem left_begun0 : leftK fl0 1 0 = (9, 0) := by decide +kernel
theorem left_begun2 : leftK fl0 1 2 = (5, 0) := by decide +kernel

theorem begun_any (tb : Nat) (cs : Array Value) (w : World) (h : Has w tb cs 96) (h8 : cs[8]? = some (.int .i64 1099511627776)) :
    Calls Try.prog 12 #[.pointer (some ⟨tb, 0, none⟩)] w fun e w' => e = .returned (.tuple #[.pointer (some ⟨w.heap.size, 0, none⟩), .bool true]) ∧
      (∃ ow, KeepH w' ow w.heap.size 0 fl0 ∧ ∀ k, k < w.heap.size → ow k = 0) ∧ Mod No w w' := by
  have HO := hide (open_walk tb 1099511627776 cs w h h8 (by omega))
  have K0 := hide (keep_start w)
  have M0 := hide ((Mod.refl No w).alloc (.cells (keepCells 0 noP) 108))
  have l0 := (Has.new w (keepCells 0 noP) 108).lt
  clear h h8
  go_enter Try.func12, Try.ntmps12
  go_wp2_with fail
  refine (unhide HO).mono ?_
  rintro e w1 ⟨rfl, rfl⟩
  clear HO
  generalize w.alloc (.cells (keepCells 0 noP) 108) = w1 at *
  go_wp2_with fail
  have HD : Calls Try.prog 24 #[.pointer (some ⟨w.heap.size, 0, none⟩), .agg #[.int .i64 1, .int .i64 1, .int .i64 0, .int .i64 0, .int .i64 0, .int .i64 0, .int .i64 0, .int .i64 0, .int .i64 0, .int .i64 4, .int .i64 3, .int .i64 2, .int .i64 10, .int .i64 8, .int .i64 5, .int .i64 1]] (w1.alloc (.cells #[.int .i64 4, .int .i64 3, .int .i64 2, .int .i64 10, .int .i64 8, .int .i64 5, .int .i64 1] 35)) fun e w' => e = .returned (.int .i64 0) ∧ Kept (w1.alloc (.cells #[.int .i64 4, .int .i64 3, .int .i64 2, .int .i64 10, .int .i64 8, .int .i64 5, .int .i64 1] 35)) w' (fun k => if k = w.heap.size then 1 else 0) w.heap.size 0 fl0 := by
    have := do_any ((unhide K0).mod ((Mod.refl No _).alloc (.cells #[.int .i64 4, .int .i64 3, .int .i64 2, .int .i64 10, .int .i64 8, .int .i64 5, .int .i64 1] 35)) (fun _ _ x => x)) (by omega) addC
    rw [doK_begun] at this
    exact this
  refine HD.mono ?_
  rintro e w2 ⟨rfl, ⟨ow, k2, ho⟩, m2⟩
  have H0 : ∀ W, Mod No w2 W → Calls Try.prog 23 #[.pointer (some ⟨w.heap.size, 0, none⟩), .int .i64 1, .int .i64 0] W fun e w' => e = .returned (.tuple #[.int .i64 9, .int .i64 0]) ∧ Mod No W w' := fun W hW => by
    have := left_any (k2.mod hW (fun _ _ x => x)) 1 0
    rw [left_begun0] at this
    exact this
  have H2 : ∀ W, Mod No w2 W → Calls Try.prog 23 #[.pointer (some ⟨w.heap.size, 0, none⟩), .int .i64 1, .int .i64 2] W fun e w' => e = .returned (.tuple #[.int .i64 5, .int .i64 0]) ∧ Mod No W w' := fun W hW => by
    have := left_any (k2.mod hW (fun _ _ x => x)) 1 2
    rw [left_begun2] at this
    exact this
  have K2 := hide k2
  have OW := hide ho
  have M2 := hide ((((unhide M0).alloc _).mono (fun k hk (x : No k) => x.elim)).trans' (S := No) m2 (fun i hi hl => hi (if_neg (by omega))))
  have HH0 := hide H0
  have HH2 := hide H2
  clear H0 H2 k2 ho m2 HD K0 M0
  go_wp2_with fail
  refine ((unhide HH0) _ (Mod.refl _ _)).mono ?_
  rintro e w3 ⟨rfl, m3⟩
  have M3 := hide m3
  clear m3
  go_wp2_with fail
  refine ((unhide HH2) _ (unhide M3)).mono ?_
  rintro e w4 ⟨rfl, m4⟩
  have M4 := hide ((unhide M3).trans m4)
  clear m4
  go_wp2
  go_ret2
  refine ⟨rfl, ⟨ow, (unhide K2).mod (unhide M4) (fun _ _ x => x), fun k hk => ?_⟩, (unhide M2).trans (unhide M4)⟩
  rw [(unhide OW) k (by simp; omega)]
  exact if_neg (by omega)

theorem first_any (w : World) : Calls Try.prog 14 #[] w fun e w' => ∃ cs, cs.size = 84 ∧ e = .returned (.pointer (some ⟨w.heap.size, 0, none⟩)) ∧ Has w' w.heap.size cs 97 ∧ Mod No w w' := by
  go_enter Try.func14, Try.ntmps14
  go_wp2
  go_ret
  exact ⟨_, rfl, rfl, Has.new w _ _, (Mod.refl No w).alloc _⟩
end Go.Proofs.Ytlcbemcamdafjaa
/- A command is done, and the limits are kept in mind. -/
namespace Go.Proofs.Ytlcbemcamdafjaa
open Go.RowKit
open Go.ChangeMaps (setBlock)
open M
set_option linter.unusedVariables false
set_option linter.unusedSimpArgs false
set_option maxRecDepth 100000
set_option maxHeartbeats 2000000

structure DoesOk (w w' : World) (ow : Nat → Nat) (kb lb : Nat) (now : Int) (fl : Nat → Option (Pla × List Sea)) : Prop where
  keep : ∃ ow', KeepH w' ow' kb now fl ∧ ∀ k, k < w.heap.size → ow' k = ow k
  lim : ∃ cs, cs.size = 84 ∧ Has w' lb cs 97
  mod : Mod (fun k => ow k ≠ 0 ∨ k = lb) w w'

theorem doK_add {now : Int} {fl : Nat → Option (Pla × List Sea)} {c : Cmd} (h : (doK now fl c).1 = 0) (hk : c.kind = 1) : 1 ≤ c.flight ∧ c.flight ≤ 20 := by
  unfold doK at h
  rw [if_neg (by omega), if_neg (by omega)] at h
  by_cases hf : 1 ≤ c.flight ∧ c.flight ≤ 20
  · exact hf
  · rw [if_pos hf] at h
    exact absurd h (by simp)

theorem does_any {w : World} {ow : Nat → Nat} {kb lb : Nat} {now : Int} {fl : Nat → Option (Pla × List Sea)} (h : KeepH w ow kb now fl) (hn : 0 ≤ now ∧ now ≤ 4611686018427387000) (c : Cmd) (cs : Array Value) (hs : cs.size = 84) (hb : Has w lb cs 97) (hol : ow lb = 0) :
    Calls Try.prog 16 #[.pointer (some ⟨kb, 0, none⟩), .agg (cmdCells c), .pointer (some ⟨lb, 0, none⟩)] w fun e w' =>
      e = .returned (.int .i64 (doK now fl c).1) ∧ DoesOk w w' ow kb lb (doK now fl c).2.1 (doK now fl c).2.2 := by
  have hlb := hb.lt
  have HD := hide (do_any (h.mod ((Mod.refl No w).alloc (.cells (cmdCells c) 37)) (fun _ _ x => x)) hn c)
  have HB := hide (hb.alloc (.cells (cmdCells c) 37))
  have HC := hide (Has.new w (cmdCells c) 37)
  have M0 := hide ((Mod.refl No w).alloc (.cells (cmdCells c) 37))
  have HO := hide (show ow w.heap.size = 0 from by
    obtain ⟨pt, hx⟩ := h
    by_cases e : ow w.heap.size = 0
    · exact e
    · have := hx.old _ e; omega)
  have HA := hide fun (q : (doK now fl c).1 = 0) (r : c.kind = 1) => doK_add q r
  generalize doK now fl c = D at *
  obtain ⟨r, now', fl'⟩ := D
  simp only at *
  clear h hb
  unfold cmdCells at *
  go_enter Try.func16, Try.ntmps16
  go_wp2_with fail
  refine (unhide HD).mono ?_
  rintro e w2 ⟨rfl, ⟨ow', k2, ho⟩, m2⟩
  have b2 := m2.has (unhide HB) (by simp [hol])
  have c2 := m2.has (unhide HC) (by simp [unhide HO])
  have cc := c2.cell
  have M2 := hide (((unhide M0).mono (S' := fun k => ow k ≠ 0) (fun _ _ x => x.elim)).trans m2)
  have K2 := hide k2
  have HO2 := hide (fun k hk => ho k hk)
  have B2 := hide b2
  have lc2 := c2.lt
  have lb2 := b2.lt
  clear k2 ho m2 b2 c2 HD HB HC M0
  have R0 : DoesOk w w2 ow kb lb now' fl' := ⟨⟨ow', unhide K2, fun k hk => (unhide HO2) k (by simp; omega)⟩, ⟨cs, hs, unhide B2⟩, (unhide M2).mono (fun _ _ x => .inl x)⟩
  have R0 := hide R0
  by_cases h0 : r = 0
  case neg =>
    clear K2 HO2 B2 M2 HA
    have e0 : (r == 0) = false := by simp [h0]
    go_wp2
    go_ret
    exact ⟨rfl, unhide R0⟩
  by_cases h1 : c.kind = 1
  case neg =>
    clear K2 HO2 B2 M2 HA
    have e1 : (c.kind == 1) = false := by simp [h1]
    subst h0
    go_wp2
    go_ret
    exact ⟨rfl, unhide R0⟩
  obtain ⟨f1, f2⟩ := (unhide HA) h0 h1
  obtain ⟨n, hfn⟩ : ∃ n : Nat, c.flight = (n : Int) := ⟨c.flight.toNat, by omega⟩
  subst h0
  have e1 : (c.kind == 1) = true := by simp [h1]
  rw [hfn] at cc f1 f2
  have i21 : (n : Int) < 21 := by omega
  have i0 : (0 : Int) ≤ n := by omega
  have fz := (unhide B2).frozen
  obtain ⟨v0, g0⟩ : ∃ v, w2.cell? ⟨lb, n * 4, none⟩ = some v := ⟨_, by rw [(unhide B2).cell, Array.getElem?_eq_getElem (by omega)]⟩
  obtain ⟨v1, g1⟩ : ∃ v, w2.cell? ⟨lb, n * 4 + 1, none⟩ = some v := ⟨_, by rw [(unhide B2).cell, Array.getElem?_eq_getElem (by omega)]⟩
  obtain ⟨v2, g2⟩ : ∃ v, w2.cell? ⟨lb, n * 4 + 2, none⟩ = some v := ⟨_, by rw [(unhide B2).cell, Array.getElem?_eq_getElem (by omega)]⟩
  obtain ⟨v3, g3⟩ : ∃ v, w2.cell? ⟨lb, n * 4 + 3, none⟩ = some v := ⟨_, by rw [(unhide B2).cell, Array.getElem?_eq_getElem (by omega)]⟩
  have hp : ∀ o, (fun k => ow k ≠ 0 ∨ k = lb) (⟨lb, o, none⟩ : Addr).block ∨ w.heap.size ≤ (⟨lb, o, none⟩ : Addr).block := fun o => .inl (.inr rfl)
  have hq : ∀ o, (fun k => k = lb) (⟨lb, o, none⟩ : Addr).block ∨ w2.heap.size ≤ (⟨lb, o, none⟩ : Addr).block := fun o => .inl rfl
  have ol : ow' lb = 0 := by rw [(unhide HO2) lb (by simp; omega)]; exact hol
  have R1 := hide (show DoesOk w ((((w2.setCell ⟨lb, n * 4, none⟩ (.int .i64 c.pla.l0)).setCell ⟨lb, n * 4 + 1, none⟩ (.int .i64 c.pla.l1)).setCell ⟨lb, n * 4 + 2, none⟩ (.int .i64 c.pla.l2)).setCell ⟨lb, n * 4 + 3, none⟩ (.int .i64 c.pla.l3)).drew ow kb lb now' fl' from
    ⟨⟨ow', (unhide K2).mod (((((Mod.refl (fun k => k = lb) w2).setCell (hq _) _).setCell (hq _) _).setCell (hq _) _).setCell (hq _) _).drew (fun k hk e => by subst e; exact hk ol), fun k hk => (unhide HO2) k (by simp; omega)⟩,
     ⟨_, by simpa using hs, ((((((unhide B2).set (n * 4) _).set (n * 4 + 1) _).set (n * 4 + 2) _).set (n * 4 + 3) _)).drew⟩,
     (((((((unhide M2).mono (fun _ _ x => .inl x)).setCell (hp _) _).setCell (hp _) _).setCell (hp _) _).setCell (hp _) _)).drew⟩)
  clear K2 HO2 B2 M2 HA R0
  go_wp2_with fail
  go_region
  all_goals go_wp2
  all_goals go_ret
  all_goals exact ⟨rfl, unhide R1⟩
end Go.Proofs.Ytlcbemcamdafjaa
/- A row of seats in memory. -/
namespace Go.Proofs.Ytlcbemcamdafjaa
open Go.RowKit
open M
set_option linter.unusedVariables false
set_option linter.unusedSimpArgs false
set_option maxRecDepth 100000
set_option maxHeartbeats 2000000

def seaV (s : Sea) : Array Value := #[.int .i64 s.row, .int .i64 s.col, .int .i64 s.st, .int .i64 s.pa, .int .i64 s.cl, .int .i64 s.un]

/-- A row of seats in a block of its own. -/
structure RowS (w : World) (g cap : Nat) (l : List Sea) : Prop where
  cur : ∃ cur, Has w g cur 61 ∧ cur.size = cap * 6 ∧ ∀ i (h : i < l.length) j, j < 6 → cur[i * 6 + j]? = (seaV l[i])[j]?
  le : l.length ≤ cap
  max : cap ≤ maxLen

theorem RowS.cell {w : World} {g cap : Nat} {l : List Sea} (h : RowS w g cap l) (i : Nat) (hi : i < l.length) (j : Nat) (hj : j < 6) : w.cell? ⟨g, i * 6 + j, none⟩ = (seaV l[i])[j]? := by
  obtain ⟨cur, h1, h2, h3⟩ := h.cur
  rw [h1.cell]
  exact h3 i hi j hj

theorem RowS.row {w : World} {g cap : Nat} {l : List Sea} (h : RowS w g cap l) (i : Nat) (hi : i < l.length) : w.cell? ⟨g, i * 6, none⟩ = some (.int .i64 l[i].row) := h.cell i hi 0 (by omega)
theorem RowS.col {w : World} {g cap : Nat} {l : List Sea} (h : RowS w g cap l) (i : Nat) (hi : i < l.length) : w.cell? ⟨g, i * 6 + 1, none⟩ = some (.int .i64 l[i].col) := h.cell i hi 1 (by omega)
theorem RowS.st {w : World} {g cap : Nat} {l : List Sea} (h : RowS w g cap l) (i : Nat) (hi : i < l.length) : w.cell? ⟨g, i * 6 + 2, none⟩ = some (.int .i64 l[i].st) := h.cell i hi 2 (by omega)
theorem RowS.pa {w : World} {g cap : Nat} {l : List Sea} (h : RowS w g cap l) (i : Nat) (hi : i < l.length) : w.cell? ⟨g, i * 6 + 3, none⟩ = some (.int .i64 l[i].pa) := h.cell i hi 3 (by omega)
theorem RowS.cl {w : World} {g cap : Nat} {l : List Sea} (h : RowS w g cap l) (i : Nat) (hi : i < l.length) : w.cell? ⟨g, i * 6 + 4, none⟩ = some (.int .i64 l[i].cl) := h.cell i hi 4 (by omega)
theorem RowS.un {w : World} {g cap : Nat} {l : List Sea} (h : RowS w g cap l) (i : Nat) (hi : i < l.length) : w.cell? ⟨g, i * 6 + 5, none⟩ = some (.int .i64 l[i].un) := h.cell i hi 5 (by omega)
theorem RowS.lt {w : World} {g cap : Nat} {l : List Sea} (h : RowS w g cap l) : g < w.heap.size := by
  obtain ⟨cur, h1, _⟩ := h.cur
  exact h1.lt
theorem RowS.mod {w w' : World} {g cap : Nat} {l : List Sea} {S : Nat → Prop} (h : RowS w g cap l) (hm : Mod S w w') (hg : ¬ S g) : RowS w' g cap l := by
  obtain ⟨cur, h1, h2, h3⟩ := h.cur
  exact ⟨⟨cur, hm.has h1 hg, h2, h3⟩, h.le, h.max⟩

theorem flat_at {α : Type} (k : Nat) (hk : 0 < k) (f : α → List Value) (hf : ∀ x, (f x).length = k) : ∀ (l : List α) (i : Nat) (h : i < l.length) (j : Nat), j < k → (l.flatMap f)[i * k + j]? = (f l[i])[j]?
  | [], i, h, _, _ => absurd h (Nat.not_lt_zero _)
  | x :: l, 0, h, j, hj => by
    rw [List.flatMap_cons, Nat.zero_mul, Nat.zero_add, List.getElem?_append_left (by rw [hf]; exact hj)]
    rfl
  | x :: l, i + 1, h, j, hj => by
    rw [List.flatMap_cons, List.getElem?_append_right (by rw [hf, Nat.add_mul]; omega), hf]
    rw [show (i + 1) * k + j - k = i * k + j by rw [Nat.add_mul, Nat.one_mul]; omega]
    exact flat_at k hk f hf l i (by simpa using h) j hj
theorem flat_len {α : Type} (k : Nat) (f : α → List Value) (hf : ∀ x, (f x).length = k) : ∀ (l : List α), (l.flatMap f).length = l.length * k
  | [] => by simp
  | x :: l => by rw [List.flatMap_cons, List.length_append, flat_len k f hf l, hf, List.length_cons, Nat.add_mul]; omega

def seaL (s : Sea) : List Value := (seaV s).toList
theorem seaL_len (s : Sea) : (seaL s).length = 6 := rfl

/-- A row that has grown is a row of seats. -/
theorem rowS_of {w : World} {g n cap : Nat} {l : List Sea} (h : w.ownsRow 0 61 6 (.slice (some ⟨g, 0, none⟩) n cap) l.length (l.flatMap seaL)) : n = l.length ∧ RowS w g cap l := by
  obtain ⟨h0, h1 | ⟨g', cap', cur, hv, hb, hg, hn, hm, hsz, ht⟩⟩ := h
  · exact absurd h1.1 (by simp)
  · injection hv with e1 e2 e3
    injection e1 with e1
    injection e1 with e1
    subst e1 e2 e3
    refine ⟨rfl, ⟨cur, hg, hsz, fun i hi j hj => ?_⟩, hn, hm⟩
    have := flat_at 6 (by omega) seaL seaL_len l i hi j hj
    rw [← ht, List.getElem?_take, if_pos (by omega)] at this
    rw [← Array.getElem?_toList, this]
    simp [seaL]

theorem rowS_owns {w : World} {g cap : Nat} {l : List Sea} (h : RowS w g cap l) : w.ownsRow 0 61 6 (.slice (some ⟨g, 0, none⟩) l.length cap) l.length (l.flatMap seaL) := by
  obtain ⟨cur, h1, h2, h3⟩ := h.cur
  refine ⟨flat_len 6 seaL seaL_len l, .inr ⟨g, cap, cur, rfl, Nat.zero_le _, h1, h.le, h.max, h2, ?_⟩⟩
  apply List.ext_getElem?
  intro k
  rw [List.getElem?_take]
  by_cases hk : k < l.length * 6
  · rw [if_pos hk]
    have hi : k / 6 < l.length := by omega
    have e : k = k / 6 * 6 + k % 6 := by omega
    rw [e, flat_at 6 (by omega) seaL seaL_len l (k / 6) hi (k % 6) (by omega), Array.getElem?_toList, h3 _ hi _ (by omega)]
    simp [seaL]
  · rw [if_neg hk, List.getElem?_eq_none (by rw [flat_len 6 seaL seaL_len]; omega)]

theorem info114 : (Try.prog.info? 61).map (fun i => (i.zero, i.size, i.bytes)) = some (some (.agg #[.int .i64 0, .int .i64 0, .int .i64 0, .int .i64 0, .int .i64 0, .int .i64 0]), 6, 48) := by kernel_rfl

end Go.Proofs.Ytlcbemcamdafjaa
/- Pages of seats: a cursor against the empty one; what a seat is told as. -/
namespace Go.Proofs.Ytlcbemcamdafjaa
open Go.RowKit
open M
set_option linter.unusedVariables false
set_option linter.unusedSimpArgs false
set_option maxRecDepth 100000
set_option maxHeartbeats 2000000

theorem eq2 (n : Nat) (a b c d : Int) (w : World) : (Op.equalIn (n + 2) 32 (.agg #[.int .i64 a, .int .i64 b]) (.agg #[.int .i64 c, .int .i64 d])).run Try.prog w = .ok (a == c && b == d) w := by
  have hs : Try.prog.stoodInHeld 32 = false := by kernel_rfl
  have r : ∀ x y : Int, (Op.equalIn (n + 1) 3 (.int .i64 x) (.int .i64 y)).run Try.prog w = .ok (x == y) w := fun x y => run_equalIn_int w n 3 .i64 .i64 x y Try.underlying3
  have p0 : ∀ x y : Int, (part 3 #[.int .i64 x, .int .i64 y] 0).run Try.prog w = .ok (.int .i64 x) w := fun x y => part3 _ _ _ rfl w
  have p1 : ∀ x y : Int, (part 3 #[.int .i64 x, .int .i64 y] 1).run Try.prog w = .ok (.int .i64 y) w := fun x y => part3 _ _ _ rfl w
  conv => lhs; arg 2; unfold Op.equalIn
  simp [Sem.run_bind, run_underlying Try.underlying32, Sem.run, program, hs, r, p0, p1]
  by_cases h1 : a = c <;> by_cases h2 : b = d <;> simp [h1, h2]

theorem eq3 (a b e c d f : Int) (w : World) : (Op.equalIn 10000 63 (.agg #[.int .i64 a, .int .i64 b, .int .i64 e]) (.agg #[.int .i64 c, .int .i64 d, .int .i64 f])).run Try.prog w = .ok ((a == c && b == d) && e == f) w := by
  have hs : Try.prog.stoodInHeld 63 = false := by kernel_rfl
  have r : ∀ x y : Int, (Op.equalIn 9999 3 (.int .i64 x) (.int .i64 y)).run Try.prog w = .ok (x == y) w := fun x y => run_equalIn_int w 9998 3 .i64 .i64 x y Try.underlying3
  have r2 : ∀ a b c d : Int, (Op.equalIn 9999 32 (.agg #[.int .i64 a, .int .i64 b]) (.agg #[.int .i64 c, .int .i64 d])).run Try.prog w = .ok (a == c && b == d) w := fun a b c d => eq2 9997 a b c d w
  have p0 : ∀ x y z : Int, (part 32 #[.int .i64 x, .int .i64 y, .int .i64 z] 0).run Try.prog w = .ok (.agg #[.int .i64 x, .int .i64 y]) w := fun x y z => by kernel_rfl
  have p1 : ∀ x y z : Int, (part 3 #[.int .i64 x, .int .i64 y, .int .i64 z] 2).run Try.prog w = .ok (.int .i64 z) w := fun x y z => part3 _ _ _ rfl w
  rw [show (10000 : Nat) = 9999 + 1 from rfl]
  conv => lhs; arg 2; unfold Op.equalIn
  simp [Sem.run_bind, run_underlying Try.underlying63, Sem.run, program, hs, r, r2, p0, p1]
  by_cases h1 : a = c <;> by_cases h2 : b = d <;> by_cases h3 : e = f <;> simp [h1, h2, h3]

/-- Is a cursor the empty one? -/
def isZ (a b e : Int) : Bool := (a == 0 && b == 0) && e == 0
theorem eq3z (a b e : Int) (w : World) : (Op.equalIn 10000 63 (.agg #[.int .i64 a, .int .i64 b, .int .i64 e]) (.agg #[.int .i64 0, .int .i64 0, .int .i64 0])).run Try.prog w = .ok (isZ a b e) w := eq3 a b e 0 0 0 w

/-- Has a place so many places ahead of it? -/
theorem ahead_walk (b : Nat) (cs : Array Value) (T : TypeId) (r c C : Int) (w : World) (h : Has w b cs T) (h1 : cs[1]? = some (.int .i64 C)) (hr : 1 ≤ r ∧ r ≤ 1000) (hc : 1 ≤ c ∧ c ≤ 1000) (hC : 1 ≤ C ∧ C ≤ 1000) :
    Calls Try.prog 70 #[.pointer (some ⟨b, 0, none⟩), .agg #[.int .i64 r, .int .i64 c]] w fun e w' => e = .returned (.int .i64 ((r - 1) * C + c - 1)) ∧ Mod No w w' := by
  have c1 := h.cell 1
  rw [h1] at c1
  have hlt := h.lt
  have m0 : 0 ≤ (r - 1) * C := Int.mul_nonneg (by omega) (by omega)
  have m1 : (r - 1) * C ≤ 1000 * 1000 := Int.mul_le_mul (by omega) (by omega) (by omega) (by omega)
  have w1 : IntKind.i64.wrap (r - 1) = r - 1 := wrap_id _ (by omega) (by omega)
  have w2 : IntKind.i64.wrap ((r - 1) * C) = (r - 1) * C := wrap_id _ (by omega) (by omega)
  have w3 : IntKind.i64.wrap ((r - 1) * C + c) = (r - 1) * C + c := wrap_id _ (by omega) (by omega)
  have w4 : IntKind.i64.wrap ((r - 1) * C + c - 1) = (r - 1) * C + c - 1 := wrap_id _ (by omega) (by omega)
  clear h h1 m0 m1
  go_enter Try.func70, Try.ntmps70
  go_wp2
  go_quiet (fail)
  go_wp2
  go_ret
  exact ⟨rfl, ((Mod.refl _ _).alloc _).drewN _⟩

theorem sizeSa : (Try.prog.info? 61).map (·.size) = some 6 := by kernel_rfl
theorem tell_walk (b m : Nat) (cs : Array Value) (r c st pa cl un : Int) (w : World) (h : Has w b cs 121) (h7 : cs[7]? = some (.map (some m)))
    (hL : ∀ W, Mod No w W → (Instr.lookup 119 (.map (some m)) (.agg #[.int .i64 r, .int .i64 c]) false).run Try.prog W = .ok (.agg #[.int .i64 st, .int .i64 pa, .int .i64 cl, .int .i64 un]) W) :
    Calls Try.prog 57 #[.pointer (some ⟨b, 0, none⟩), .agg #[.int .i64 r, .int .i64 c]] w fun e w' => e = .returned (.agg #[.int .i64 r, .int .i64 c, .int .i64 st, .int .i64 pa, .int .i64 cl, .int .i64 un]) ∧ Mod No w w' := by
  have mA : Mod No w ((w.alloc (.cells #[.int .i64 r, .int .i64 c] 32)).alloc (.cells #[.int .i64 0, .int .i64 0, .int .i64 0, .int .i64 0, .int .i64 0, .int .i64 0] 61)) := ((Mod.refl _ w).alloc _).alloc _
  have c7 := (mA.has h (fun x => x)).cell 7
  rw [h7] at c7
  have hlt := (mA.has h (fun x => x)).lt
  have l1 := fun X => hL ((((w.alloc (.cells #[.int .i64 r, .int .i64 c] 32)).alloc (.cells #[.int .i64 0, .int .i64 0, .int .i64 0, .int .i64 0, .int .i64 0, .int .i64 0] 61))).alloc X).drew (mA.alloc X).drew
  have l2 := hL (((w.alloc (.cells #[.int .i64 r, .int .i64 c] 32)).alloc (.cells #[.int .i64 0, .int .i64 0, .int .i64 0, .int .i64 0, .int .i64 0, .int .i64 0] 61))).drew mA.drew
  have BA := hide ((Has.new w #[.int .i64 r, .int .i64 c] 32).alloc (.cells #[.int .i64 0, .int .i64 0, .int .i64 0, .int .i64 0, .int .i64 0, .int .i64 0] 61))
  have bA := ((Has.new w #[.int .i64 r, .int .i64 c] 32).alloc (.cells #[.int .i64 0, .int .i64 0, .int .i64 0, .int .i64 0, .int .i64 0, .int .i64 0] 61)).cell
  have lA := ((Has.new w #[.int .i64 r, .int .i64 c] 32).alloc (.cells #[.int .i64 0, .int .i64 0, .int .i64 0, .int .i64 0, .int .i64 0, .int .i64 0] 61)).lt
  have bR := Has.new (w.alloc (.cells #[.int .i64 r, .int .i64 c] 32)) #[.int .i64 0, .int .i64 0, .int .i64 0, .int .i64 0, .int .i64 0, .int .i64 0] 61
  rw [World.size_alloc] at bR
  have cR := bR.cell
  have fR := bR.frozen
  have lR := bR.lt
  have MA := hide mA
  have BR := hide bR
  clear h h7 hL mA bR
  go_enter Try.func57, Try.ntmps57
  go_wp2
  generalize ((w.alloc (.cells #[.int .i64 r, .int .i64 c] 32)).alloc (.cells #[.int .i64 0, .int .i64 0, .int .i64 0, .int .i64 0, .int .i64 0, .int .i64 0] 61)) = W0 at *
  go_region
  have B1 := ((unhide BA).alloc (.cells #[.int .i64 st, .int .i64 pa, .int .i64 cl, .int .i64 un] 143)).drew
  have R1 := ((unhide BR).alloc (.cells #[.int .i64 st, .int .i64 pa, .int .i64 cl, .int .i64 un] 143)).drew
  have S1 := (Has.new W0 #[.int .i64 st, .int .i64 pa, .int .i64 cl, .int .i64 un] 143).drew
  have M1 := hide ((unhide MA).alloc (.cells #[.int .i64 st, .int .i64 pa, .int .i64 cl, .int .i64 un] 143)).drew
  clear l1 l2 bA lA cR fR lR c7 hlt MA BA BR
  have hne : w.heap.size + 1 ≠ W0.heap.size := by have := R1.ne S1 (by decide); exact this
  generalize (W0.alloc (.cells #[.int .i64 st, .int .i64 pa, .int .i64 cl, .int .i64 un] 143)).drew = W1 at *
  generalize W0.heap.size = sb at *
  have b1 := B1.cell
  have s1 := S1.cell
  have RR := hide R1
  clear B1 S1 R1
  go_wp2_with (first | (refine wpList_store_has rfl 61 _ _ rfl (w.heap.size + 1) #[.int .i64 r, .int .i64 c, .int .i64 st, .int .i64 pa, .int .i64 cl, .int .i64 un] rfl rfl #[.int .i64 0, .int .i64 0, .int .i64 0, .int .i64 0, .int .i64 0, .int .i64 0] 61 (unhide RR) rfl sizeSa (by simp [Value.oneCell']) ?_; intro W2 h2 m2; have M2 := hide ((unhide M1).trans' m2 (fun i hi hl => by omega)); have c2 := h2.cell; have l2 := h2.lt; clear m2))
  have d0 : W2.cell? ⟨w.heap.size + 1, 0, none⟩ = some (.int .i64 r) := c2 0
  have d1 : W2.cell? ⟨w.heap.size + 1, 1, none⟩ = some (.int .i64 c) := c2 1
  have d2 : W2.cell? ⟨w.heap.size + 1, 2, none⟩ = some (.int .i64 st) := c2 2
  have d3 : W2.cell? ⟨w.heap.size + 1, 3, none⟩ = some (.int .i64 pa) := c2 3
  have d4 : W2.cell? ⟨w.heap.size + 1, 4, none⟩ = some (.int .i64 cl) := c2 4
  have d5 : W2.cell? ⟨w.heap.size + 1, 5, none⟩ = some (.int .i64 un) := c2 5
  refine bodyPost_ret (by simp [results, Try.results57, go_sem, d0, d1, d2, d3, d4, d5]; try rfl) rfl ?_
  exact ⟨rfl, unhide M2⟩
end Go.Proofs.Ytlcbemcamdafjaa
