import Derived.Test.YthhibagcpjeihaaGPut2ToChange
import Derived.Deep.DeepCutAuto
import Derived.BigQuiet
import Derived.Handy
import Derived.Deep.QuietTactic
import Derived.Maps.RangeRun
/- A flight is given its plane. -/
namespace Go.Proofs.Ythhibagcpjeihaa
open Go.RowKit
open Go.ChangeMaps (setBlock)
open M
set_option linter.unusedVariables false
set_option linter.unusedSimpArgs false
set_option maxRecDepth 100000

/-- The empty seats of a plane, in their order. -/
def emptySeats (p : Pla) : List Sea := (List.range (p.rows * p.cols).toNat).map fun i : Nat => ⟨(i : Int) / p.cols + 1, (i : Int) % p.cols + 1, 0, 0, 0, 0⟩

theorem empty_wf {p : Pla} (h1 : p.sized = true) (h2 : p.limited = true) : Wf p (emptySeats p) := by
  have hb := h1
  simp only [Pla.sized, decide_eq_true_eq] at hb
  refine ⟨h1, h2, ?_, fun i hi => ?_, fun s hs => ?_⟩
  · have : 0 ≤ p.rows * p.cols := Int.mul_nonneg (by omega) (by omega)
    simp [emptySeats]
    omega
  · simp [emptySeats]
  · simp only [emptySeats, List.mem_map] at hs
    obtain ⟨i, _, rfl⟩ := hs
    exact ⟨by simp, by simp, by simp, by simp, by simp, by simp, by simp, by simp⟩

theorem countP_lt (n k : Nat) : (List.range n).countP (fun i => decide (i < k)) = min k n := by
  induction n with
  | zero => simp
  | succ n ih =>
    rw [List.range_succ, List.countP_append, ih]
    by_cases h : n < k
    · simp [h]; omega
    · simp [h]; omega

theorem row_le {p : Pla} (hc : 1 ≤ p.cols) (i : Nat) : ((i : Int) / p.cols + 1 ≤ p.front) ↔ i < (p.front * p.cols).toNat := by
  have h1 : (i : Int) / p.cols + 1 ≤ p.front ↔ (i : Int) / p.cols < p.front := by omega
  rw [h1, Int.ediv_lt_iff_lt_mul (by omega)]
  omega

theorem empty_A {p : Pla} (h1 : p.sized = true) (j : Nat) : cA p (emptySeats p) j = if j = 0 then p.front * p.cols else 0 := by
  simp only [Pla.sized, decide_eq_true_eq] at h1
  have hf : 0 ≤ p.front * p.cols := Int.mul_nonneg (by omega) (by omega)
  have hle : p.front * p.cols ≤ p.rows * p.cols := Int.mul_le_mul_of_nonneg_right (by omega) (by omega)
  simp only [cA, nAt, emptySeats, List.countP_map]
  have e : (fun s : Sea => (decide (s.row ≤ p.front) == true) && s.st == (j : Int)) ∘ (fun i : Nat => (⟨(i : Int) / p.cols + 1, (i : Int) % p.cols + 1, 0, 0, 0, 0⟩ : Sea)) = fun i => decide (i < (p.front * p.cols).toNat) && decide (j = 0) := by
    funext i
    simp only [Function.comp, beq_true]
    rw [show ((0 : Int) == (j : Int)) = decide (0 = j) from beq_cast 0 j, decide_eq_decide.2 (row_le (by omega) i), show decide (0 = j) = decide (j = 0) from decide_eq_decide.2 eq_comm]
  rw [e]
  by_cases hj : j = 0
  · simp only [hj, decide_true, Bool.and_true, if_true]
    rw [countP_lt]
    omega
  · simp [hj]

theorem empty_B {p : Pla} (h1 : p.sized = true) (j : Nat) : cB p (emptySeats p) j = if j = 0 then (p.rows - p.front) * p.cols else 0 := by
  simp only [Pla.sized, decide_eq_true_eq] at h1
  have hf : 0 ≤ p.front * p.cols := Int.mul_nonneg (by omega) (by omega)
  have hle : p.front * p.cols ≤ p.rows * p.cols := Int.mul_le_mul_of_nonneg_right (by omega) (by omega)
  have hs : (p.rows - p.front) * p.cols = p.rows * p.cols - p.front * p.cols := Int.sub_mul _ _ _
  simp only [cB, nAt, emptySeats, List.countP_map]
  have e : (fun s : Sea => (decide (s.row ≤ p.front) == false) && s.st == (j : Int)) ∘ (fun i : Nat => (⟨(i : Int) / p.cols + 1, (i : Int) % p.cols + 1, 0, 0, 0, 0⟩ : Sea)) = fun i => !decide (i < (p.front * p.cols).toNat) && decide (j = 0) := by
    funext i
    simp only [Function.comp, beq_false]
    rw [show ((0 : Int) == (j : Int)) = decide (0 = j) from beq_cast 0 j, decide_eq_decide.2 (row_le (by omega) i), show decide (0 = j) = decide (j = 0) from decide_eq_decide.2 eq_comm]
  rw [e]
  by_cases hj : j = 0
  · simp only [hj, decide_true, Bool.and_true, if_true]
    have h2 := List.length_eq_countP_add_countP (fun i => decide (i < (p.front * p.cols).toNat)) (l := List.range (p.rows * p.cols).toNat)
    rw [countP_lt] at h2
    simp only [List.length_range] at h2
    have h3 : List.countP (fun a => decide ¬decide (a < (p.front * p.cols).toNat) = true) (List.range (p.rows * p.cols).toNat) = List.countP (fun i => !decide (i < (p.front * p.cols).toNat)) (List.range (p.rows * p.cols).toNat) := by
      congr 1; funext a; by_cases h : a < (p.front * p.cols).toNat <;> simp [h] <;> omega
    rw [h3] at h2
    omega
  · simp [hj]

theorem empty_S (p : Pla) (j : Nat) : cS (emptySeats p) j = 0 := by
  simp only [cS, nSold, emptySeats, List.countP_map]
  have e : (fun s : Sea => s.sold && s.cl == (j : Int)) ∘ (fun i : Nat => (⟨(i : Int) / p.cols + 1, (i : Int) % p.cols + 1, 0, 0, 0, 0⟩ : Sea)) = fun i => false := by
    funext i
    simp [Sea.sold]
  rw [e]
  simp

theorem run_makeMap (w : World) : (Instr.makeMap 136 none).run Try.prog w = .ok (.map (some w.heap.size)) (w.alloc (.map #[] 0)) := by
  simp [Instr.makeMap, newObj, Sem.run]
attribute [local go_sem] run_makeMap

/-- The world, forgotten but for what is said of it. -/
theorem wp_world {P : Program} {c : Code} {Q : Exit → Act → World → Prop} {a : Act} {w : World} (R : World → Prop) (h : R w) (k : ∀ w, R w → c.wp P Q a w) : c.wp P Q a w := k w h

theorem clear_totals (r c f l0 l1 l2 l3 : Int) (M : Value) (a0 a1 a2 a3 b0 b1 b2 b3 s0 s1 s2 s3 e0 e1 e2 e3 ep : Int) :
    (((((((((((((fcs r c f l0 l1 l2 l3 M a0 a1 a2 a3 b0 b1 b2 b3 s0 s1 s2 s3 e0 e1 e2 e3 ep).setIfInBounds 8 (.int .i64 0)).setIfInBounds 9 (.int .i64 0)).setIfInBounds 10 (.int .i64 0)).setIfInBounds 11 (.int .i64 0)).setIfInBounds 12 (.int .i64 0)).setIfInBounds 13 (.int .i64 0)).setIfInBounds 14 (.int .i64 0)).setIfInBounds 15 (.int .i64 0)).setIfInBounds 16 (.int .i64 0)).setIfInBounds 17 (.int .i64 0)).setIfInBounds 18 (.int .i64 0)).setIfInBounds 19 (.int .i64 0)) = fcs r c f l0 l1 l2 l3 M 0 0 0 0 0 0 0 0 0 0 0 0 e0 e1 e2 e3 ep := by kernel_rfl

set_option maxHeartbeats 4000000 in
theorem fit_walk (b : Nat) (p : Pla) (r0 c0 f0 k0 k1 k2 k3 : Int) (M0 : Value) (a0 a1 a2 a3 b0 b1 b2 b3 s0 s1 s2 s3 e0 e1 e2 e3 ep : Int) (e' : Nat → Int) (w : World)
    (h : Has w b (fcs r0 c0 f0 k0 k1 k2 k3 M0 a0 a1 a2 a3 b0 b1 b2 b3 s0 s1 s2 s3 e0 e1 e2 e3 ep) 138) (x y : Int)
    (w1 : IntKind.i64.wrap (p.front * p.cols) = x) (w2 : IntKind.i64.wrap (p.rows - p.front) = p.rows - p.front) (w3 : IntKind.i64.wrap ((p.rows - p.front) * p.cols) = y)
    (hR : ∀ W m, Has W b (fcs p.rows p.cols p.front p.l0 p.l1 p.l2 p.l3 (.map (some m)) x 0 0 0 y 0 0 0 0 0 0 0 e0 e1 e2 e3 ep) 138 → Calls Try.prog 106 #[.pointer (some ⟨b, 0, none⟩)] W fun e w' => e = .returned (.tuple #[]) ∧ Mod (fun k => k = b) W w' ∧
      Has w' b (fcs p.rows p.cols p.front p.l0 p.l1 p.l2 p.l3 (.map (some m)) x 0 0 0 y 0 0 0 0 0 0 0 (e' 0) (e' 1) (e' 2) (e' 3) ep) 138) :
    Calls Try.prog 131 #[.pointer (some ⟨b, 0, none⟩), .agg #[.int .i64 p.rows, .int .i64 p.cols, .int .i64 p.front, .int .i64 p.l0, .int .i64 p.l1, .int .i64 p.l2, .int .i64 p.l3]] w fun e w' =>
      e = .returned (.tuple #[]) ∧ Mod (fun k => k = b) w w' ∧ ∃ m, w.heap.size ≤ m ∧ w'.heap[m]? = some (mapObj [] 0) ∧ Has w' b (fcs p.rows p.cols p.front p.l0 p.l1 p.l2 p.l3 (.map (some m)) x 0 0 0 y 0 0 0 0 0 0 0 (e' 0) (e' 1) (e' 2) (e' 3) ep) 138 := by
  have hlt := h.lt
  have hc := h.cell
  have hz := h.frozen
  unfold fcs at hc
  have H := hide h
  have HR := hide hR
  clear h hR
  obtain ⟨r, c, f, l0, l1, l2, l3, pe⟩ := p
  simp only at *
  go_enter Try.func131, Try.ntmps131
  go_upto_region 2 with fail
  refine wp_world (fun W => Hid (Mod (fun k => k = b) w W) ∧ Hid (Has W w.heap.size #[.int .i64 r, .int .i64 c, .int .i64 f, .int .i64 l0, .int .i64 l1, .int .i64 l2, .int .i64 l3] 35) ∧ Hid (Has W b (fcs r c f l0 l1 l2 l3 M0 a0 a1 a2 a3 b0 b1 b2 b3 s0 s1 s2 s3 e0 e1 e2 e3 ep) 138)) ?_ ?_
  · refine ⟨((((((((Mod.refl _ w).at 0 _).at 1 _).at 2 _).at 3 _).at 4 _).at 5 _).at 6 _).alloc _, ?_, ?_⟩
    · have := Has.new (((((((w.setCell ⟨b, 0, none⟩ (.int .i64 r)).setCell ⟨b, 1, none⟩ (.int .i64 c)).setCell ⟨b, 2, none⟩ (.int .i64 f)).setCell ⟨b, 3, none⟩ (.int .i64 l0)).setCell ⟨b, 4, none⟩ (.int .i64 l1)).setCell ⟨b, 5, none⟩ (.int .i64 l2)).setCell ⟨b, 6, none⟩ (.int .i64 l3)) #[.int .i64 r, .int .i64 c, .int .i64 f, .int .i64 l0, .int .i64 l1, .int .i64 l2, .int .i64 l3] 35
      simp only [World.size_alloc, World.size_setCell] at this
      exact this
    · exact ((((((((unhide H).set 0 _).set 1 _).set 2 _).set 3 _).set 4 _).set 5 _).set 6 _).alloc _
  · rintro W ⟨M1, B1, H1⟩
    have hc := (unhide H1).cell
    have hz := (unhide H1).frozen
    have hlW := (unhide H1).lt
    unfold fcs at hc
    have hbw : b ≠ w.heap.size := by omega
    have HBW := hide hbw
    clear hbw
    go_upto_region 3 with fail
    refine wp_world (fun W => Hid (Mod (fun k => k = b) w W) ∧ Hid (Has W w.heap.size #[.int .i64 r, .int .i64 c, .int .i64 f, .int .i64 l0, .int .i64 l1, .int .i64 l2, .int .i64 l3] 35) ∧ ∃ m, Hid (w.heap.size ≤ m) ∧ Hid (W.heap[m]? = some (mapObj [] 0)) ∧ Hid (m ≠ b) ∧ Hid (Has W b (fcs r c f l0 l1 l2 l3 (.map (some m)) a0 a1 a2 a3 b0 b1 b2 b3 s0 s1 s2 s3 e0 e1 e2 e3 ep) 138)) ?_ ?_
    · refine ⟨((unhide M1).at 7 _).alloc _, ((unhide B1).set_ne (a := ⟨b, 7, none⟩) (fun e => (unhide HBW) e.symm) _).alloc _, W.heap.size, (unhide M1).size, ?_, ?_, ((unhide H1).set 7 _).alloc _⟩
      · have := heap_alloc_new (W.setCell ⟨b, 7, none⟩ (.map (some W.heap.size))) (.map #[] 0)
        rw [World.size_setCell] at this
        exact this
      · intro e; omega
    clear hc hz M1 B1 H1
    rintro W1 ⟨M1, B1, m, hm0, hm1, hmb, H1⟩
    have hc := (unhide H1).cell
    have hz := (unhide H1).frozen
    have hlW1 := (unhide H1).lt
    unfold fcs at hc
    go_upto_region 4 with fail
    refine wp_world (fun W => Hid (Mod (fun k => k = b) w W) ∧ Hid (Has W w.heap.size #[.int .i64 r, .int .i64 c, .int .i64 f, .int .i64 l0, .int .i64 l1, .int .i64 l2, .int .i64 l3] 35) ∧ Hid (W.heap[m]? = some (mapObj [] 0)) ∧ Hid (Has W b (fcs r c f l0 l1 l2 l3 (.map (some m)) 0 0 0 0 0 0 0 0 0 0 0 0 e0 e1 e2 e3 ep) 138)) ?_ ?_
    · have hmod : Mod (fun k => k = b) W1 ((((((((((((W1.setCell ⟨b, 8, none⟩ (.int .i64 0)).setCell ⟨b, 9, none⟩ (.int .i64 0)).setCell ⟨b, 10, none⟩ (.int .i64 0)).setCell ⟨b, 11, none⟩ (.int .i64 0)).setCell ⟨b, 12, none⟩ (.int .i64 0)).setCell ⟨b, 13, none⟩ (.int .i64 0)).setCell ⟨b, 14, none⟩ (.int .i64 0)).setCell ⟨b, 15, none⟩ (.int .i64 0)).setCell ⟨b, 16, none⟩ (.int .i64 0)).setCell ⟨b, 17, none⟩ (.int .i64 0)).setCell ⟨b, 18, none⟩ (.int .i64 0)).setCell ⟨b, 19, none⟩ (.int .i64 0)) :=
        ((((((((((((Mod.refl _ W1).at 8 _).at 9 _).at 10 _).at 11 _).at 12 _).at 13 _).at 14 _).at 15 _).at 16 _).at 17 _).at 18 _).at 19 _
      exact ⟨(unhide M1).trans hmod, hmod.has (unhide B1) (fun e => (unhide HBW) e.symm), hmod.map (unhide hm1) (fun e => (unhide hmb) e),
 by have h12 := (((((((((((((unhide H1).set 8 (.int .i64 0)).set 9 (.int .i64 0)).set 10 (.int .i64 0)).set 11 (.int .i64 0)).set 12 (.int .i64 0)).set 13 (.int .i64 0)).set 14 (.int .i64 0)).set 15 (.int .i64 0)).set 16 (.int .i64 0)).set 17 (.int .i64 0)).set 18 (.int .i64 0)).set 19 (.int .i64 0)); rw [clear_totals] at h12; exact h12⟩
    clear hc hz M1 B1 H1 hm1
    rintro W2 ⟨M2, B2, hm1, H2⟩
    have hc := (unhide H2).cell
    have hz := (unhide H2).frozen
    have hlW := (unhide H2).lt
    have hb1 := (unhide B2).cell
    unfold fcs at hc
    have HBW' := unhide HBW
    go_cut [] (fun wx => Hid (Mod (fun k => k = b) w wx) ∧ Hid (Has wx w.heap.size #[.int .i64 r, .int .i64 c, .int .i64 f, .int .i64 l0, .int .i64 l1, .int .i64 l2, .int .i64 l3] 35) ∧ Hid (wx.heap[m]? = some (mapObj [] 0)) ∧ Hid (Has wx b (fcs r c f l0 l1 l2 l3 (.map (some m)) x 0 0 0 0 0 0 0 0 0 0 0 e0 e1 e2 e3 ep) 138))
    case first =>
      go_region
      all_goals go_wp2
      all_goals go_meet
      all_goals exact ⟨((unhide M2).at 8 _).drew, ((unhide B2).set_ne (a := ⟨b, 8, none⟩) (fun e => HBW' e.symm) _).drew, (by show (World.setCell _ _ _).heap[m]? = _; rw [Below.heap_setCell _ _ _ _ (by exact unhide hmb)]; exact unhide hm1), ((unhide H2).set 8 _).drew⟩
    case rest =>
      obtain ⟨M3, B3, hm3, H3⟩ := hcut
      clear hc hz hlW hb1 M2 B2 hm1 H2
      have hc := (unhide H3).cell
      have hz := (unhide H3).frozen
      have hlW := (unhide H3).lt
      have hb1 := (unhide B3).cell
      unfold fcs at hc
      go_upto_region 5 with fail
      go_cut [] (fun wx => Hid (Mod (fun k => k = b) w wx) ∧ Hid (wx.heap[m]? = some (mapObj [] 0)) ∧ Hid (Has wx b (fcs r c f l0 l1 l2 l3 (.map (some m)) x 0 0 0 y 0 0 0 0 0 0 0 e0 e1 e2 e3 ep) 138))
      case first =>
        go_region
        all_goals go_wp2
        all_goals go_meet
        all_goals exact ⟨((unhide M3).at 12 _).drew, (by show (World.setCell _ _ _).heap[m]? = _; rw [Below.heap_setCell _ _ _ _ (by exact unhide hmb)]; exact unhide hm3), ((unhide H3).set 12 _).drew⟩
      case rest =>
        obtain ⟨M4, hm4, H4⟩ := hcut
        clear hc hz hlW hb1 M3 B3 hm3 H3
        go_wp2_with fail
        refine ((unhide HR) _ m (unhide H4)).mono ?_
        rintro e w5 ⟨rfl, m5, h5⟩
        go_wp2
        go_end0
        exact ⟨rfl, (unhide M4).trans m5, m, unhide hm0, m5.map (unhide hm4) (fun e => (unhide hmb) e), h5⟩

theorem Wf.at {p : Pla} {l : List Sea} (h : Wf p l) (e : Int) : Wf (p.at e) l := ⟨h.sized, h.limited, h.len, h.place, h.seat⟩
/-- A flight's cells, whatever they hold, but for the epoch. -/
def AnyF (w : World) (b : Nat) (ep : Int) : Prop :=
  ∃ r0 c0 f0 k0 k1 k2 k3 M0 a0 a1 a2 a3 b0 b1 b2 b3 s0 s1 s2 s3 e0 e1 e2 e3, Has w b (fcs r0 c0 f0 k0 k1 k2 k3 M0 a0 a1 a2 a3 b0 b1 b2 b3 s0 s1 s2 s3 e0 e1 e2 e3 ep) 138
theorem FlH.any {w : World} {S : Nat → Prop} {b : Nat} {p : Pla} {l : List Sea} (h : FlH w S b p l) : AnyF w b p.ep := by
  obtain ⟨m, es, clock, h1, _⟩ := h
  exact ⟨_, _, _, _, _, _, _, _, _, _, _, _, _, _, _, _, _, _, _, _, _, _, _, _, h1⟩

theorem fit_any {b : Nat} {p : Pla} {w : World} (ep : Int) (h : AnyF w b ep) (h1 : p.sized = true) (h2 : p.limited = true) :
    Calls Try.prog 131 #[.pointer (some ⟨b, 0, none⟩), .agg #[.int .i64 p.rows, .int .i64 p.cols, .int .i64 p.front, .int .i64 p.l0, .int .i64 p.l1, .int .i64 p.l2, .int .i64 p.l3]] w fun e w' =>
      e = .returned (.tuple #[]) ∧ FlH w' (fun k => k = b ∨ w.heap.size ≤ k) b (p.at ep) (emptySeats p) ∧ Mod (fun k => k = b) w w' := by
  obtain ⟨r0, c0, f0, k0, k1, k2, k3, M0, a0, a1, a2, a3, b0, b1, b2, b3, s0, s1, s2, s3, e0', e1', e2', e3', h⟩ := h
  have hb := h1
  simp only [Pla.sized, decide_eq_true_eq] at hb
  have f1 : 0 ≤ p.front * p.cols := Int.mul_nonneg (by omega) (by omega)
  have f2 : p.front * p.cols ≤ 20 * 6 := Int.mul_le_mul (by omega) (by omega) (by omega) (by omega)
  have f3 : 0 ≤ (p.rows - p.front) * p.cols := Int.mul_nonneg (by omega) (by omega)
  have f4 : (p.rows - p.front) * p.cols ≤ 20 * 6 := Int.mul_le_mul (by omega) (by omega) (by omega) (by omega)
  have hwf := empty_wf h1 h2
  obtain ⟨e0, e1, e2, e3⟩ := cE_eq hwf
  have ls := lim_small h2
  simp only [empty_A h1, empty_B h1, empty_S, if_true] at e0 e1 e2 e3
  refine (fit_walk b p _ _ _ _ _ _ _ _ _ _ _ _ _ _ _ _ _ _ _ _ _ _ _ _ ep (cE p (emptySeats p)) w h (p.front * p.cols) ((p.rows - p.front) * p.cols) (wrap_id _ (by omega) (by omega)) (wrap_id _ (by omega) (by omega)) (wrap_id _ (by omega) (by omega)) (fun W m hW => ?_)).mono ?_
  · refine (reckon_any b p.rows p.cols p.front p.l0 p.l1 p.l2 p.l3 _ _ _ _ _ _ _ _ _ _ _ _ _ _ _ _ _ _ W hW (by omega) (by omega) ls).mono ?_
    rintro e w' ⟨rfl, hm, hh⟩
    refine ⟨rfl, hm, ?_⟩
    rw [e0, e1, e2, e3]
    exact hh
  · rintro e w' ⟨rfl, hm, m, hm0, hm1, hh⟩
    refine ⟨rfl, ⟨m, [], 0, ?_, hm1, ⟨by simp, by simp, by simp, by simp⟩, ⟨by simp, fun i hi => ?_, ?_⟩, .inl rfl, .inr hm0⟩, hm⟩
    · have : fcells (p.at ep) (.map (some m)) (emptySeats p) = fcs p.rows p.cols p.front p.l0 p.l1 p.l2 p.l3 (.map (some m)) (cA p (emptySeats p) 0) (cA p (emptySeats p) 1) (cA p (emptySeats p) 2) (cA p (emptySeats p) 3) (cB p (emptySeats p) 0) (cB p (emptySeats p) 1) (cB p (emptySeats p) 2) (cB p (emptySeats p) 3) (cS (emptySeats p) 0) (cS (emptySeats p) 1) (cS (emptySeats p) 2) (cS (emptySeats p) 3) (cE p (emptySeats p) 0) (cE p (emptySeats p) 1) (cE p (emptySeats p) 2) (cE p (emptySeats p) 3) ep := rfl
      rw [this]
      simp only [empty_A h1, empty_B h1, empty_S]
      exact hh
    · simp [emptySeats, lookE]
    · have : (emptySeats p).countP (fun s => s.st != 0) = 0 := by
        rw [List.countP_eq_zero]
        intro s hs
        simp only [emptySeats, List.mem_map] at hs
        obtain ⟨i, _, rfl⟩ := hs
        simp
      rw [this]
      rfl

theorem start_any {b : Nat} {p : Pla} {w : World} (h : Has w b (fcs 0 0 0 0 0 0 0 (.map none) 0 0 0 0 0 0 0 0 0 0 0 0 0 0 0 0 0) 138) (h1 : p.sized = true) (h2 : p.limited = true) :
    Calls Try.prog 130 #[.agg #[.int .i64 p.rows, .int .i64 p.cols, .int .i64 p.front, .int .i64 p.l0, .int .i64 p.l1, .int .i64 p.l2, .int .i64 p.l3], .pointer (some ⟨b, 0, none⟩)] w fun e w' =>
      e = .returned (.tuple #[]) ∧ FlH w' (fun k => k = b ∨ w.heap.size ≤ k) b (p.at 1) (emptySeats p) ∧ Mod (fun k => k = b) w w' := by
  have HF := hide fun W (hW : AnyF W b 0) => fit_any (p := p) 0 hW h1 h2
  have H := hide h
  clear h
  obtain ⟨r, c, f, l0, l1, l2, l3, pe⟩ := p
  simp only at HF ⊢
  go_enter Try.func130, Try.ntmps130
  go_wp2_with fail
  refine ((unhide HF) _ ⟨_, _, _, _, _, _, _, _, _, _, _, _, _, _, _, _, _, _, _, _, _, _, _, _, (unhide H).alloc _⟩).mono ?_
  rintro e w1 ⟨rfl, h1, m1⟩
  have h1 := h1.wide (S' := fun k => k = b ∨ w.heap.size ≤ k) (fun k hk => by rw [World.size_alloc] at hk; omega)
  obtain ⟨c24, z24, l24⟩ : w1.cell? ⟨b, 24, none⟩ = some (.int .i64 0) ∧ w1.frozen? ⟨b, 24, none⟩ = false ∧ b < w1.heap.size := h1.cell24
  have HB := hide (show FlH (w1.setCell ⟨b, 24, none⟩ (.int .i64 1)) (fun k => k = b ∨ w.heap.size ≤ k) b (Pla.at ⟨r, c, f, l0, l1, l2, l3, pe⟩ 1) (emptySeats ⟨r, c, f, l0, l1, l2, l3, pe⟩) from h1.bump.1)
  have M1 := hide (((Mod.refl (fun k => k = b) w).alloc (.cells #[.int .i64 r, .int .i64 c, .int .i64 f, .int .i64 l0, .int .i64 l1, .int .i64 l2, .int .i64 l3] 163)).trans m1)
  clear h1 m1 H HF
  go_wp2
  go_end0
  refine ⟨rfl, ?_, (unhide M1).at 24 _⟩
  exact unhide HB
end Go.Proofs.Ythhibagcpjeihaa
/- Another plane: who stays, who goes where. Nothing of the program. -/
namespace Go.Proofs.Ythhibagcpjeihaa
open M
set_option linter.unusedVariables false
set_option linter.unusedSimpArgs false

/-- How many seats are not free. -/
def nFull (l : List Sea) : Nat := l.countP fun s => s.st != 0
/-- A seat that stays is laid into the new plane. -/
def stayStep (q : Pla) (acc : List Sea) (s : Sea) : List Sea := if s.st ≠ 0 ∧ q.has s.row s.col = true then acc.set (q.idx s.row s.col) s else acc
def stay (q : Pla) (l : List Sea) : List Sea := l.foldl (stayStep q) (emptySeats q)
def homeless (q : Pla) (l : List Sea) : List Sea := l.filter fun s => s.st != 0 && !q.has s.row s.col
def firstFree (l : List Sea) : Nat := l.findIdx fun s => s.st == 0
/-- A seat at another place. -/
def Sea.at (s x : Sea) : Sea := ⟨x.row, x.col, s.st, s.pa, s.cl, s.un⟩
def reseatStep (acc : List Sea) (s : Sea) : List Sea := acc.set (firstFree acc) (Sea.at s (acc.getD (firstFree acc) noSea))
def swapSeats (q : Pla) (l : List Sea) : List Sea := (homeless q l).foldl reseatStep (stay q l)
/-- The flight's plane behind a Swap: its own limits. -/
def swapPla (p q : Pla) : Pla := ⟨q.rows, q.cols, q.front, p.l0, p.l1, p.l2, p.l3, nx p.ep⟩

theorem has_place {q : Pla} {r c r' c' : Int} (hc : 1 ≤ q.cols) (h : q.has r c = true) (h' : q.has r' c' = true) (e : q.idx r c = q.idx r' c') : r = r' ∧ c = c' := by
  simp only [Pla.has, decide_eq_true_eq] at h h'
  unfold Pla.idx at e
  have m1 : 0 ≤ (r - 1) * q.cols := Int.mul_nonneg (by omega) (by omega)
  have m2 : 0 ≤ (r' - 1) * q.cols := Int.mul_nonneg (by omega) (by omega)
  have e' : (c - 1) + (r - 1) * q.cols = (c' - 1) + (r' - 1) * q.cols := by omega
  have hd : ((c - 1) + (r - 1) * q.cols) / q.cols = ((c' - 1) + (r' - 1) * q.cols) / q.cols := by rw [e']
  rw [Int.add_mul_ediv_right _ _ (by omega), Int.add_mul_ediv_right _ _ (by omega), Int.ediv_eq_zero_of_lt (by omega) (by omega), Int.ediv_eq_zero_of_lt (by omega) (by omega)] at hd
  have hr : r = r' := by omega
  subst hr
  omega

theorem at_wf {s x : Sea} (h : s.wf) : (Sea.at s x).wf := ⟨h.s0, h.s1, h.c0, h.c1, h.bare, h.pa, h.un, h.bk⟩

/-- Who has been laid, of the first i seats. -/
structure Stayed (q : Pla) (l acc : List Sea) (i : Nat) : Prop where
  wf : Wf q acc
  from_ : ∀ j (h : j < acc.length), acc[j].st ≠ 0 → ∃ k, ∃ hk : k < l.length, k < i ∧ l[k].row = acc[j].row ∧ l[k].col = acc[j].col
  count : nFull acc + (homeless q (l.take i)).length = nFull (l.take i)

theorem Stayed.start {p q : Pla} (l : List Sea) (h1 : q.sized = true) (h2 : q.limited = true) : Stayed q l (emptySeats q) 0 := by
  refine ⟨empty_wf h1 h2, fun j h hs => ?_, ?_⟩
  · simp [emptySeats] at hs
  · have : nFull (emptySeats q) = 0 := by
      unfold nFull
      rw [List.countP_eq_zero]
      intro s hs
      simp only [emptySeats, List.mem_map] at hs
      obtain ⟨i, _, rfl⟩ := hs
      simp
    rw [this]
    rfl

theorem take_succ {α : Type} (l : List α) (i : Nat) (h : i < l.length) : l.take (i + 1) = l.take i ++ [l[i]] := by
  rw [List.take_add_one, List.getElem?_eq_getElem h]
  rfl

theorem nFull_set {acc : List Sea} {j : Nat} (h : j < acc.length) (s : Sea) (h0 : acc[j].st = 0) (hs : s.st ≠ 0) : nFull (acc.set j s) = nFull acc + 1 := by
  have := countP_set (fun s : Sea => s.st != 0) acc j h s
  simp [h0, hs] at this
  unfold nFull
  omega

/-- A seat that stays has a free place in the new plane. -/
theorem Stayed.free {p q : Pla} {l acc : List Sea} {i : Nat} (h : Stayed q l acc i) (hwf : Wf p l) (hi : i < l.length) (hh : q.has l[i].row l[i].col = true) :
    ∃ hj : q.idx l[i].row l[i].col < acc.length, acc[q.idx l[i].row l[i].col].st = 0 ∧ acc[q.idx l[i].row l[i].col].row = l[i].row ∧ acc[q.idx l[i].row l[i].col].col = l[i].col := by
  have hj : q.idx l[i].row l[i].col < acc.length := Fli.wf.idx_lt h.wf hh
  have hp := Fli.wf.idx_place h.wf hh
  refine ⟨hj, ?_, hp⟩
  by_cases h0 : acc[q.idx l[i].row l[i].col].st = 0
  · exact h0
  · obtain ⟨k, hk, hki, e1, e2⟩ := h.from_ _ hj h0
    have := hwf.place_inj hk hi (by rw [e1]; exact hp.1) (by rw [e2]; exact hp.2)
    omega

theorem Stayed.step {p q : Pla} {l acc : List Sea} {i : Nat} (h : Stayed q l acc i) (hwf : Wf p l) (hi : i < l.length) : Stayed q l (stayStep q acc l[i]) (i + 1) := by
  have hs := hwf.seat _ (List.getElem_mem hi)
  have hcnt := h.count
  have hT : nFull (l.take (i + 1)) = nFull (l.take i) + (if l[i].st ≠ 0 then 1 else 0) := by
    rw [take_succ l i hi]
    unfold nFull
    rw [List.countP_append]
    by_cases h0 : l[i].st = 0 <;> simp [h0]
  have hH : (homeless q (l.take (i + 1))).length = (homeless q (l.take i)).length + (if l[i].st ≠ 0 ∧ ¬ q.has l[i].row l[i].col = true then 1 else 0) := by
    rw [take_succ l i hi]
    unfold homeless
    rw [List.filter_append, List.length_append]
    congr 1
    by_cases h0 : l[i].st = 0
    · simp [h0]
    · cases hb : q.has l[i].row l[i].col <;> simp [h0, hb]
  unfold stayStep
  by_cases hc : l[i].st ≠ 0 ∧ q.has l[i].row l[i].col = true
  · rw [if_pos hc]
    obtain ⟨hj, f0, fr, fc⟩ := h.free hwf hi hc.2
    refine ⟨h.wf.set hj hs fr.symm fc.symm, fun j hj' hst => ?_, ?_⟩
    · have hj2 : j < acc.length := by simpa using hj'
      simp only [List.getElem_set] at hst ⊢
      by_cases e : q.idx l[i].row l[i].col = j
      · rw [if_pos e]
        exact ⟨i, hi, by omega, rfl, rfl⟩
      · rw [if_neg e] at hst ⊢
        obtain ⟨k, hk, hki, e1, e2⟩ := h.from_ j hj2 hst
        exact ⟨k, hk, by omega, e1, e2⟩
    · rw [nFull_set hj l[i] f0 hc.1, hT, hH, if_pos hc.1, if_neg (fun x => x.2 hc.2)]
      omega
  · rw [if_neg hc]
    refine ⟨h.wf, fun j hj hst => ?_, ?_⟩
    · obtain ⟨k, hk, hki, e1, e2⟩ := h.from_ j hj hst
      exact ⟨k, hk, by omega, e1, e2⟩
    · rw [hT, hH]
      by_cases h0 : l[i].st = 0
      · rw [if_neg (by simp [h0]), if_neg (by simp [h0])]
        omega
      · have : ¬ q.has l[i].row l[i].col = true := fun x => hc ⟨h0, x⟩
        rw [if_pos h0, if_pos ⟨h0, this⟩]
        omega

theorem stay_take (q : Pla) (l : List Sea) (i : Nat) (hi : i < l.length) : stay q (l.take (i + 1)) = stayStep q (stay q (l.take i)) l[i] := by
  rw [take_succ l i hi]
  unfold stay
  rw [List.foldl_append]
  rfl
theorem homeless_take (q : Pla) (l : List Sea) (i : Nat) (hi : i < l.length) : homeless q (l.take (i + 1)) = homeless q (l.take i) ++ (if l[i].st ≠ 0 ∧ ¬ q.has l[i].row l[i].col = true then [l[i]] else []) := by
  rw [take_succ l i hi]
  unfold homeless
  rw [List.filter_append]
  congr 1
  by_cases h0 : l[i].st = 0
  · simp [h0]
  · cases hb : q.has l[i].row l[i].col <;> simp [h0, hb]

theorem stayed_take {p q : Pla} {l : List Sea} (hwf : Wf p l) (h1 : q.sized = true) (h2 : q.limited = true) : ∀ i, i ≤ l.length → Stayed q l (stay q (l.take i)) i
  | 0, _ => Stayed.start (p := p) l h1 h2
  | i + 1, h => by
    rw [stay_take q l i (by omega)]
    exact (stayed_take hwf h1 h2 i (by omega)).step hwf (by omega)

/-- What stands while the homeless find seats. -/
structure Reseat (q : Pla) (acc : List Sea) (n : Nat) : Prop where
  wf : Wf q acc
  room : nFull acc + n ≤ acc.length

theorem firstFree_lt {q : Pla} {acc : List Sea} {n : Nat} (h : Reseat q acc (n + 1)) : firstFree acc < acc.length := by
  unfold firstFree
  rw [List.findIdx_lt_length]
  by_cases hx : ∃ x ∈ acc, (x.st == 0) = true
  · exact hx
  · exfalso
    have : nFull acc = acc.length := by
      unfold nFull
      rw [List.countP_eq_length]
      intro x hx'
      have : ¬ (x.st == 0) = true := fun e => hx ⟨x, hx', e⟩
      simpa using this
    have := h.room
    omega

theorem firstFree_at {acc : List Sea} (h : firstFree acc < acc.length) : acc[firstFree acc].st = 0 := by
  have := List.findIdx_getElem (p := fun s : Sea => s.st == 0) (w := h)
  simp only [beq_iff_eq] at this
  exact this

theorem full_before {acc : List Sea} {j : Nat} (hj : j < firstFree acc) (hl : j < acc.length) : acc[j].st ≠ 0 := by
  have := List.not_of_lt_findIdx (p := fun s : Sea => s.st == 0) (xs := acc) (i := j) hj
  simpa using this

theorem Reseat.step {q : Pla} {acc : List Sea} {n : Nat} (h : Reseat q acc (n + 1)) {s : Sea} (hs : s.wf) (h0 : s.st ≠ 0) : Reseat q (reseatStep acc s) n := by
  have hl := firstFree_lt h
  have e : acc.getD (firstFree acc) noSea = acc[firstFree acc] := by
    rw [List.getD_eq_getElem?_getD, List.getElem?_eq_getElem hl]; rfl
  unfold reseatStep
  rw [e]
  refine ⟨h.wf.set hl (at_wf hs) rfl rfl, ?_⟩
  rw [nFull_set hl _ (firstFree_at hl) (by exact h0), List.length_set]
  have := h.room
  omega

theorem homeless_ok {p q : Pla} {l : List Sea} (hwf : Wf p l) : ∀ s ∈ homeless q l, s.wf ∧ s.st ≠ 0 := by
  intro s hs
  unfold homeless at hs
  rw [List.mem_filter] at hs
  refine ⟨hwf.seat s hs.1, ?_⟩
  have := hs.2
  simp only [Bool.and_eq_true] at this
  simpa using this.1

theorem reseat_start {p q : Pla} {l : List Sea} (hwf : Wf p l) (h1 : q.sized = true) (h2 : q.limited = true) (hn : ¬ q.rows * q.cols < (nFull l : Int)) : Reseat q (stay q l) (homeless q l).length := by
  have h := stayed_take hwf h1 h2 l.length (Nat.le_refl _)
  rw [List.take_length] at h
  refine ⟨h.wf, ?_⟩
  have hc := h.count
  rw [List.take_length] at hc
  have hl := h.wf.len
  simp only at hl
  omega

theorem reseat_all {q : Pla} : ∀ (hs : List Sea) (acc : List Sea), (∀ s ∈ hs, s.wf ∧ s.st ≠ 0) → Reseat q acc hs.length → Wf q (hs.foldl reseatStep acc)
  | [], acc, _, h => h.wf
  | s :: hs, acc, hw, h => by
    rw [List.foldl_cons]
    exact reseat_all hs _ (fun x hx => hw x (List.mem_cons_of_mem _ hx)) (Reseat.step h (hw s (List.mem_cons_self)).1 (hw s (List.mem_cons_self)).2)

theorem swap_wf {p q : Pla} {l : List Sea} (hwf : Wf p l) (h1 : q.sized = true) (h2 : q.limited = true) (hn : ¬ q.rows * q.cols < (nFull l : Int)) : Wf q (swapSeats q l) :=
  reseat_all _ _ (homeless_ok hwf) (reseat_start hwf h1 h2 hn)
end Go.Proofs.Ythhibagcpjeihaa
/- How many seats there are; the place that has so many ahead of it. -/
namespace Go.Proofs.Ythhibagcpjeihaa
open Go.RowKit
open Go.ChangeMaps (setBlock)
open M
set_option linter.unusedVariables false
set_option linter.unusedSimpArgs false
set_option maxRecDepth 100000

theorem size_walk (b : Nat) (cs : Array Value) (T : TypeId) (R C : Int) (w : World) (h : Has w b cs T) (h0 : cs[0]? = some (.int .i64 R)) (h1 : cs[1]? = some (.int .i64 C)) (hw : IntKind.i64.wrap (R * C) = R * C) :
    Calls Try.prog 67 #[.pointer (some ⟨b, 0, none⟩)] w fun e w' => e = .returned (.int .i64 (R * C)) ∧ Mod No w w' := by
  have c0 := h.cell 0
  have c1 := h.cell 1
  rw [h0] at c0
  rw [h1] at c1
  have hlt := h.lt
  clear h h0 h1
  go_enter Try.func67, Try.ntmps67
  go_wp2
  go_quiet (fail)
  go_wp2
  go_ret
  exact ⟨rfl, (Mod.refl _ _).drewN _⟩

theorem placeAt_walk (b : Nat) (cs : Array Value) (T : TypeId) (C a : Nat) (w : World) (h : Has w b cs T) (h1 : cs[1]? = some (.int .i64 (C : Int))) (hC : 1 ≤ C ∧ C ≤ 6) (ha : a ≤ 1000) :
    Calls Try.prog 68 #[.pointer (some ⟨b, 0, none⟩), .int .i64 (a : Int)] w fun e w' => e = .returned (.agg #[.int .i64 ((a : Int) / C + 1), .int .i64 ((a : Int) % C + 1)]) ∧ Mod No w w' := by
  have c1 := h.cell 1
  rw [h1] at c1
  have hlt := h.lt
  have d0 : (C : Int) ≠ 0 := by omega
  have t1 : Int.tdiv (a : Int) C = (a : Int) / C := Int.tdiv_eq_ediv_of_nonneg (by omega)
  have t2 : Int.tmod (a : Int) C = (a : Int) % C := Int.tmod_eq_emod_of_nonneg (by omega)
  have b1 : 0 ≤ (a : Int) / C := Int.ediv_nonneg (by omega) (by omega)
  have b2 : (a : Int) / C ≤ a := Int.ediv_le_self _ (by omega)
  have b3 : 0 ≤ (a : Int) % C := Int.emod_nonneg _ d0
  have b4 : (a : Int) % C < C := Int.emod_lt_of_pos _ (by omega)
  have w1 : IntKind.i64.wrap ((a : Int) / C) = (a : Int) / C := wrap_id _ (by omega) (by omega)
  have w2 : IntKind.i64.wrap ((a : Int) % C) = (a : Int) % C := wrap_id _ (by omega) (by omega)
  have w3 : IntKind.i64.wrap ((a : Int) / C + 1) = (a : Int) / C + 1 := wrap_id _ (by omega) (by omega)
  have w4 : IntKind.i64.wrap ((a : Int) % C + 1) = (a : Int) % C + 1 := wrap_id _ (by omega) (by omega)
  clear h h1
  go_enter Try.func68, Try.ntmps68
  go_wp2
  go_region
  all_goals go_wp2
  all_goals go_returns
  all_goals exact ⟨rfl, ((Mod.refl _ _).alloc _).drew⟩
end Go.Proofs.Ythhibagcpjeihaa
/- Time passes for a flight: the map ranged over, whatever the order. -/
namespace Go.Proofs.Ythhibagcpjeihaa
open Go.RowKit
open Go.ChangeMaps (setBlock)
open M
set_option linter.unusedVariables false
set_option linter.unusedSimpArgs false
set_option maxRecDepth 100000

/-- Is a seat to be given back at this time? -/
def due (now : Int) (s : Sea) : Bool := s.st == 1 && decide (s.un ≤ now)
def tickSeats (now : Int) (l : List Sea) : List Sea := l.map fun s => if due now s then s.freed else s

theorem idx_of {p : Pla} {l : List Sea} (h : Wf p l) {r c : Int} (hh : p.has r c = true) : ∃ i, ∃ hi : i < l.length, l[i].row = r ∧ l[i].col = c := by
  have h1 := Fli.wf.idx_lt h hh
  have h2 := Fli.wf.idx_place h hh
  exact ⟨p.idx r c, h1, h2⟩

/-- The seat of an entry. -/
theorem ent_seat {es : List MEnt} {clock : Nat} {p : Pla} {l : List Sea} (hok : MapOk es clock) (hrel : MapRel es p l) (hwf : Wf p l) {e : MEnt} (he : e ∈ es) :
    ∃ i, ∃ hi : i < l.length, l[i].row = e.r ∧ l[i].col = e.c ∧ l[i].st = e.s ∧ l[i].pa = e.p ∧ l[i].cl = e.k ∧ l[i].un = e.u := by
  obtain ⟨i, hi, h1, h2⟩ := idx_of hwf (hrel.ent e he).1
  have h3 := hrel.seat i hi
  rw [h1, h2, look_mem hok he] at h3
  simp only [Prod.mk.injEq] at h3
  exact ⟨i, hi, h1, h2, h3.1.symm, h3.2.1.symm, h3.2.2.1.symm, h3.2.2.2.symm⟩

/-- A seat that is not free has an entry. -/
theorem seat_ent {es : List MEnt} {p : Pla} {l : List Sea} (hrel : MapRel es p l) {i : Nat} (hi : i < l.length) (hs : l[i].st ≠ 0) :
    ∃ e ∈ es, e.r = l[i].row ∧ e.c = l[i].col ∧ e.s = l[i].st ∧ e.u = l[i].un := by
  have h3 := hrel.seat i hi
  unfold lookE at h3
  cases hf : es.find? (MEnt.is l[i].row l[i].col) with
  | none =>
    rw [hf] at h3
    simp at h3
    exact absurd h3.1.symm hs
  | some e =>
    rw [hf] at h3
    simp at h3
    have hk := is_true.1 (List.find?_some hf)
    exact ⟨e, List.mem_of_find?_eq_some hf, hk.1, hk.2, h3.1, h3.2.2.2⟩

/-- What has been done when the entries of 'seen' have come. -/
structure Passed (now : Int) (l l' : List Sea) (es : List MEnt) (seen : Array Nat) : Prop where
  len : l'.length = l.length
  each : ∀ i (h : i < l.length) (h' : i < l'.length), l'[i] = l[i] ∨ (due now l[i] = true ∧ l'[i] = l[i].freed)
  done : ∀ e ∈ es, e.born ∈ seen → ¬ (e.s = 1 ∧ e.u ≤ now)

theorem Passed.start (now : Int) (l : List Sea) (es : List MEnt) : Passed now l l es #[] := ⟨rfl, fun i h h' => .inl rfl, fun e _ h => by simp at h⟩

theorem Passed.keep {now : Int} {l l' : List Sea} {es : List MEnt} {seen : Array Nat} {clock : Nat} (h : Passed now l l' es seen) (hok : MapOk es clock) {e : MEnt} (he : e ∈ es) (hn : ¬ (e.s = 1 ∧ e.u ≤ now)) : Passed now l l' es (seen.push e.born) := by
  refine ⟨h.len, h.each, fun x hx hs => ?_⟩
  rcases Array.mem_push.1 hs with hs | hs
  · exact h.done x hx hs
  · have : x = e := by
      obtain ⟨i, hi, rfl⟩ := List.getElem_of_mem hx
      obtain ⟨j, hj, rfl⟩ := List.getElem_of_mem he
      have hp := List.pairwise_iff_getElem.1 hok.births
      rcases Nat.lt_trichotomy i j with h1 | h1 | h1
      · exact absurd hs (hp i j hi hj h1)
      · subst h1; rfl
      · exact absurd hs.symm (hp j i hj hi h1)
    rw [this]
    exact hn

theorem Passed.give {now : Int} {l l' : List Sea} {es : List MEnt} {seen : Array Nat} {clock : Nat} (h : Passed now l l' es seen) (hok : MapOk es clock) {e : MEnt} (he : e ∈ es) {i : Nat} (hi : i < l'.length) (hd : due now l'[i] = true) :
    Passed now l (l'.set i l'[i].freed) (dropE es e.r e.c) (seen.push e.born) := by
  refine ⟨by simp [h.len], fun j hj hj' => ?_, fun x hx hs => ?_⟩
  · have hj2 : j < l'.length := by simpa using hj'
    simp only [List.getElem_set]
    by_cases e1 : i = j
    · subst e1
      rw [if_pos rfl]
      rcases h.each i hj hi with h1 | ⟨h1, h2⟩
      · rw [h1] at hd ⊢
        exact .inr ⟨hd, rfl⟩
      · rw [h2] at hd
        simp [due, Sea.freed] at hd
    · rw [if_neg e1]
      exact h.each j hj hj2
  · have hx' := dropE_mem hx
    rcases Array.mem_push.1 hs with hs | hs
    · exact h.done x hx' hs
    · have hxe : x = e := by
        obtain ⟨i, hi, rfl⟩ := List.getElem_of_mem hx'
        obtain ⟨j, hj, rfl⟩ := List.getElem_of_mem he
        have hp := List.pairwise_iff_getElem.1 hok.births
        rcases Nat.lt_trichotomy i j with h1 | h1 | h1
        · exact absurd hs (hp i j hi hj h1)
        · subst h1; rfl
        · exact absurd hs.symm (hp j i hj hi h1)
      subst hxe
      have hl := look_mem (hok.drop x.r x.c) hx
      rw [look_drop hok] at hl
      simp at hl
      rintro ⟨h1, _⟩
      omega

theorem Passed.finish {now : Int} {l l' : List Sea} {es : List MEnt} {seen : Array Nat} {p : Pla} (h : Passed now l l' es seen) (hrel : MapRel es p l') (hall : ∀ e ∈ es, e.born ∈ seen) : l' = tickSeats now l := by
  apply List.ext_getElem (by simp [tickSeats, h.len])
  intro i hi hi2
  have hil : i < l.length := by rw [← h.len]; exact hi
  simp only [tickSeats, List.getElem_map]
  rcases h.each i hil hi with h1 | ⟨h1, h2⟩
  · have : due now l[i] = false := by
      cases hd : due now l[i] with
      | false => rfl
      | true =>
        exfalso
        simp only [due, Bool.and_eq_true, beq_iff_eq, decide_eq_true_eq] at hd
        obtain ⟨e, he, _, _, e3, e4⟩ := seat_ent hrel hi (by rw [h1]; omega)
        exact h.done e he (hall e he) ⟨by rw [e3, h1]; exact hd.1, by rw [e4, h1]; exact hd.2⟩
    rw [this, h1]
    rfl
  · rw [h1, h2]
    rfl

/-- How many entries are still to come. -/
def leftN (w : World) (m r : Nat) : Nat :=
  match w.heap[m]?, w.heap[r]? with
  | some (.map es _), some (.mapIter _ _ seen _) => (es.toList.filter fun e => !seen.contains e.born).length
  | _, _ => 0

theorem leftN_eq {w : World} {m r : Nat} {es : List MEnt} {clock : Nat} {bm : Option Nat} {s c : Nat} {seen : Array Nat} (hm : w.heap[m]? = some (mapObj es clock)) (hr : w.heap[r]? = some (.mapIter bm s seen c)) :
    leftN w m r = (es.filter fun e => !seen.contains e.born).length := by
  unfold leftN
  rw [hm, hr]
  simp only [mapObj]
  rw [List.filter_map, List.length_map]
  rfl

theorem filter_lt {α : Type} {p q : α → Bool} : ∀ {l l' : List α}, l'.Sublist l → (∀ x ∈ l, q x = true → p x = true) → (∃ x ∈ l, p x = true ∧ q x = false) → (l'.filter q).length < (l.filter p).length := by
  intro l l' hs hpq hx
  have h1 : (l'.filter q).length ≤ (l.filter q).length := (hs.filter q).length_le
  have h2 : (l.filter q).length < (l.filter p).length := by
    clear hs h1
    induction l with
    | nil => obtain ⟨x, hx, _⟩ := hx; simp at hx
    | cons a l ih =>
      have hle : (l.filter q).length ≤ (l.filter p).length := by
        rw [← List.countP_eq_length_filter, ← List.countP_eq_length_filter]
        exact List.countP_mono_left (fun x hx h => hpq x (List.mem_cons_of_mem _ hx) h)
      simp only [List.filter_cons]
      obtain ⟨x, hx, hp, hq⟩ := hx
      rcases List.mem_cons.1 hx with rfl | hx
      · rw [hp, hq]
        simp
        omega
      · have := ih (fun x hx h => hpq x (List.mem_cons_of_mem _ hx) h) ⟨x, hx, hp, hq⟩
        have ha := hpq a (List.mem_cons_self)
        cases h1 : q a <;> cases h2 : p a <;> simp_all <;> omega
  omega
end Go.Proofs.Ythhibagcpjeihaa
