import Derived.Test.YtlcbemcamdafjaaCrecountedChange
import Derived.Deep.DeepCutAuto
/- A flight is given its plane. -/
namespace Go.Proofs.Ytlcbemcamdafjaa
open Go.RowKit
open Go.ChangeMaps (setBlock)
open M
set_option linter.unusedVariables false
set_option linter.unusedSimpArgs false
set_option maxRecDepth 100000

/-- The empty seats of a plane, in their order. -/
def emptySeats (p : Pla) : List Sea := (List.range (p.rows * p.cols).toNat).map fun i : Nat => ⟨(i : Int) / p.cols + 1, (i : Int) % p.cols + 1, 0, 0, 0, 0⟩

theorem empty_wf {p : Pla} (h1 : p.sized = true) (h2 : p.limited = true) : Wf p (emptySeats p) := by
  have hb := h1
  simp only [Pla.sized, decide_eq_true_eq] at hb
  refine ⟨h1, h2, ?_, fun i hi => ?_, fun s hs => ?_⟩
  · have : 0 ≤ p.rows * p.cols := Int.mul_nonneg (by omega) (by omega)
    simp [emptySeats]
    omega
  · simp [emptySeats]
  · simp only [emptySeats, List.mem_map] at hs
    obtain ⟨i, _, rfl⟩ := hs
    exact ⟨by simp, by simp, by simp, by simp, by simp, by simp, by simp, by simp⟩

theorem countP_lt (n k : Nat) : (List.range n).countP (fun i => decide (i < k)) = min k n := by
  induction n with
  | zero => simp
  | succ n ih =>
    rw [List.range_succ, List.countP_append, ih]
    by_cases h : n < k
    · simp [h]; omega
    · simp [h]; omega

theorem row_le {p : Pla} (hc : 1 ≤ p.cols) (i : Nat) : ((i : Int) / p.cols + 1 ≤ p.front) ↔ i < (p.front * p.cols).toNat := by
  have h1 : (i : Int) / p.cols + 1 ≤ p.front ↔ (i : Int) / p.cols < p.front := by omega
  rw [h1, Int.ediv_lt_iff_lt_mul (by omega)]
  omega

theorem empty_A {p : Pla} (h1 : p.sized = true) (j : Nat) : cA p (emptySeats p) j = if j = 0 then p.front * p.cols else 0 := by
  simp only [Pla.sized, decide_eq_true_eq] at h1
  have hf : 0 ≤ p.front * p.cols := Int.mul_nonneg (by omega) (by omega)
  have hle : p.front * p.cols ≤ p.rows * p.cols := Int.mul_le_mul_of_nonneg_right (by omega) (by omega)
  simp only [cA, nAt, emptySeats, List.countP_map]
  have e : (fun s : Sea => (decide (s.row ≤ p.front) == true) && s.st == (j : Int)) ∘ (fun i : Nat => (⟨(i : Int) / p.cols + 1, (i : Int) % p.cols + 1, 0, 0, 0, 0⟩ : Sea)) = fun i => decide (i < (p.front * p.cols).toNat) && decide (j = 0) := by
    funext i
    simp only [Function.comp, beq_true]
    rw [show ((0 : Int) == (j : Int)) = decide (0 = j) from beq_cast 0 j, decide_eq_decide.2 (row_le (by omega) i), show decide (0 = j) = decide (j = 0) from decide_eq_decide.2 eq_comm]
  rw [e]
  by_cases hj : j = 0
  · simp only [hj, decide_true, Bool.and_true, if_true]
    rw [countP_lt]
    omega
  · simp [hj]

theorem empty_B {p : Pla} (h1 : p.sized = true) (j : Nat) : cB p (emptySeats p) j = if j = 0 then (p.rows - p.front) * p.cols else 0 := by
  simp only [Pla.sized, decide_eq_true_eq] at h1
  have hf : 0 ≤ p.front * p.cols := Int.mul_nonneg (by omega) (by omega)
  have hle : p.front * p.cols ≤ p.rows * p.cols := Int.mul_le_mul_of_nonneg_right (by omega) (by omega)
  have hs : (p.rows - p.front) * p.cols = p.rows * p.cols - p.front * p.cols := Int.sub_mul _ _ _
  simp only [cB, nAt, emptySeats, List.countP_map]
  have e : (fun s : Sea => (decide (s.row ≤ p.front) == false) && s.st == (j : Int)) ∘ (fun i : Nat => (⟨(i : Int) / p.cols + 1, (i : Int) % p.cols + 1, 0, 0, 0, 0⟩ : Sea)) = fun i => !decide (i < (p.front * p.cols).toNat) && decide (j = 0) := by
    funext i
    simp only [Function.comp, beq_false]
    rw [show ((0 : Int) == (j : Int)) = decide (0 = j) from beq_cast 0 j, decide_eq_decide.2 (row_le (by omega) i), show decide (0 = j) = decide (j = 0) from decide_eq_decide.2 eq_comm]
  rw [e]
  by_cases hj : j = 0
  · simp only [hj, decide_true, Bool.and_true, if_true]
    have h2 := List.length_eq_countP_add_countP (fun i => decide (i < (p.front * p.cols).toNat)) (l := List.range (p.rows * p.cols).toNat)
    rw [countP_lt] at h2
    simp only [List.length_range] at h2
    have h3 : List.countP (fun a => decide ¬decide (a < (p.front * p.cols).toNat) = true) (List.range (p.rows * p.cols).toNat) = List.countP (fun i => !decide (i < (p.front * p.cols).toNat)) (List.range (p.rows * p.cols).toNat) := by
      congr 1; funext a; by_cases h : a < (p.front * p.cols).toNat <;> simp [h] <;> omega
    rw [h3] at h2
    omega
  · simp [hj]

theorem empty_S (p : Pla) (j : Nat) : cS (emptySeats p) j = 0 := by
  simp only [cS, nSold, emptySeats, List.countP_map]
  have e : (fun s : Sea => s.sold && s.cl == (j : Int)) ∘ (fun i : Nat => (⟨(i : Int) / p.cols + 1, (i : Int) % p.cols + 1, 0, 0, 0, 0⟩ : Sea)) = fun i => false := by
    funext i
    simp [Sea.sold]
  rw [e]
  simp

theorem run_makeMap (w : World) : (Instr.makeMap 119 none).run Try.prog w = .ok (.map (some w.heap.size)) (w.alloc (.map #[] 0)) := by
  simp [Instr.makeMap, newObj, Sem.run]
attribute [local go_sem] run_makeMap

/-- The world, forgotten but for what is said of it. -/
theorem wp_world {P : Program} {c : Code} {Q : Exit → Act → World → Prop} {a : Act} {w : World} (R : World → Prop) (h : R w) (k : ∀ w, R w → c.wp P Q a w) : c.wp P Q a w := k w h

theorem clear_totals (r c f l0 l1 l2 l3 : Int) (M : Value) (a0 a1 a2 a3 b0 b1 b2 b3 s0 s1 s2 s3 e0 e1 e2 e3 ep : Int) :
    (((((((((((((fcs r c f l0 l1 l2 l3 M a0 a1 a2 a3 b0 b1 b2 b3 s0 s1 s2 s3 e0 e1 e2 e3 ep).setIfInBounds 8 (.int .i64 0)).setIfInBounds 9 (.int .i64 0)).setIfInBounds 10 (.int .i64 0)).setIfInBounds 11 (.int .i64 0)).setIfInBounds 12 (.int .i64 0)).setIfInBounds 13 (.int .i64 0)).setIfInBounds 14 (.int .i64 0)).setIfInBounds 15 (.int .i64 0)).setIfInBounds 16 (.int .i64 0)).setIfInBounds 17 (.int .i64 0)).setIfInBounds 18 (.int .i64 0)).setIfInBounds 19 (.int .i64 0)) = fcs r c f l0 l1 l2 l3 M 0 0 0 0 0 0 0 0 0 0 0 0 e0 e1 e2 e3 ep := by kernel_rfl

set_option maxHeartbeats 4000000 in
theorem fit_walk (b : Nat) (p : Pla) (r0 c0 f0 k0 k1 k2 k3 : Int) (M0 : Value) (a0 a1 a2 a3 b0 b1 b2 b3 s0 s1 s2 s3 e0 e1 e2 e3 ep : Int) (e' : Nat → Int) (w : World)
    (h : Has w b (fcs r0 c0 f0 k0 k1 k2 k3 M0 a0 a1 a2 a3 b0 b1 b2 b3 s0 s1 s2 s3 e0 e1 e2 e3 ep) 121) (x y : Int)
    (w1 : IntKind.i64.wrap (p.front * p.cols) = x) (w2 : IntKind.i64.wrap (p.rows - p.front) = p.rows - p.front) (w3 : IntKind.i64.wrap ((p.rows - p.front) * p.cols) = y)
    (hR : ∀ W m, Has W b (fcs p.rows p.cols p.front p.l0 p.l1 p.l2 p.l3 (.map (some m)) x 0 0 0 y 0 0 0 0 0 0 0 e0 e1 e2 e3 ep) 121 → Calls Try.prog 78 #[.pointer (some ⟨b, 0, none⟩)] W fun e w' => e = .returned (.tuple #[]) ∧ Mod (fun k => k = b) W w' ∧
      Has w' b (fcs p.rows p.cols p.front p.l0 p.l1 p.l2 p.l3 (.map (some m)) x 0 0 0 y 0 0 0 0 0 0 0 (e' 0) (e' 1) (e' 2) (e' 3) ep) 121) :
    Calls Try.prog 95 #[.pointer (some ⟨b, 0, none⟩), .agg #[.int .i64 p.rows, .int .i64 p.cols, .int .i64 p.front, .int .i64 p.l0, .int .i64 p.l1, .int .i64 p.l2, .int .i64 p.l3]] w fun e w' =>
      e = .returned (.tuple #[]) ∧ Mod (fun k => k = b) w w' ∧ ∃ m, w.heap.size ≤ m ∧ w'.heap[m]? = some (mapObj [] 0) ∧ Has w' b (fcs p.rows p.cols p.front p.l0 p.l1 p.l2 p.l3 (.map (some m)) x 0 0 0 y 0 0 0 0 0 0 0 (e' 0) (e' 1) (e' 2) (e' 3) ep) 121 := by
  have hlt := h.lt
  have hc := h.cell
  have hz := h.frozen
  unfold fcs at hc
  have H := hide h
  have HR := hide hR
  clear h hR
  obtain ⟨r, c, f, l0, l1, l2, l3, pe⟩ := p
  simp only at *
  go_enter Try.func95, Try.ntmps95
  go_upto_region 2 with fail
  refine wp_world (fun W => Hid (Mod (fun k => k = b) w W) ∧ Hid (Has W w.heap.size #[.int .i64 r, .int .i64 c, .int .i64 f, .int .i64 l0, .int .i64 l1, .int .i64 l2, .int .i64 l3] 35) ∧ Hid (Has W b (fcs r c f l0 l1 l2 l3 M0 a0 a1 a2 a3 b0 b1 b2 b3 s0 s1 s2 s3 e0 e1 e2 e3 ep) 121)) ?_ ?_
  · refine ⟨((((((((Mod.refl _ w).at 0 _).at 1 _).at 2 _).at 3 _).at 4 _).at 5 _).at 6 _).alloc _, ?_, ?_⟩
    · have := Has.new (((((((w.setCell ⟨b, 0, none⟩ (.int .i64 r)).setCell ⟨b, 1, none⟩ (.int .i64 c)).setCell ⟨b, 2, none⟩ (.int .i64 f)).setCell ⟨b, 3, none⟩ (.int .i64 l0)).setCell ⟨b, 4, none⟩ (.int .i64 l1)).setCell ⟨b, 5, none⟩ (.int .i64 l2)).setCell ⟨b, 6, none⟩ (.int .i64 l3)) #[.int .i64 r, .int .i64 c, .int .i64 f, .int .i64 l0, .int .i64 l1, .int .i64 l2, .int .i64 l3] 35
      simp only [World.size_alloc, World.size_setCell] at this
      exact this
    · exact ((((((((unhide H).set 0 _).set 1 _).set 2 _).set 3 _).set 4 _).set 5 _).set 6 _).alloc _
  · rintro W ⟨M1, B1, H1⟩
    have hc := (unhide H1).cell
    have hz := (unhide H1).frozen
    have hlW := (unhide H1).lt
    unfold fcs at hc
    have hbw : b ≠ w.heap.size := by omega
    have HBW := hide hbw
    clear hbw
    go_upto_region 3 with fail
    refine wp_world (fun W => Hid (Mod (fun k => k = b) w W) ∧ Hid (Has W w.heap.size #[.int .i64 r, .int .i64 c, .int .i64 f, .int .i64 l0, .int .i64 l1, .int .i64 l2, .int .i64 l3] 35) ∧ ∃ m, Hid (w.heap.size ≤ m) ∧ Hid (W.heap[m]? = some (mapObj [] 0)) ∧ Hid (m ≠ b) ∧ Hid (Has W b (fcs r c f l0 l1 l2 l3 (.map (some m)) a0 a1 a2 a3 b0 b1 b2 b3 s0 s1 s2 s3 e0 e1 e2 e3 ep) 121)) ?_ ?_
    · refine ⟨((unhide M1).at 7 _).alloc _, ((unhide B1).set_ne (a := ⟨b, 7, none⟩) (fun e => (unhide HBW) e.symm) _).alloc _, W.heap.size, (unhide M1).size, ?_, ?_, ((unhide H1).set 7 _).alloc _⟩
      · have := heap_alloc_new (W.setCell ⟨b, 7, none⟩ (.map (some W.heap.size))) (.map #[] 0)
        rw [World.size_setCell] at this
        exact this
      · intro e; omega
    clear hc hz M1 B1 H1
    rintro W1 ⟨M1, B1, m, hm0, hm1, hmb, H1⟩
    have hc := (unhide H1).cell
    have hz := (unhide H1).frozen
    have hlW1 := (unhide H1).lt
    unfold fcs at hc
    go_upto_region 4 with fail
    refine wp_world (fun W => Hid (Mod (fun k => k = b) w W) ∧ Hid (Has W w.heap.size #[.int .i64 r, .int .i64 c, .int .i64 f, .int .i64 l0, .int .i64 l1, .int .i64 l2, .int .i64 l3] 35) ∧ Hid (W.heap[m]? = some (mapObj [] 0)) ∧ Hid (Has W b (fcs r c f l0 l1 l2 l3 (.map (some m)) 0 0 0 0 0 0 0 0 0 0 0 0 e0 e1 e2 e3 ep) 121)) ?_ ?_
    · have hmod : Mod (fun k => k = b) W1 ((((((((((((W1.setCell ⟨b, 8, none⟩ (.int .i64 0)).setCell ⟨b, 9, none⟩ (.int .i64 0)).setCell ⟨b, 10, none⟩ (.int .i64 0)).setCell ⟨b, 11, none⟩ (.int .i64 0)).setCell ⟨b, 12, none⟩ (.int .i64 0)).setCell ⟨b, 13, none⟩ (.int .i64 0)).setCell ⟨b, 14, none⟩ (.int .i64 0)).setCell ⟨b, 15, none⟩ (.int .i64 0)).setCell ⟨b, 16, none⟩ (.int .i64 0)).setCell ⟨b, 17, none⟩ (.int .i64 0)).setCell ⟨b, 18, none⟩ (.int .i64 0)).setCell ⟨b, 19, none⟩ (.int .i64 0)) :=
        ((((((((((((Mod.refl _ W1).at 8 _).at 9 _).at 10 _).at 11 _).at 12 _).at 13 _).at 14 _).at 15 _).at 16 _).at 17 _).at 18 _).at 19 _
      exact ⟨(unhide M1).trans hmod, hmod.has (unhide B1) (fun e => (unhide HBW) e.symm), hmod.map (unhide hm1) (fun e => (unhide hmb) e),
 by have h12 := (((((((((((((unhide H1).set 8 (.int .i64 0)).set 9 (.int .i64 0)).set 10 (.int .i64 0)).set 11 (.int .i64 0)).set 12 (.int .i64 0)).set 13 (.int .i64 0)).set 14 (.int .i64 0)).set 15 (.int .i64 0)).set 16 (.int .i64 0)).set 17 (.int .i64 0)).set 18 (.int .i64 0)).set 19 (.int .i64 0)); rw [clear_totals] at h12; exact h12⟩
    clear hc hz M1 B1 H1 hm1
    rintro W2 ⟨M2, B2, hm1, H2⟩
    have hc := (unhide H2).cell
    have hz := (unhide H2).frozen
    have hlW := (unhide H2).lt
    have hb1 := (unhide B2).cell
    unfold fcs at hc
    have HBW' := unhide HBW
    go_cut [] (fun wx => Hid (Mod (fun k => k = b) w wx) ∧ Hid (Has wx w.heap.size #[.int .i64 r, .int .i64 c, .int .i64 f, .int .i64 l0, .int .i64 l1, .int .i64 l2, .int .i64 l3] 35) ∧ Hid (wx.heap[m]? = some (mapObj [] 0)) ∧ Hid (Has wx b (fcs r c f l0 l1 l2 l3 (.map (some m)) x 0 0 0 0 0 0 0 0 0 0 0 e0 e1 e2 e3 ep) 121))
    case first =>
      go_region
      all_goals go_wp2
      all_goals go_meet
      all_goals exact ⟨((unhide M2).at 8 _).drew, ((unhide B2).set_ne (a := ⟨b, 8, none⟩) (fun e => HBW' e.symm) _).drew, (by show (World.setCell _ _ _).heap[m]? = _; rw [Below.heap_setCell _ _ _ _ (by exact unhide hmb)]; exact unhide hm1), ((unhide H2).set 8 _).drew⟩
    case rest =>
      obtain ⟨M3, B3, hm3, H3⟩ := hcut
      clear hc hz hlW hb1 M2 B2 hm1 H2
      have hc := (unhide H3).cell
      have hz := (unhide H3).frozen
      have hlW := (unhide H3).lt
      have hb1 := (unhide B3).cell
      unfold fcs at hc
      go_upto_region 5 with fail
      go_cut [] (fun wx => Hid (Mod (fun k => k = b) w wx) ∧ Hid (wx.heap[m]? = some (mapObj [] 0)) ∧ Hid (Has wx b (fcs r c f l0 l1 l2 l3 (.map (some m)) x 0 0 0 y 0 0 0 0 0 0 0 e0 e1 e2 e3 ep) 121))
      case first =>
        go_region
        all_goals go_wp2
        all_goals go_meet
        all_goals exact ⟨((unhide M3).at 12 _).drew, (by show (World.setCell _ _ _).heap[m]? = _; rw [Below.heap_setCell _ _ _ _ (by exact unhide hmb)]; exact unhide hm3), ((unhide H3).set 12 _).drew⟩
      case rest =>
        obtain ⟨M4, hm4, H4⟩ := hcut
        clear hc hz hlW hb1 M3 B3 hm3 H3
        go_wp2_with fail
        refine ((unhide HR) _ m (unhide H4)).mono ?_
        rintro e w5 ⟨rfl, m5, h5⟩
        go_wp2
        go_end0
        exact ⟨rfl, (unhide M4).trans m5, m, unhide hm0, m5.map (unhide hm4) (fun e => (unhide hmb) e), h5⟩

theorem Wf.at {p : Pla} {l : List Sea} (h : Wf p l) (e : Int) : Wf (p.at e) l := ⟨h.sized, h.limited, h.len, h.place, h.seat⟩
/-- A flight's cells, whatever they hold, but for the epoch. -/
def AnyF (w : World) (b : Nat) (ep : Int) : Prop :=
  ∃ r0 c0 f0 k0 k1 k2 k3 M0 a0 a1 a2 a3 b0 b1 b2 b3 s0 s1 s2 s3 e0 e1 e2 e3, Has w b (fcs r0 c0 f0 k0 k1 k2 k3 M0 a0 a1 a2 a3 b0 b1 b2 b3 s0 s1 s2 s3 e0 e1 e2 e3 ep) 121
theorem FlH.any {w : World} {S : Nat → Prop} {b : Nat} {p : Pla} {l : List Sea} (h : FlH w S b p l) : AnyF w b p.ep := by
  obtain ⟨m, es, clock, h1, _⟩ := h
  exact ⟨_, _, _, _, _, _, _, _, _, _, _, _, _, _, _, _, _, _, _, _, _, _, _, _, h1⟩

theorem fit_any {b : Nat} {p : Pla} {w : World} (ep : Int) (h : AnyF w b ep) (h1 : p.sized = true) (h2 : p.limited = true) :
    Calls Try.prog 95 #[.pointer (some ⟨b, 0, none⟩), .agg #[.int .i64 p.rows, .int .i64 p.cols, .int .i64 p.front, .int .i64 p.l0, .int .i64 p.l1, .int .i64 p.l2, .int .i64 p.l3]] w fun e w' =>
      e = .returned (.tuple #[]) ∧ FlH w' (fun k => k = b ∨ w.heap.size ≤ k) b (p.at ep) (emptySeats p) ∧ Mod (fun k => k = b) w w' := by
  obtain ⟨r0, c0, f0, k0, k1, k2, k3, M0, a0, a1, a2, a3, b0, b1, b2, b3, s0, s1, s2, s3, e0', e1', e2', e3', h⟩ := h
  have hb := h1
  simp only [Pla.sized, decide_eq_true_eq] at hb
  have f1 : 0 ≤ p.front * p.cols := Int.mul_nonneg (by omega) (by omega)
  have f2 : p.front * p.cols ≤ 20 * 6 := Int.mul_le_mul (by omega) (by omega) (by omega) (by omega)
  have f3 : 0 ≤ (p.rows - p.front) * p.cols := Int.mul_nonneg (by omega) (by omega)
  have f4 : (p.rows - p.front) * p.cols ≤ 20 * 6 := Int.mul_le_mul (by omega) (by omega) (by omega) (by omega)
  have hwf := empty_wf h1 h2
  obtain ⟨e0, e1, e2, e3⟩ := cE_eq hwf
  have ls := lim_small h2
  simp only [empty_A h1, empty_B h1, empty_S, if_true] at e0 e1 e2 e3
  refine (fit_walk b p _ _ _ _ _ _ _ _ _ _ _ _ _ _ _ _ _ _ _ _ _ _ _ _ ep (cE p (emptySeats p)) w h (p.front * p.cols) ((p.rows - p.front) * p.cols) (wrap_id _ (by omega) (by omega)) (wrap_id _ (by omega) (by omega)) (wrap_id _ (by omega) (by omega)) (fun W m hW => ?_)).mono ?_
  · refine (reckon_any b p.rows p.cols p.front p.l0 p.l1 p.l2 p.l3 _ _ _ _ _ _ _ _ _ _ _ _ _ _ _ _ _ _ W hW (by omega) (by omega) ls).mono ?_
    rintro e w' ⟨rfl, hm, hh⟩
    refine ⟨rfl, hm, ?_⟩
    rw [e0, e1, e2, e3]
    exact hh
  · rintro e w' ⟨rfl, hm, m, hm0, hm1, hh⟩
    refine ⟨rfl, ⟨m, [], 0, ?_, hm1, ⟨by simp, by simp, by simp, by simp⟩, ⟨by simp, fun i hi => ?_, ?_⟩, .inl rfl, .inr hm0⟩, hm⟩
    · have : fcells (p.at ep) (.map (some m)) (emptySeats p) = fcs p.rows p.cols p.front p.l0 p.l1 p.l2 p.l3 (.map (some m)) (cA p (emptySeats p) 0) (cA p (emptySeats p) 1) (cA p (emptySeats p) 2) (cA p (emptySeats p) 3) (cB p (emptySeats p) 0) (cB p (emptySeats p) 1) (cB p (emptySeats p) 2) (cB p (emptySeats p) 3) (cS (emptySeats p) 0) (cS (emptySeats p) 1) (cS (emptySeats p) 2) (cS (emptySeats p) 3) (cE p (emptySeats p) 0) (cE p (emptySeats p) 1) (cE p (emptySeats p) 2) (cE p (emptySeats p) 3) ep := rfl
      rw [this]
      simp only [empty_A h1, empty_B h1, empty_S]
      exact hh
    · simp [emptySeats, lookE]
    · have : (emptySeats p).countP (fun s => s.st != 0) = 0 := by
        rw [List.countP_eq_zero]
        intro s hs
        simp only [emptySeats, List.mem_map] at hs
        obtain ⟨i, _, rfl⟩ := hs
        simp
      rw [this]
      rfl

theorem start_any {b : Nat} {p : Pla} {w : World} (h : Has w b (fcs 0 0 0 0 0 0 0 (.map none) 0 0 0 0 0 0 0 0 0 0 0 0 0 0 0 0 0) 121) (h1 : p.sized = true) (h2 : p.limited = true) :
    Calls Try.prog 94 #[.agg #[.int .i64 p.rows, .int .i64 p.cols, .int .i64 p.front, .int .i64 p.l0, .int .i64 p.l1, .int .i64 p.l2, .int .i64 p.l3], .pointer (some ⟨b, 0, none⟩)] w fun e w' =>
      e = .returned (.tuple #[]) ∧ FlH w' (fun k => k = b ∨ w.heap.size ≤ k) b (p.at 1) (emptySeats p) ∧ Mod (fun k => k = b) w w' := by
  have HF := hide fun W (hW : AnyF W b 0) => fit_any (p := p) 0 hW h1 h2
  have H := hide h
  clear h
  obtain ⟨r, c, f, l0, l1, l2, l3, pe⟩ := p
  simp only at HF ⊢
  go_enter Try.func94, Try.ntmps94
  go_wp2_with fail
  refine ((unhide HF) _ ⟨_, _, _, _, _, _, _, _, _, _, _, _, _, _, _, _, _, _, _, _, _, _, _, _, (unhide H).alloc _⟩).mono ?_
  rintro e w1 ⟨rfl, h1, m1⟩
  have h1 := h1.wide (S' := fun k => k = b ∨ w.heap.size ≤ k) (fun k hk => by rw [World.size_alloc] at hk; omega)
  obtain ⟨c24, z24, l24⟩ : w1.cell? ⟨b, 24, none⟩ = some (.int .i64 0) ∧ w1.frozen? ⟨b, 24, none⟩ = false ∧ b < w1.heap.size := h1.cell24
  have HB := hide (show FlH (w1.setCell ⟨b, 24, none⟩ (.int .i64 1)) (fun k => k = b ∨ w.heap.size ≤ k) b (Pla.at ⟨r, c, f, l0, l1, l2, l3, pe⟩ 1) (emptySeats ⟨r, c, f, l0, l1, l2, l3, pe⟩) from h1.bump.1)
  have M1 := hide (((Mod.refl (fun k => k = b) w).alloc (.cells #[.int .i64 r, .int .i64 c, .int .i64 f, .int .i64 l0, .int .i64 l1, .int .i64 l2, .int .i64 l3] 139)).trans m1)
  clear h1 m1 H HF
  go_wp2
  go_end0
  refine ⟨rfl, ?_, (unhide M1).at 24 _⟩
  exact unhide HB
end Go.Proofs.Ytlcbemcamdafjaa
