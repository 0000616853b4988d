import Derived.Test.YtgddpppnndoeoaaChange
import Derived.Deep.DeepCutAuto
/- A flight is given its plane. -/
namespace Go.Proofs.Ytgddpppnndoeoaa
open Go.RowKit
open Go.ChangeMaps (setBlock)
open M
set_option linter.unusedVariables false
set_option linter.unusedSimpArgs false
set_option maxRecDepth 100000

/-- The empty seats of a plane, in their order. -/
def emptySeats (p : Pla) : List Sea := (List.range (p.rows * p.cols).toNat).map fun i : Nat => ⟨(i : Int) / p.cols + 1, (i : Int) % p.cols + 1, 0, 0, 0, 0⟩

theorem empty_wf {p : Pla} (h1 : p.sized = true) (h2 : p.limited = true) : Wf p (emptySeats p) := by
  have hb := h1
  simp only [Pla.sized, decide_eq_true_eq] at hb
  refine ⟨h1, h2, ?_, fun i hi => ?_, fun s hs => ?_⟩
  · have : 0 ≤ p.rows * p.cols := Int.mul_nonneg (by omega) (by omega)
    simp [emptySeats]
    omega
  · simp [emptySeats]
  · simp only [emptySeats, List.mem_map] at hs
    obtain ⟨i, _, rfl⟩ := hs
    exact ⟨by simp, by simp, by simp, by simp, by simp, by simp, by simp, by simp⟩

theorem countP_lt (n k : Nat) : (List.range n).countP (fun i => decide (i < k)) = min k n := by
  induction n with
  | zero => simp
  | succ n ih =>
    rw [List.range_succ, List.countP_append, ih]
    by_cases h : n < k
    · simp [h]; omega
    · simp [h]; omega

theorem row_le {p : Pla} (hc : 1 ≤ p.cols) (i : Nat) : ((i : Int) / p.cols + 1 ≤ p.front) ↔ i < (p.front * p.cols).toNat := by
  have h1 : (i : Int) / p.cols + 1 ≤ p.front ↔ (i : Int) / p.cols < p.front := by omega
  rw [h1, Int.ediv_lt_iff_lt_mul (by omega)]
  omega

theorem empty_A {p : Pla} (h1 : p.sized = true) (j : Nat) : cA p (emptySeats p) j = if j = 0 then p.front * p.cols else 0 := by
  simp only [Pla.sized, decide_eq_true_eq] at h1
  have hf : 0 ≤ p.front * p.cols := Int.mul_nonneg (by omega) (by omega)
  have hle : p.front * p.cols ≤ p.rows * p.cols := Int.mul_le_mul_of_nonneg_right (by omega) (by omega)
  simp only [cA, nAt, emptySeats, List.countP_map]
  have e : (fun s : Sea => (decide (s.row ≤ p.front) == true) && s.st == (j : Int)) ∘ (fun i : Nat => (⟨(i : Int) / p.cols + 1, (i : Int) % p.cols + 1, 0, 0, 0, 0⟩ : Sea)) = fun i => decide (i < (p.front * p.cols).toNat) && decide (j = 0) := by
    funext i
    simp only [Function.comp, beq_true]
    rw [show ((0 : Int) == (j : Int)) = decide (0 = j) from beq_cast 0 j, decide_eq_decide.2 (row_le (by omega) i), show decide (0 = j) = decide (j = 0) from decide_eq_decide.2 eq_comm]
  rw [e]
  by_cases hj : j = 0
  · simp only [hj, decide_true, Bool.and_true, if_true]
    rw [countP_lt]
    omega
  · simp [hj]

theorem empty_B {p : Pla} (h1 : p.sized = true) (j : Nat) : cB p (emptySeats p) j = if j = 0 then (p.rows - p.front) * p.cols else 0 := by
  simp only [Pla.sized, decide_eq_true_eq] at h1
  have hf : 0 ≤ p.front * p.cols := Int.mul_nonneg (by omega) (by omega)
  have hle : p.front * p.cols ≤ p.rows * p.cols := Int.mul_le_mul_of_nonneg_right (by omega) (by omega)
  have hs : (p.rows - p.front) * p.cols = p.rows * p.cols - p.front * p.cols := Int.sub_mul _ _ _
  simp only [cB, nAt, emptySeats, List.countP_map]
  have e : (fun s : Sea => (decide (s.row ≤ p.front) == false) && s.st == (j : Int)) ∘ (fun i : Nat => (⟨(i : Int) / p.cols + 1, (i : Int) % p.cols + 1, 0, 0, 0, 0⟩ : Sea)) = fun i => !decide (i < (p.front * p.cols).toNat) && decide (j = 0) := by
    funext i
    simp only [Function.comp, beq_false]
    rw [show ((0 : Int) == (j : Int)) = decide (0 = j) from beq_cast 0 j, decide_eq_decide.2 (row_le (by omega) i), show decide (0 = j) = decide (j = 0) from decide_eq_decide.2 eq_comm]
  rw [e]
  by_cases hj : j = 0
  · simp only [hj, decide_true, Bool.and_true, if_true]
    have h2 := List.length_eq_countP_add_countP (fun i => decide (i < (p.front * p.cols).toNat)) (l := List.range (p.rows * p.cols).toNat)
    rw [countP_lt] at h2
    simp only [List.length_range] at h2
    have h3 : List.countP (fun a => decide ¬decide (a < (p.front * p.cols).toNat) = true) (List.range (p.rows * p.cols).toNat) = List.countP (fun i => !decide (i < (p.front * p.cols).toNat)) (List.range (p.rows * p.cols).toNat) := by
      congr 1; funext a; by_cases h : a < (p.front * p.cols).toNat <;> simp [h] <;> omega
    rw [h3] at h2
    omega
  · simp [hj]

theorem empty_S (p : Pla) (j : Nat) : cS (emptySeats p) j = 0 := by
  simp only [cS, nSold, emptySeats, List.countP_map]
  have e : (fun s : Sea => s.sold && s.cl == (j : Int)) ∘ (fun i : Nat => (⟨(i : Int) / p.cols + 1, (i : Int) % p.cols + 1, 0, 0, 0, 0⟩ : Sea)) = fun i => false := by
    funext i
    simp [Sea.sold]
  rw [e]
  simp

theorem run_makeMap (w : World) : (Instr.makeMap 120 none).run Try.prog w = .ok (.map (some w.heap.size)) (w.alloc (.map #[] 0)) := by
  simp [Instr.makeMap, newObj, Sem.run]
attribute [local go_sem] run_makeMap

/-- The world, forgotten but for what is said of it. -/
theorem wp_world {P : Program} {c : Code} {Q : Exit → Act → World → Prop} {a : Act} {w : World} (R : World → Prop) (h : R w) (k : ∀ w, R w → c.wp P Q a w) : c.wp P Q a w := k w h

theorem start_walk (b : Nat) (p : Pla) (e' : Nat → Int) (w : World) (h : Has w b (fcs 0 0 0 0 0 0 0 (.map none) 0 0 0 0 0 0 0 0 0 0 0 0 0 0 0 0) 122) (x y : Int)
    (w1 : IntKind.i64.wrap (p.front * p.cols) = x) (w2 : IntKind.i64.wrap (p.rows - p.front) = p.rows - p.front) (w3 : IntKind.i64.wrap ((p.rows - p.front) * p.cols) = y)
    (hR : ∀ W m, Has W b (fcs p.rows p.cols p.front p.l0 p.l1 p.l2 p.l3 (.map (some m)) x 0 0 0 y 0 0 0 0 0 0 0 0 0 0 0) 122 → Calls Try.prog 109 #[.pointer (some ⟨b, 0, none⟩)] W fun e w' => e = .returned (.tuple #[]) ∧ Mod (fun k => k = b) W w' ∧
      Has w' b (fcs p.rows p.cols p.front p.l0 p.l1 p.l2 p.l3 (.map (some m)) x 0 0 0 y 0 0 0 0 0 0 0 (e' 0) (e' 1) (e' 2) (e' 3)) 122) :
    Calls Try.prog 126 #[.agg #[.int .i64 p.rows, .int .i64 p.cols, .int .i64 p.front, .int .i64 p.l0, .int .i64 p.l1, .int .i64 p.l2, .int .i64 p.l3], .pointer (some ⟨b, 0, none⟩)] w fun e w' =>
      e = .returned (.tuple #[]) ∧ Mod (fun k => k = b) w w' ∧ ∃ m, w.heap.size ≤ m ∧ w'.heap[m]? = some (mapObj [] 0) ∧ Has w' b (fcs p.rows p.cols p.front p.l0 p.l1 p.l2 p.l3 (.map (some m)) x 0 0 0 y 0 0 0 0 0 0 0 (e' 0) (e' 1) (e' 2) (e' 3)) 122 := by
  have hlt := h.lt
  have hc := h.cell
  have hz := h.frozen
  unfold fcs at hc
  have H := hide h
  have HR := hide hR
  clear h hR
  obtain ⟨r, c, f, l0, l1, l2, l3⟩ := p
  simp only at *
  go_enter Try.func126, Try.ntmps126
  go_upto_region 3 with fail
  refine wp_world (fun W => Hid (Mod (fun k => k = b) w W) ∧ Hid (Has W (w.heap.size + 1) #[.int .i64 r, .int .i64 c, .int .i64 f, .int .i64 l0, .int .i64 l1, .int .i64 l2, .int .i64 l3] 42) ∧ Hid (Has W b (fcs r c f l0 l1 l2 l3 (.map none) 0 0 0 0 0 0 0 0 0 0 0 0 0 0 0 0) 122)) ?_ ?_
  · refine ⟨(((((((((Mod.refl _ w).at 0 _).at 1 _).at 2 _).at 3 _).at 4 _).at 5 _).at 6 _).alloc _).alloc _, ?_, ?_⟩
    · have := Has.new (((((((((w.setCell ⟨b, 0, none⟩ (.int .i64 r)).setCell ⟨b, 1, none⟩ (.int .i64 c)).setCell ⟨b, 2, none⟩ (.int .i64 f)).setCell ⟨b, 3, none⟩ (.int .i64 l0)).setCell ⟨b, 4, none⟩ (.int .i64 l1)).setCell ⟨b, 5, none⟩ (.int .i64 l2)).setCell ⟨b, 6, none⟩ (.int .i64 l3)).alloc
        (.cells #[.int .i64 r, .int .i64 c, .int .i64 f, .int .i64 l0, .int .i64 l1, .int .i64 l2, .int .i64 l3] 154))) #[.int .i64 r, .int .i64 c, .int .i64 f, .int .i64 l0, .int .i64 l1, .int .i64 l2, .int .i64 l3] 42
      simp only [World.size_alloc, World.size_setCell] at this
      exact this
    · exact (((((((((unhide H).set 0 _).set 1 _).set 2 _).set 3 _).set 4 _).set 5 _).set 6 _).alloc _).alloc _
  · rintro W ⟨M1, B1, H1⟩
    have hc := (unhide H1).cell
    have hz := (unhide H1).frozen
    have hlW := (unhide H1).lt
    unfold fcs at hc
    have hbw : b ≠ w.heap.size + 1 := by omega
    have HBW := hide hbw
    clear hbw
    go_upto_region 4 with fail
    refine wp_world (fun W => Hid (Mod (fun k => k = b) w W) ∧ Hid (Has W (w.heap.size + 1) #[.int .i64 r, .int .i64 c, .int .i64 f, .int .i64 l0, .int .i64 l1, .int .i64 l2, .int .i64 l3] 42) ∧ ∃ m, Hid (w.heap.size ≤ m) ∧ Hid (W.heap[m]? = some (mapObj [] 0)) ∧ Hid (m ≠ b) ∧ Hid (Has W b (fcs r c f l0 l1 l2 l3 (.map (some m)) 0 0 0 0 0 0 0 0 0 0 0 0 0 0 0 0) 122)) ?_ ?_
    · refine ⟨((unhide M1).at 7 _).alloc _, ((unhide B1).set_ne (a := ⟨b, 7, none⟩) (fun e => (unhide HBW) e.symm) _).alloc _, W.heap.size, (unhide M1).size, ?_, ?_, ((unhide H1).set 7 _).alloc _⟩
      · have := heap_alloc_new (W.setCell ⟨b, 7, none⟩ (.map (some W.heap.size))) (.map #[] 0)
        rw [World.size_setCell] at this
        exact this
      · intro e; omega
    clear hc hz M1 B1 H1
    rintro W2 ⟨M2, B2, m, hm0, hm1, hmb, H2⟩
    have hc := (unhide H2).cell
    have hz := (unhide H2).frozen
    have hlW := (unhide H2).lt
    have hb1 := (unhide B2).cell
    unfold fcs at hc
    have HBW' := unhide HBW
    go_cut [] (fun wx => Hid (Mod (fun k => k = b) w wx) ∧ Hid (Has wx (w.heap.size + 1) #[.int .i64 r, .int .i64 c, .int .i64 f, .int .i64 l0, .int .i64 l1, .int .i64 l2, .int .i64 l3] 42) ∧ Hid (wx.heap[m]? = some (mapObj [] 0)) ∧ Hid (Has wx b (fcs r c f l0 l1 l2 l3 (.map (some m)) x 0 0 0 0 0 0 0 0 0 0 0 0 0 0 0) 122))
    case first =>
      go_region
      all_goals go_wp2
      all_goals go_meet
      all_goals exact ⟨((unhide M2).at 8 _).drew, ((unhide B2).set_ne (a := ⟨b, 8, none⟩) (fun e => HBW' e.symm) _).drew, (by show (World.setCell _ _ _).heap[m]? = _; rw [Below.heap_setCell _ _ _ _ (by exact unhide hmb)]; exact unhide hm1), ((unhide H2).set 8 _).drew⟩
    case rest =>
      obtain ⟨M3, B3, hm3, H3⟩ := hcut
      clear hc hz hlW hb1 M2 B2 hm1 H2
      have hc := (unhide H3).cell
      have hz := (unhide H3).frozen
      have hlW := (unhide H3).lt
      have hb1 := (unhide B3).cell
      unfold fcs at hc
      go_upto_region 5 with fail
      go_cut [] (fun wx => Hid (Mod (fun k => k = b) w wx) ∧ Hid (wx.heap[m]? = some (mapObj [] 0)) ∧ Hid (Has wx b (fcs r c f l0 l1 l2 l3 (.map (some m)) x 0 0 0 y 0 0 0 0 0 0 0 0 0 0 0) 122))
      case first =>
        go_region
        all_goals go_wp2
        all_goals go_meet
        all_goals exact ⟨((unhide M3).at 12 _).drew, (by show (World.setCell _ _ _).heap[m]? = _; rw [Below.heap_setCell _ _ _ _ (by exact unhide hmb)]; exact unhide hm3), ((unhide H3).set 12 _).drew⟩
      case rest =>
        obtain ⟨M4, hm4, H4⟩ := hcut
        clear hc hz hlW hb1 M3 B3 hm3 H3
        go_wp2_with fail
        refine ((unhide HR) _ m (unhide H4)).mono ?_
        rintro e w5 ⟨rfl, m5, h5⟩
        go_wp2
        go_end0
        exact ⟨rfl, (unhide M4).trans m5, m, unhide hm0, m5.map (unhide hm4) (fun e => (unhide hmb) e), h5⟩

theorem start_any {b : Nat} {p : Pla} {w : World} (h : Has w b (fcs 0 0 0 0 0 0 0 (.map none) 0 0 0 0 0 0 0 0 0 0 0 0 0 0 0 0) 122) (h1 : p.sized = true) (h2 : p.limited = true) :
    Calls Try.prog 126 #[.agg #[.int .i64 p.rows, .int .i64 p.cols, .int .i64 p.front, .int .i64 p.l0, .int .i64 p.l1, .int .i64 p.l2, .int .i64 p.l3], .pointer (some ⟨b, 0, none⟩)] w fun e w' =>
      e = .returned (.tuple #[]) ∧ FlH w' (fun k => k = b ∨ w.heap.size ≤ k) b p (emptySeats p) ∧ Mod (fun k => k = b) w w' := by
  have hb := h1
  simp only [Pla.sized, decide_eq_true_eq] at hb
  have f1 : 0 ≤ p.front * p.cols := Int.mul_nonneg (by omega) (by omega)
  have f2 : p.front * p.cols ≤ 20 * 6 := Int.mul_le_mul (by omega) (by omega) (by omega) (by omega)
  have f3 : 0 ≤ (p.rows - p.front) * p.cols := Int.mul_nonneg (by omega) (by omega)
  have f4 : (p.rows - p.front) * p.cols ≤ 20 * 6 := Int.mul_le_mul (by omega) (by omega) (by omega) (by omega)
  have hwf := empty_wf h1 h2
  obtain ⟨e0, e1, e2, e3⟩ := cE_eq hwf
  have ls := lim_small h2
  simp only [empty_A h1, empty_B h1, empty_S, if_true] at e0 e1 e2 e3
  refine (start_walk b p (cE p (emptySeats p)) w h (p.front * p.cols) ((p.rows - p.front) * p.cols) (wrap_id _ (by omega) (by omega)) (wrap_id _ (by omega) (by omega)) (wrap_id _ (by omega) (by omega)) (fun W m hW => ?_)).mono ?_
  · refine (reckon_any b p.rows p.cols p.front p.l0 p.l1 p.l2 p.l3 _ _ _ _ _ _ _ _ _ _ _ _ _ _ _ _ _ W hW (by omega) (by omega) ls).mono ?_
    rintro e w' ⟨rfl, hm, hh⟩
    refine ⟨rfl, hm, ?_⟩
    rw [e0, e1, e2, e3]
    exact hh
  · rintro e w' ⟨rfl, hm, m, hm0, hm1, hh⟩
    refine ⟨rfl, ⟨m, [], 0, ?_, hm1, ⟨by simp, by simp, by simp, by simp⟩, ⟨by simp, fun i hi => ?_⟩, .inl rfl, .inr hm0⟩, hm⟩
    · unfold fcells fcf
      simp only [empty_A h1, empty_B h1, empty_S]
      exact hh
    · simp [emptySeats, lookE]
end Go.Proofs.Ytgddpppnndoeoaa
