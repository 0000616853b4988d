import Derived.Test.YthhibagcpjeihaaLSwap2ToWr2
import Derived.Test.YthhibagcpjeihaaLReckonToPut2
import Derived.Test.YthhibagcpjeihaaLRd3ToSeat
import Derived.Test.YthhibagcpjeihaaLRd5ToRd6
namespace Go.Proofs.Ythhibagcpjeihaa
open Go.RowKit
open M
set_option linter.unusedVariables false
set_option linter.unusedSimpArgs false
set_option maxRecDepth 100000
set_option maxHeartbeats 4000000
theorem lims_idx (l0 l1 l2 l3 : Int) (p : Pla) (hp : p.l0 = l0 ∧ p.l1 = l1 ∧ p.l2 = l2 ∧ p.l3 = l3) (k : Nat) (hk : k < 4) (w : World) :
  (Instr.index 33 (.agg #[.int .i64 l0, .int .i64 l1, .int .i64 l2, .int .i64 l3]) (.int .i64 (k : Int))).run Try.prog w = .ok (.int .i64 (p.lim k)) w := by
 obtain ⟨rfl, rfl, rfl, rfl⟩ := hp
 have : k = 0 ∨ k = 1 ∨ k = 2 ∨ k = 3 := by omega
 rcases this with rfl | rfl | rfl | rfl
 ·exact idx40_0 _ _ _ _ _
 ·exact idx40_1 _ _ _ _ _
 ·exact idx40_2 _ _ _ _ _
 ·exact idx40_3 _ _ _ _ _
def limsB (p : Pla) : Nat → List Int
 | 0 => []
 | k + 1 => limsB p k ++ numB (p.lim k)
theorem limsB_len (p : Pla) (k : Nat) : (limsB p k).length ≤ 9 * k := by
 induction k with
 | zero => simp [limsB]
 | succ k ih =>
  have := (numB_len (p.lim k)).2
  simp only [limsB, List.length_append]
  omega
theorem planeB_lims (p : Pla) : planeB p = shapeB p ++ limsB p 4 := by
 simp [planeB, limsB, Pla.lim]
def Pla.fit (p : Pla) : Prop := (0 ≤ p.rows ∧ p.rows < 9223372036854775808) ∧ (0 ≤ p.cols ∧ p.cols < 9223372036854775808) ∧ (0 ≤ p.front ∧ p.front < 9223372036854775808) ∧ ∀ k, 0 ≤ p.lim k ∧ p.lim k < 9223372036854775808
theorem shapeB_len (p : Pla) : (shapeB p).length ≤ 27 := by
 have a := (numB_len p.rows).2
 have b := (numB_len p.cols).2
 have c := (numB_len p.front).2
 simp only [shapeB, List.length_append]
 omega
theorem wplane_any {O : Nat → Prop} {w : World} {wb : Nat} {xs : List Int} {now : Int} (h : ∃ v, WrX O w wb v xs now) (hO : Up O w) (hl : xs.length < 1099511627700) (p : Pla) (hp : Pla.fit p) :
  Calls Try.prog 97 #[.pointer (some ⟨wb, 0, none⟩), .agg #[.int .i64 p.rows, .int .i64 p.cols, .int .i64 p.front, .int .i64 p.l0, .int .i64 p.l1, .int .i64 p.l2, .int .i64 p.l3]] w fun e w' => e = .returned (.tuple #[]) ∧ Wrote O w w' wb (xs ++ planeB p) now := by
 obtain ⟨v, h⟩ := h
 have B0 := hide (Has.new w #[.int .i64 p.rows, .int .i64 p.cols, .int .i64 p.front, .int .i64 p.l0, .int .i64 p.l1, .int .i64 p.l2, .int .i64 p.l3] 35)
 have hsl := shapeB_len p
 have HO := hide (hO.box (.cells #[.int .i64 p.rows, .int .i64 p.cols, .int .i64 p.front, .int .i64 p.l0, .int .i64 p.l1, .int .i64 p.l2, .int .i64 p.l3] 35))
 have HN := hide (wshape_any ⟨v, h.box (.cells #[.int .i64 p.rows, .int .i64 p.cols, .int .i64 p.front, .int .i64 p.l0, .int .i64 p.l1, .int .i64 p.l2, .int .i64 p.l3] 35)⟩ (unhide HO) (by omega) p.rows p.cols p.front hp.1 hp.2.1 hp.2.2.1)
 rw [planeB_lims]
 have HL := hide fun k hk W => lims_idx p.l0 p.l1 p.l2 p.l3 p ⟨rfl, rfl, rfl, rfl⟩ k hk W
 have HF := hide hp.2.2.2
 clear h hp hO
 unfold shapeB at *
 generalize hP : numB p.rows ++ numB p.cols ++ numB p.front = PB at *
 clear hP
 go_enter Try.func97, Try.ntmps97
 go_wp2_with fail
 refine (unhide HN).mono ?_
 rintro e w1 ⟨rfl, h1⟩
 have b1 := h1.mod.has (unhide B0) (fun q => q.2 rfl)
 have c3 : w1.cell? ⟨w.heap.size, 3, none⟩ = some (.int .i64 p.l0) := b1.cell 3
 have c4 : w1.cell? ⟨w.heap.size, 4, none⟩ = some (.int .i64 p.l1) := b1.cell 4
 have c5 : w1.cell? ⟨w.heap.size, 5, none⟩ = some (.int .i64 p.l2) := b1.cell 5
 have c6 : w1.cell? ⟨w.heap.size, 6, none⟩ = some (.int .i64 p.l3) := b1.cell 6
 have hlt := b1.lt
 have H1 := hide h1
 clear h1 HN B0 b1
 go_wp2_with fail
 go_loopw [16] (fun s wr => ∃ k : Nat, s = .int .i64 k ∧ k ≤ 4 ∧ Hid (Wrote (fun k => O k ∧ k ≠ w.heap.size) (w.alloc (.cells #[.int .i64 p.rows, .int .i64 p.cols, .int .i64 p.front, .int .i64 p.l0, .int .i64 p.l1, .int .i64 p.l2, .int .i64 p.l3] 35)) wr wb (xs ++ PB ++ limsB p k) now)) (fun s _ => 4 - (intOf s).toNat)
 case atStart => exact ⟨0, rfl, by omega, by rw [limsB, List.append_nil]; exact H1⟩
 case round =>
  obtain ⟨k, rfl, hk, H2⟩ := hrel
  clear H1 c3 c4 c5 c6 hlt
  by_cases h4 : k < 4
  ·have h4i : (k : Int) < 4 := by omega
   have h0i : (0 : Int) ≤ k := by omega
   have hk1 : IntKind.i64.wrap ((k : Int) + 1) = ((k + 1 : Nat) : Int) := by rw [wrap_id _ (by omega) (by omega)]; rfl
   have hix := (unhide HL) k h4 wr
   have hll := limsB_len p k
   have HN := hide (wnum_w (unhide H2).ex ((unhide HO).mod (unhide H2).mod) (by simp only [List.length_append]; omega) (p.lim k) ((unhide HF) k))
   clear hll
   go_wp2_with fail
   refine (unhide HN).mono ?_
   rintro e w2 ⟨rfl, h2⟩
   have H3 := hide (h2.after (unhide H2).mod (fun _ _ x => x))
   clear h2 HN H2 hix
   go_wp2
   refine ⟨⟨k + 1, rfl, by omega, ?_⟩, by simp [intOf]; omega⟩
   rw [limsB, ← List.append_assoc]
   exact H3
  ·have h4i : ¬ (k : Int) < 4 := by omega
   obtain rfl : k = 4 := by omega
   go_wp2
   go_end0
   refine ⟨rfl, ?_⟩
   rw [← List.append_assoc]
   exact (unhide H2).unbox
structure SFit (now : Int) (s : Sea) : Prop where
 row : 1 ≤ s.row ∧ s.row ≤ 20
 col : 1 ≤ s.col ∧ s.col ≤ 6
 st : 0 ≤ s.st ∧ s.st ≤ 3
 cl : 0 ≤ s.cl ∧ s.cl ≤ 3
 pa : 0 ≤ s.pa ∧ s.pa ≤ 1000
 un : s.st = 1 → now ≤ s.un ∧ s.un - now ≤ 4611686018427387904
 now : 0 ≤ now ∧ now ≤ 4611686018427387904
theorem fillB_len (now : Int) (s : Sea) : (fillB now s).length ≤ 36 := by
 have a := (numB_len ((s.row - 1) * 6 + s.col - 1)).2
 have b := (numB_len (s.st * 4 + s.cl)).2
 have c := (numB_len s.pa).2
 have d := (numB_len (s.un - now)).2
 unfold fillB placeB
 simp only [List.length_append]
 have e : (if s.st = 3 then [] else numB s.pa).length ≤ 9 := by
  split
  ·simp
  ·exact c
 have f : (if s.st = 1 then numB (s.un - now) else []).length ≤ 9 := by
  split
  ·exact d
  ·simp
 omega
theorem wfill_any {O : Nat → Prop} {w : World} {wb : Nat} {xs : List Int} {now : Int} (h : ∃ v, WrX O w wb v xs now) (hO : Up O w) (hl : xs.length < 1099511627700) (s : Sea) (hs : SFit now s) :
  Calls Try.prog 98 #[.pointer (some ⟨wb, 0, none⟩), .agg #[.int .i64 s.row, .int .i64 s.col, .int .i64 s.st, .int .i64 s.pa, .int .i64 s.cl, .int .i64 s.un]] w fun e w' => e = .returned (.tuple #[]) ∧ Wrote O w w' wb (xs ++ fillB now s) now := by
 obtain ⟨v, h⟩ := h
 obtain ⟨h1, h2, h3, h4, h5, h6, h7⟩ := hs
 have l1 := (numB_len ((s.row - 1) * 6 + s.col - 1)).2
 have l2 := (numB_len (s.st * 4 + s.cl)).2
 have l3 := (numB_len s.pa).2
 have B0 := hide (Has.new w #[.int .i64 s.row, .int .i64 s.col, .int .i64 s.st, .int .i64 s.pa, .int .i64 s.cl, .int .i64 s.un] 180)
 have HO := hide (hO.box (.cells #[.int .i64 s.row, .int .i64 s.col, .int .i64 s.st, .int .i64 s.pa, .int .i64 s.cl, .int .i64 s.un] 180))
 have HN := hide (wplace_any ⟨v, h.box (.cells #[.int .i64 s.row, .int .i64 s.col, .int .i64 s.st, .int .i64 s.pa, .int .i64 s.cl, .int .i64 s.un] 180)⟩ (unhide HO) (by omega) s.row s.col h1 h2)
 have h6 := hide h6
 clear h hO
 have hpl : (placeB s.row s.col).length ≤ 9 := l1
 have HF := hide (show fillB now s = placeB s.row s.col ++ numB (s.st * 4 + s.cl) ++ (if s.st = 3 then [] else numB s.pa) ++ (if s.st = 1 then numB (s.un - now) else []) from rfl)
 generalize fillB now s = F at *
 generalize placeB s.row s.col = P at *
 go_enter Try.func98, Try.ntmps98
 go_wp2_with fail
 refine (unhide HN).mono ?_
 rintro e w1 ⟨rfl, q1⟩
 have b1 := q1.mod.has (unhide B0) (fun q => q.2 rfl)
 have c2 : w1.cell? ⟨w.heap.size, 2, none⟩ = some (.int .i64 s.st) := b1.cell 2
 have c3 : w1.cell? ⟨w.heap.size, 3, none⟩ = some (.int .i64 s.pa) := b1.cell 3
 have c4 : w1.cell? ⟨w.heap.size, 4, none⟩ = some (.int .i64 s.cl) := b1.cell 4
 have c5 : w1.cell? ⟨w.heap.size, 5, none⟩ = some (.int .i64 s.un) := b1.cell 5
 have hlt := b1.lt
 have hsz := q1.mod.size
 have HO1 := hide ((unhide HO).mod q1.mod)
 have Q1 := hide q1
 have NE := hide (show ¬ w1.heap.size = w.heap.size by omega)
 clear q1 HN B0 b1
 go_upto_region 3 with fail
 obtain ⟨v1, hv1⟩ := (unhide Q1).ex
 have HN := hide (wnum_w ⟨v1, hv1.box (.cells #[.int .i64 s.st, .int .i64 s.pa, .int .i64 s.cl, .int .i64 s.un] 170)⟩ ((unhide HO1).box _) (by simp only [List.length_append]; omega) (s.st * 4 + s.cl) (by omega))
 have B1 := hide (Has.new w1 #[.int .i64 s.st, .int .i64 s.pa, .int .i64 s.cl, .int .i64 s.un] 170)
 have HO2 := hide ((unhide HO1).box (.cells #[.int .i64 s.st, .int .i64 s.pa, .int .i64 s.cl, .int .i64 s.un] 170))
 clear hv1 c2 c3 c4 c5
 go_wp2_with fail
 refine (unhide HN).mono ?_
 rintro e w2 ⟨rfl, q2⟩
 have b2 := q2.mod.has (unhide B1) (fun q => q.2 rfl)
 have c0 : w2.cell? ⟨w1.heap.size, 0, none⟩ = some (.int .i64 s.st) := b2.cell 0
 have c1 : w2.cell? ⟨w1.heap.size, 1, none⟩ = some (.int .i64 s.pa) := b2.cell 1
 have lt2 := b2.lt
 have HO3 := hide ((unhide HO2).mod q2.mod)
 have Q2 := hide q2
 have B2 := hide b2
 clear q2 b2 HN B1
 by_cases k3 : s.st = 3
 ·have k3b : (s.st != 3) = false := by simp [k3]
  have k1b : (s.st == 1) = false := by simp [k3]
  have K1 := hide (show ¬ s.st = 1 by omega)
  have K3 := hide k3
  clear k3
  have FIN := hide ((unhide Q2).unbox)
  go_wp2
  go_end0
  refine ⟨rfl, ?_⟩
  rw [unhide HF, if_pos (unhide K3), if_neg (unhide K1), List.append_nil, List.append_nil, ← List.append_assoc]
  exact ((unhide FIN).after (unhide Q1).mod (fun _ _ x => x)).unbox
 ·have k3b : (s.st != 3) = true := by simp [k3]
  have K3 := hide k3
  clear k3
  have HN := hide (wnum_w (unhide Q2).ex (unhide HO3) (by simp only [List.length_append]; omega) s.pa (by omega))
  go_wp2_with fail
  refine (unhide HN).mono ?_
  rintro e w3 ⟨rfl, q3⟩
  have b3 := q3.mod.has (unhide B2) (fun q => q.2 rfl)
  have d0 : w3.cell? ⟨w1.heap.size, 0, none⟩ = some (.int .i64 s.st) := b3.cell 0
  have d3 : w3.cell? ⟨w1.heap.size, 3, none⟩ = some (.int .i64 s.un) := b3.cell 3
  have lt3 := b3.lt
  have HO4 := hide ((unhide HO3).mod q3.mod)
  have Q3 := hide (q3.after (unhide Q2).mod (fun _ _ x => x))
  clear q3 b3 HN c0 c1 B2
  by_cases k1 : s.st = 1
  case neg =>
   have k1b : (s.st == 1) = false := by simp [k1]
   have K1 := hide k1
   clear k1
   have FIN := hide ((unhide Q3).unbox)
   go_wp2
   go_end0
   refine ⟨rfl, ?_⟩
   rw [unhide HF, if_neg (unhide K3), if_neg (unhide K1), List.append_nil, ← List.append_assoc, ← List.append_assoc]
   exact ((unhide FIN).after (unhide Q1).mod (fun _ _ x => x)).unbox
  ·have k1b : (s.st == 1) = true := by simp [k1]
   have h6 := (unhide h6) k1
   have K1 := hide k1
   clear k1
   obtain ⟨v3, hv3⟩ := (unhide Q3).ex
   have c0 : w3.cell? ⟨wb, 1, none⟩ = some (.int .i64 now) := hv3.has.cell 1
   have lt4 := hv3.has.lt
   have hw : IntKind.i64.wrap (s.un - now) = s.un - now := wrap_id _ (by omega) (by omega)
   have HN := hide fun n => wnum_w ⟨v3, hv3.mod (S := No) ((Mod.refl No w3).drewN n) (fun _ _ x => x)⟩ ((unhide HO4).mod ((Mod.refl No w3).drewN n)) (by simp only [List.length_append]; omega) (s.un - now) (by omega)
   have HM := hide fun n => (Mod.refl No w3).drewN n
   clear hv3 HO4 HO3 HO2 HO1 HO
   go_wp2_with fail
   go_region_law (refine step_call rfl 87 _ _ rfl #[.pointer (some ⟨wb, 0, none⟩), .int .i64 (s.un - now)] (by simp [Act.eval, Act.put]) (fun W => by kernel_rfl) (.tuple #[]) _ ((unhide HN) 1) ?_; intro w5 hk5)
   all_goals go_wp2
   all_goals go_end0
   all_goals
    refine ⟨rfl, ?_⟩
    rw [unhide HF, if_neg (unhide K3), if_pos (unhide K1), ← List.append_assoc, ← List.append_assoc, ← List.append_assoc]
    have q5 := (hk5.after ((unhide HM) 1) (fun _ _ x => x.elim)).after (unhide Q3).mod (fun _ _ x => x)
    exact (q5.unbox.after (unhide Q1).mod (fun _ _ x => x)).unbox
theorem wrap64_id {n : Int} (h : -9223372036854775808 ≤ n ∧ n ≤ 9223372036854775807) : wrap64 n = n := by unfold wrap64; omega
theorem placeP_placeB {r c : Int} (hr : 1 ≤ r ∧ r ≤ 20) (hc : 1 ≤ c ∧ c ≤ 6) (t : List Int) : placeP (placeB r c ++ t) = some ((r, c), t) := by
 unfold placeP placeB
 rw [numP_numB (by omega) (by omega)]
 show some ((wrap64 (((r - 1) * 6 + c - 1).tdiv 6 + 1), wrap64 (((r - 1) * 6 + c - 1).tmod 6 + 1)), t) = _
 rw [Int.tdiv_eq_ediv_of_nonneg (by omega), Int.tmod_eq_emod_of_nonneg (by omega)]
 have e1 : ((r - 1) * 6 + c - 1) / 6 + 1 = r := by omega
 have e2 : ((r - 1) * 6 + c - 1) % 6 + 1 = c := by omega
 rw [e1, e2, wrap64_id (by omega), wrap64_id (by omega)]
theorem shapeP_shapeB {p : Pla} (h : (0 ≤ p.rows ∧ p.rows < 9223372036854775808) ∧ (0 ≤ p.cols ∧ p.cols < 9223372036854775808) ∧ 0 ≤ p.front ∧ p.front < 9223372036854775808) (t : List Int) : shapeP (shapeB p ++ t) = some ((p.rows, p.cols, p.front), t) := by
 unfold shapeP shapeB
 rw [List.append_assoc, List.append_assoc, numP_numB h.1.1 h.1.2]
 simp only [bindP]
 rw [numP_numB h.2.1.1 h.2.1.2]
 simp only
 rw [numP_numB h.2.2.1 h.2.2.2]
theorem planeP_planeB {p : Pla} (h : (0 ≤ p.rows ∧ p.rows < 9223372036854775808) ∧ (0 ≤ p.cols ∧ p.cols < 9223372036854775808) ∧ 0 ≤ p.front ∧ p.front < 9223372036854775808) (h0 : 0 ≤ p.l0 ∧ p.l0 < 9223372036854775808) (h1 : 0 ≤ p.l1 ∧ p.l1 < 9223372036854775808) (h2 : 0 ≤ p.l2 ∧ p.l2 < 9223372036854775808) (h3 : 0 ≤ p.l3 ∧ p.l3 < 9223372036854775808) (t : List Int) : planeP (planeB p ++ t) = some ({ p with ep := 0 }, t) := by
 unfold planeP planeB
 rw [List.append_assoc, List.append_assoc, List.append_assoc, List.append_assoc, shapeP_shapeB h]
 simp only [bindP, limsP]
 rw [numP_numB h0.1 h0.2]
 simp only
 rw [numP_numB h1.1 h1.2]
 simp only
 rw [numP_numB h2.1 h2.2]
 simp only
 rw [numP_numB h3.1 h3.2]
 rfl
theorem sea_eta {s : Sea} {p u : Int} (h1 : s.pa = p) (h2 : s.un = u) : (⟨s.row, s.col, s.st, p, s.cl, u⟩ : Sea) = s := by
 subst h1 h2
 rfl
theorem fillP_fillB {now : Int} {s : Sea} (h : SFit now s) (hw : s.wf) (t : List Int) : fillP now (fillB now s ++ t) = some (s, t) := by
 obtain ⟨h1, h2, h3, h4, h5, h6, h7⟩ := h
 have e1 : (s.st * 4 + s.cl).tdiv 4 = s.st := by rw [Int.tdiv_eq_ediv_of_nonneg (by omega)]; omega
 have e2 : (s.st * 4 + s.cl).tmod 4 = s.cl := by rw [Int.tmod_eq_emod_of_nonneg (by omega)]; omega
 unfold fillP fillB
 rw [List.append_assoc, List.append_assoc, List.append_assoc, placeP_placeB h1 h2]
 simp only [bindP]
 rw [numP_numB (by omega) (by omega)]
 simp only [e1, e2]
 by_cases k3 : s.st = 3
 ·have k1 : ¬ s.st = 1 := by omega
  obtain ⟨b1, b2, b3⟩ := hw.bare (.inr k3)
  simp only [if_pos k3, if_neg k1, List.nil_append]
  show some ((⟨s.row, s.col, s.st, 0, s.cl, 0⟩ : Sea), t) = some (s, t)
  rw [sea_eta b1 b3]
 ·simp only [if_neg k3]
  rw [numP_numB (by omega) (by omega)]
  by_cases k1 : s.st = 1
  ·have := h6 k1
   have := hw.un
   simp only [if_pos k1]
   rw [numP_numB (by omega) (by omega)]
   simp only
   rw [show now + (s.un - now) = s.un by omega, wrap64_id (by omega)]
  ·have b3 : s.un = 0 := by
    have := hw.s0; have := hw.s1
    by_cases k0 : s.st = 0
    ·exact (hw.bare (.inl k0)).2.2
    ·exact hw.bk (by omega)
   simp only [if_neg k1, List.nil_append]
   show some ((⟨s.row, s.col, s.st, s.pa, s.cl, 0⟩ : Sea), t) = some (s, t)
   rw [sea_eta rfl b3]
def LocP {α : Type} (p : List Int → Option (α × List Int)) : Prop := ∀ l x r, p l = some (x, r) → ∃ c, l = c ++ r ∧ ∀ t, p (c ++ t) = some (x, t)
theorem LocP.bind {α β : Type} {p : List Int → Option (α × List Int)} {q : α → List Int → Option (β × List Int)} (hp : LocP p) (hq : ∀ x, LocP (q x)) : LocP (fun l => bindP (p l) q) := by
 intro l y r h
 rcases h1 : p l with _ | ⟨x, r1⟩
 ·simp only [h1, bindP] at h
  cases h
 ·simp only [h1, bindP] at h
  obtain ⟨c1, rfl, e1⟩ := hp l x r1 h1
  obtain ⟨c2, rfl, e2⟩ := hq x r1 y r h
  refine ⟨c1 ++ c2, by rw [List.append_assoc], fun t => ?_⟩
  simp only [List.append_assoc, e1, bindP, e2]
theorem LocP.ret {α : Type} (x : α) : LocP (fun l => some (x, l)) := fun l y r h => by
 injection h with h
 injection h with h1 h2
 subst h1 h2
 exact ⟨[], rfl, fun t => rfl⟩
theorem numP_loc : ∀ (l : List Int) (k : Nat) (n : Int) {x : Int} {r : List Int}, numP l k n = some (x, r) → ∃ c, l = c ++ r ∧ ∀ t, numP (c ++ t) k n = some (x, t)
 | [], _, _, _, _, h => by simp [numP] at h
 | c :: l, k, n, x, r, h => by
  unfold numP at h
  by_cases hc : c < 128
  ·rw [if_pos hc] at h
   injection h with h
   injection h with h1 h2
   subst h1 h2
   exact ⟨[c], rfl, fun t => by
    show numP (c :: t) k n = _
    unfold numP
    rw [if_pos hc]⟩
  ·rw [if_neg hc] at h
   obtain ⟨d, rfl, e⟩ := numP_loc l _ _ h
   exact ⟨c :: d, rfl, fun t => by
    show numP (c :: (d ++ t)) k n = _
    unfold numP
    rw [if_neg hc]
    exact e t⟩
theorem numP_L : LocP (fun l => numP l 0 0) := fun l x r h => numP_loc l 0 0 h
theorem placeP_L : LocP placeP := numP_L.bind fun n => LocP.ret _
theorem shapeP_L : LocP shapeP := numP_L.bind fun a => numP_L.bind fun b => numP_L.bind fun c => LocP.ret _
theorem limsP_L : ∀ (n : Nat) (acc : List Int), LocP (limsP n acc)
 | 0, acc => LocP.ret acc
 | n + 1, acc => numP_L.bind fun a => limsP_L n (acc ++ [a])
theorem planeP_L : LocP planeP := shapeP_L.bind fun s => (limsP_L 4 []).bind fun xs => LocP.ret _
theorem LocP.ite {α : Type} {c : Prop} [Decidable c] {p q : List Int → Option (α × List Int)} (hp : LocP p) (hq : LocP q) : LocP (fun l => if c then p l else q l) := by
 intro l x r h
 by_cases hc : c
 ·simp only [if_pos hc] at h ⊢
  exact hp l x r h
 ·simp only [if_neg hc] at h ⊢
  exact hq l x r h
theorem fillP_L (now : Int) : LocP (fillP now) := placeP_L.bind fun p => numP_L.bind fun n => ((LocP.ret 0).ite numP_L).bind fun pa => (numP_L.ite (LocP.ret 0)).bind fun u => LocP.ret _
theorem LocP.torn {α : Type} {p : List Int → Option (α × List Int)} (hp : LocP p) {c : List Int} {x : α} (hc : ∀ t, p (c ++ t) = some (x, t)) {k : Nat} (hk : k < c.length) {y : α} {r : List Int} {s : Int} (h : p (c.take k ++ [s]) = some (y, r)) : r = [] := by
 obtain ⟨d, e, hd⟩ := hp _ _ _ h
 by_cases hr : r = []
 ·exact hr
 ·exfalso
  have hl := congrArg List.length e
  simp only [List.length_append, List.length_take, List.length_cons, List.length_nil] at hl
  have hr1 : 0 < r.length := List.length_pos_iff.2 hr
  have hdk : d.length ≤ k := by omega
  have ed : d = c.take d.length := by
   have h1 := congrArg (List.take d.length) e
   rw [List.take_append_of_le_length (by simp; omega), List.take_take, List.take_left] at h1
   rw [Nat.min_eq_left hdk] at h1
   exact h1.symm
  have e2 : c = d ++ c.drop d.length := by
   conv => lhs; rw [← List.take_append_drop d.length c]
   rw [← ed]
  have h2 := hd (c.drop d.length)
  rw [← e2] at h2
  have h3 := hc []
  rw [List.append_nil, h2] at h3
  injection h3 with h3
  injection h3 with _ h3
  have := congrArg List.length h3
  simp at this
  omega
theorem wta1_1 (v : Value) (w : World) : (Instr.typeAssert (.iface 163 v) 120 163 true).run Try.prog w = .ok (.tuple #[v, .bool true]) w := by kernel_rfl
theorem wta2_1 (v : Value) (w : World) : (Instr.typeAssert (.iface 180 v) 120 163 true).run Try.prog w = .ok (.tuple #[.agg #[.int .i64 0, .int .i64 0, .int .i64 0, .int .i64 0, .int .i64 0, .int .i64 0, .int .i64 0], .bool false]) w := by kernel_rfl
theorem wta2_2 (v : Value) (w : World) : (Instr.typeAssert (.iface 180 v) 120 180 true).run Try.prog w = .ok (.tuple #[v, .bool true]) w := by kernel_rfl
theorem wta3_1 (v : Value) (w : World) : (Instr.typeAssert (.iface 184 v) 120 163 true).run Try.prog w = .ok (.tuple #[.agg #[.int .i64 0, .int .i64 0, .int .i64 0, .int .i64 0, .int .i64 0, .int .i64 0, .int .i64 0], .bool false]) w := by kernel_rfl
theorem wta3_2 (v : Value) (w : World) : (Instr.typeAssert (.iface 184 v) 120 180 true).run Try.prog w = .ok (.tuple #[.agg #[.int .i64 0, .int .i64 0, .int .i64 0, .int .i64 0, .int .i64 0, .int .i64 0], .bool false]) w := by kernel_rfl
theorem wta3_3 (v : Value) (w : World) : (Instr.typeAssert (.iface 184 v) 120 184 true).run Try.prog w = .ok (.tuple #[v, .bool true]) w := by kernel_rfl
theorem wta4_1 (v : Value) (w : World) : (Instr.typeAssert (.iface 186 v) 120 163 true).run Try.prog w = .ok (.tuple #[.agg #[.int .i64 0, .int .i64 0, .int .i64 0, .int .i64 0, .int .i64 0, .int .i64 0, .int .i64 0], .bool false]) w := by kernel_rfl
theorem wta4_2 (v : Value) (w : World) : (Instr.typeAssert (.iface 186 v) 120 180 true).run Try.prog w = .ok (.tuple #[.agg #[.int .i64 0, .int .i64 0, .int .i64 0, .int .i64 0, .int .i64 0, .int .i64 0], .bool false]) w := by kernel_rfl
theorem wta4_3 (v : Value) (w : World) : (Instr.typeAssert (.iface 186 v) 120 184 true).run Try.prog w = .ok (.tuple #[.agg #[.int .i64 0, .int .i64 0], .bool false]) w := by kernel_rfl
theorem wta4_4 (v : Value) (w : World) : (Instr.typeAssert (.iface 186 v) 120 186 true).run Try.prog w = .ok (.tuple #[v, .bool true]) w := by kernel_rfl
theorem wta5_1 (v : Value) (w : World) : (Instr.typeAssert (.iface 182 v) 120 163 true).run Try.prog w = .ok (.tuple #[.agg #[.int .i64 0, .int .i64 0, .int .i64 0, .int .i64 0, .int .i64 0, .int .i64 0, .int .i64 0], .bool false]) w := by kernel_rfl
theorem wta5_2 (v : Value) (w : World) : (Instr.typeAssert (.iface 182 v) 120 180 true).run Try.prog w = .ok (.tuple #[.agg #[.int .i64 0, .int .i64 0, .int .i64 0, .int .i64 0, .int .i64 0, .int .i64 0], .bool false]) w := by kernel_rfl
theorem wta5_3 (v : Value) (w : World) : (Instr.typeAssert (.iface 182 v) 120 184 true).run Try.prog w = .ok (.tuple #[.agg #[.int .i64 0, .int .i64 0], .bool false]) w := by kernel_rfl
theorem wta5_4 (v : Value) (w : World) : (Instr.typeAssert (.iface 182 v) 120 186 true).run Try.prog w = .ok (.tuple #[.agg #[.int .i64 0, .int .i64 0, .int .i64 0, .int .i64 0], .bool false]) w := by kernel_rfl
theorem wta5_5 (v : Value) (w : World) : (Instr.typeAssert (.iface 182 v) 120 182 true).run Try.prog w = .ok (.tuple #[v, .bool true]) w := by kernel_rfl
theorem wta6_1 (v : Value) (w : World) : (Instr.typeAssert (.iface 144 v) 120 163 true).run Try.prog w = .ok (.tuple #[.agg #[.int .i64 0, .int .i64 0, .int .i64 0, .int .i64 0, .int .i64 0, .int .i64 0, .int .i64 0], .bool false]) w := by kernel_rfl
theorem wta6_2 (v : Value) (w : World) : (Instr.typeAssert (.iface 144 v) 120 180 true).run Try.prog w = .ok (.tuple #[.agg #[.int .i64 0, .int .i64 0, .int .i64 0, .int .i64 0, .int .i64 0, .int .i64 0], .bool false]) w := by kernel_rfl
theorem wta6_3 (v : Value) (w : World) : (Instr.typeAssert (.iface 144 v) 120 184 true).run Try.prog w = .ok (.tuple #[.agg #[.int .i64 0, .int .i64 0], .bool false]) w := by kernel_rfl
theorem wta6_4 (v : Value) (w : World) : (Instr.typeAssert (.iface 144 v) 120 186 true).run Try.prog w = .ok (.tuple #[.agg #[.int .i64 0, .int .i64 0, .int .i64 0, .int .i64 0], .bool false]) w := by kernel_rfl
theorem wta6_5 (v : Value) (w : World) : (Instr.typeAssert (.iface 144 v) 120 182 true).run Try.prog w = .ok (.tuple #[.agg #[.int .i64 0, .int .i64 0, .int .i64 0], .bool false]) w := by kernel_rfl
theorem wta6_6 (v : Value) (w : World) : (Instr.typeAssert (.iface 144 v) 120 144 true).run Try.prog w = .ok (.tuple #[v, .bool true]) w := by kernel_rfl
theorem wta7_1 (v : Value) (w : World) : (Instr.typeAssert (.iface 177 v) 120 163 true).run Try.prog w = .ok (.tuple #[.agg #[.int .i64 0, .int .i64 0, .int .i64 0, .int .i64 0, .int .i64 0, .int .i64 0, .int .i64 0], .bool false]) w := by kernel_rfl
theorem wta7_2 (v : Value) (w : World) : (Instr.typeAssert (.iface 177 v) 120 180 true).run Try.prog w = .ok (.tuple #[.agg #[.int .i64 0, .int .i64 0, .int .i64 0, .int .i64 0, .int .i64 0, .int .i64 0], .bool false]) w := by kernel_rfl
theorem wta7_3 (v : Value) (w : World) : (Instr.typeAssert (.iface 177 v) 120 184 true).run Try.prog w = .ok (.tuple #[.agg #[.int .i64 0, .int .i64 0], .bool false]) w := by kernel_rfl
theorem wta7_4 (v : Value) (w : World) : (Instr.typeAssert (.iface 177 v) 120 186 true).run Try.prog w = .ok (.tuple #[.agg #[.int .i64 0, .int .i64 0, .int .i64 0, .int .i64 0], .bool false]) w := by kernel_rfl
theorem wta7_5 (v : Value) (w : World) : (Instr.typeAssert (.iface 177 v) 120 182 true).run Try.prog w = .ok (.tuple #[.agg #[.int .i64 0, .int .i64 0, .int .i64 0], .bool false]) w := by kernel_rfl
theorem wta7_6 (v : Value) (w : World) : (Instr.typeAssert (.iface 177 v) 120 144 true).run Try.prog w = .ok (.tuple #[.agg #[.int .i64 0], .bool false]) w := by kernel_rfl
theorem wta7_7 (v : Value) (w : World) : (Instr.typeAssert (.iface 177 v) 120 177 true).run Try.prog w = .ok (.tuple #[v, .bool true]) w := by kernel_rfl
attribute [local go_sem] wta1_1
attribute [local go_sem] wta2_1 wta2_2
attribute [local go_sem] wta3_1 wta3_2 wta3_3
attribute [local go_sem] wta4_1 wta4_2 wta4_3 wta4_4
attribute [local go_sem] wta5_1 wta5_2 wta5_3 wta5_4 wta5_5
attribute [local go_sem] wta6_1 wta6_2 wta6_3 wta6_4 wta6_5 wta6_6
attribute [local go_sem] wta7_1 wta7_2 wta7_3 wta7_4 wta7_5 wta7_6 wta7_7
theorem WrX.box2 {O : Nat → Prop} {w : World} {wb : Nat} {v : Value} {xs : List Int} {now : Int} (h : WrX O w wb v xs now) (o o' : Obj) : WrX (fun k => (O k ∧ k ≠ w.heap.size) ∧ k ≠ w.heap.size + 1) ((w.alloc o).alloc o') wb v xs now := by
 have := (h.box o).box o'
 rw [World.size_alloc] at this
 exact this
theorem Up.box2 {O : Nat → Prop} {w : World} (h : Up O w) (o o' : Obj) : Up (fun k => (O k ∧ k ≠ w.heap.size) ∧ k ≠ w.heap.size + 1) ((w.alloc o).alloc o') := by
 have := (h.box o).box o'
 rw [World.size_alloc] at this
 exact this
theorem Wrote.unbox2 {O : Nat → Prop} {w w2 : World} {wb : Nat} {xs : List Int} {now : Int} {o o' : Obj} (h : Wrote (fun k => (O k ∧ k ≠ w.heap.size) ∧ k ≠ w.heap.size + 1) ((w.alloc o).alloc o') w2 wb xs now) : Wrote O w w2 wb xs now := by
 obtain ⟨⟨v, hx⟩, hm⟩ := h
 exact ⟨⟨v, hx.wide (fun _ q => q.1.1)⟩, ((((Mod.refl No w).alloc o).alloc o').mono (fun _ _ x => x.elim)).trans (hm.mono (fun _ _ q => q.1.1))⟩
theorem Has.new2 (w : World) (o : Obj) (cs : Array Value) (T : TypeId) : Has ((w.alloc o).alloc (.cells cs T)) (w.heap.size + 1) cs T := by
 have := Has.new (w.alloc o) cs T
 rw [World.size_alloc] at this
 exact this
theorem wentry_start {O : Nat → Prop} {w : World} {wb : Nat} {xs : List Int} {now : Int} (h : ∃ v, WrX O w wb v xs now) (hO : Up O w) (hl : xs.length < 1099511627600) (f : Int) (hf : 0 ≤ f ∧ f < 32) (p : Pla) (hp : Pla.fit p) :
  Calls Try.prog 88 #[.pointer (some ⟨wb, 0, none⟩), .agg #[.int .i64 f, .iface 163 (.agg #[.int .i64 p.rows, .int .i64 p.cols, .int .i64 p.front, .int .i64 p.l0, .int .i64 p.l1, .int .i64 p.l2, .int .i64 p.l3])]] w fun e w' => e = .returned (.tuple #[]) ∧ Wrote O w w' wb (xs ++ ((32 * 1 + f) :: planeB p)) now := by
 obtain ⟨v, h⟩ := h
 have B1 := hide (Has.new2 w (.cells #[.int .i64 f, .iface 163 (.agg #[.int .i64 p.rows, .int .i64 p.cols, .int .i64 p.front, .int .i64 p.l0, .int .i64 p.l1, .int .i64 p.l2, .int .i64 p.l3])] 124) #[.int .i64 p.rows, .int .i64 p.cols, .int .i64 p.front, .int .i64 p.l0, .int .i64 p.l1, .int .i64 p.l2, .int .i64 p.l3] 163)
 have HO1 := hide (hO.box2 (.cells #[.int .i64 f, .iface 163 (.agg #[.int .i64 p.rows, .int .i64 p.cols, .int .i64 p.front, .int .i64 p.l0, .int .i64 p.l1, .int .i64 p.l2, .int .i64 p.l3])] 124) (.cells #[.int .i64 p.rows, .int .i64 p.cols, .int .i64 p.front, .int .i64 p.l0, .int .i64 p.l1, .int .i64 p.l2, .int .i64 p.l3] 163))
 have HN := hide (whead_w ⟨v, h.box2 (.cells #[.int .i64 f, .iface 163 (.agg #[.int .i64 p.rows, .int .i64 p.cols, .int .i64 p.front, .int .i64 p.l0, .int .i64 p.l1, .int .i64 p.l2, .int .i64 p.l3])] 124) (.cells #[.int .i64 p.rows, .int .i64 p.cols, .int .i64 p.front, .int .i64 p.l0, .int .i64 p.l1, .int .i64 p.l2, .int .i64 p.l3] 163)⟩ (unhide HO1) (by omega) 1 f (by omega) hf)
 clear h hO
 have HPL := hide hp
 clear hp
 go_enter Try.func88, Try.ntmps88
 go_wp2_with fail
 refine (unhide HN).mono ?_
 rintro e w1 ⟨rfl, q1⟩
 have b1 := q1.mod.has (unhide B1) (fun q => q.2 rfl)
 have c0 : w1.cell? ⟨w.heap.size + 1, 0, none⟩ = some (.int .i64 p.rows) := b1.cell 0
 have c1 : w1.cell? ⟨w.heap.size + 1, 1, none⟩ = some (.int .i64 p.cols) := b1.cell 1
 have c2 : w1.cell? ⟨w.heap.size + 1, 2, none⟩ = some (.int .i64 p.front) := b1.cell 2
 have c3 : w1.cell? ⟨w.heap.size + 1, 3, none⟩ = some (.int .i64 p.l0) := b1.cell 3
 have c4 : w1.cell? ⟨w.heap.size + 1, 4, none⟩ = some (.int .i64 p.l1) := b1.cell 4
 have c5 : w1.cell? ⟨w.heap.size + 1, 5, none⟩ = some (.int .i64 p.l2) := b1.cell 5
 have c6 : w1.cell? ⟨w.heap.size + 1, 6, none⟩ = some (.int .i64 p.l3) := b1.cell 6
 have hlt := b1.lt
 have HO2 := hide ((unhide HO1).mod q1.mod)
 have Q1 := hide q1
 have HN2 := hide (wplane_any q1.ex (unhide HO2) (by simp only [List.length_append, List.length_singleton]; omega) p (unhide HPL))
 clear q1 b1 HN B1
 go_wp2_with fail
 refine (unhide HN2).mono ?_
 rintro e w2 ⟨rfl, q2⟩
 have Q2 := hide ((q2.after (unhide Q1).mod (fun _ _ x => x)).unbox2)
 clear q2 HN2 Q1
 go_wp2
 go_end0
 refine ⟨rfl, ?_⟩
 have q := unhide Q2
 rw [List.append_assoc] at q
 exact q
theorem wentry_fill {O : Nat → Prop} {w : World} {wb : Nat} {xs : List Int} {now : Int} (h : ∃ v, WrX O w wb v xs now) (hO : Up O w) (hl : xs.length < 1099511627600) (f : Int) (hf : 0 ≤ f ∧ f < 32) (s : Sea) (hs : SFit now s) :
  Calls Try.prog 88 #[.pointer (some ⟨wb, 0, none⟩), .agg #[.int .i64 f, .iface 180 (.agg #[.int .i64 s.row, .int .i64 s.col, .int .i64 s.st, .int .i64 s.pa, .int .i64 s.cl, .int .i64 s.un])]] w fun e w' => e = .returned (.tuple #[]) ∧ Wrote O w w' wb (xs ++ ((32 * 2 + f) :: fillB now s)) now := by
 obtain ⟨v, h⟩ := h
 have B1 := hide (Has.new2 w (.cells #[.int .i64 f, .iface 180 (.agg #[.int .i64 s.row, .int .i64 s.col, .int .i64 s.st, .int .i64 s.pa, .int .i64 s.cl, .int .i64 s.un])] 124) #[.int .i64 s.row, .int .i64 s.col, .int .i64 s.st, .int .i64 s.pa, .int .i64 s.cl, .int .i64 s.un] 180)
 have HO1 := hide (hO.box2 (.cells #[.int .i64 f, .iface 180 (.agg #[.int .i64 s.row, .int .i64 s.col, .int .i64 s.st, .int .i64 s.pa, .int .i64 s.cl, .int .i64 s.un])] 124) (.cells #[.int .i64 s.row, .int .i64 s.col, .int .i64 s.st, .int .i64 s.pa, .int .i64 s.cl, .int .i64 s.un] 180))
 have HN := hide (whead_w ⟨v, h.box2 (.cells #[.int .i64 f, .iface 180 (.agg #[.int .i64 s.row, .int .i64 s.col, .int .i64 s.st, .int .i64 s.pa, .int .i64 s.cl, .int .i64 s.un])] 124) (.cells #[.int .i64 s.row, .int .i64 s.col, .int .i64 s.st, .int .i64 s.pa, .int .i64 s.cl, .int .i64 s.un] 180)⟩ (unhide HO1) (by omega) 2 f (by omega) hf)
 clear h hO
 have HS := hide hs
 clear hs
 go_enter Try.func88, Try.ntmps88
 go_wp2_with fail
 refine (unhide HN).mono ?_
 rintro e w1 ⟨rfl, q1⟩
 have b1 := q1.mod.has (unhide B1) (fun q => q.2 rfl)
 have c0 : w1.cell? ⟨w.heap.size + 1, 0, none⟩ = some (.int .i64 s.row) := b1.cell 0
 have c1 : w1.cell? ⟨w.heap.size + 1, 1, none⟩ = some (.int .i64 s.col) := b1.cell 1
 have c2 : w1.cell? ⟨w.heap.size + 1, 2, none⟩ = some (.int .i64 s.st) := b1.cell 2
 have c3 : w1.cell? ⟨w.heap.size + 1, 3, none⟩ = some (.int .i64 s.pa) := b1.cell 3
 have c4 : w1.cell? ⟨w.heap.size + 1, 4, none⟩ = some (.int .i64 s.cl) := b1.cell 4
 have c5 : w1.cell? ⟨w.heap.size + 1, 5, none⟩ = some (.int .i64 s.un) := b1.cell 5
 have hlt := b1.lt
 have HO2 := hide ((unhide HO1).mod q1.mod)
 have Q1 := hide q1
 have HN2 := hide (wfill_any q1.ex (unhide HO2) (by simp only [List.length_append, List.length_singleton]; omega) s (unhide HS))
 clear q1 b1 HN B1
 go_wp2_with fail
 refine (unhide HN2).mono ?_
 rintro e w2 ⟨rfl, q2⟩
 have Q2 := hide ((q2.after (unhide Q1).mod (fun _ _ x => x)).unbox2)
 clear q2 HN2 Q1
 go_wp2
 go_end0
 refine ⟨rfl, ?_⟩
 have q := unhide Q2
 rw [List.append_assoc] at q
 exact q
theorem wentry_empty {O : Nat → Prop} {w : World} {wb : Nat} {xs : List Int} {now : Int} (h : ∃ v, WrX O w wb v xs now) (hO : Up O w) (hl : xs.length < 1099511627600) (f : Int) (hf : 0 ≤ f ∧ f < 32) (r c : Int) (hr : 1 ≤ r ∧ r ≤ 20) (hc : 1 ≤ c ∧ c ≤ 6) :
  Calls Try.prog 88 #[.pointer (some ⟨wb, 0, none⟩), .agg #[.int .i64 f, .iface 184 (.agg #[.int .i64 r, .int .i64 c])]] w fun e w' => e = .returned (.tuple #[]) ∧ Wrote O w w' wb (xs ++ ((32 * 3 + f) :: placeB r c)) now := by
 obtain ⟨v, h⟩ := h
 have B1 := hide (Has.new2 w (.cells #[.int .i64 f, .iface 184 (.agg #[.int .i64 r, .int .i64 c])] 124) #[.int .i64 r, .int .i64 c] 184)
 have HO1 := hide (hO.box2 (.cells #[.int .i64 f, .iface 184 (.agg #[.int .i64 r, .int .i64 c])] 124) (.cells #[.int .i64 r, .int .i64 c] 184))
 have HN := hide (whead_w ⟨v, h.box2 (.cells #[.int .i64 f, .iface 184 (.agg #[.int .i64 r, .int .i64 c])] 124) (.cells #[.int .i64 r, .int .i64 c] 184)⟩ (unhide HO1) (by omega) 3 f (by omega) hf)
 clear h hO
 go_enter Try.func88, Try.ntmps88
 go_wp2_with fail
 refine (unhide HN).mono ?_
 rintro e w1 ⟨rfl, q1⟩
 have b1 := q1.mod.has (unhide B1) (fun q => q.2 rfl)
 have c0 : w1.cell? ⟨w.heap.size + 1, 0, none⟩ = some (.int .i64 r) := b1.cell 0
 have c1 : w1.cell? ⟨w.heap.size + 1, 1, none⟩ = some (.int .i64 c) := b1.cell 1
 have hlt := b1.lt
 have HO2 := hide ((unhide HO1).mod q1.mod)
 have Q1 := hide q1
 have HN2 := hide (wplace_any q1.ex (unhide HO2) (by simp only [List.length_append, List.length_singleton]; omega) r c hr hc)
 clear q1 b1 HN B1
 go_wp2_with fail
 refine (unhide HN2).mono ?_
 rintro e w2 ⟨rfl, q2⟩
 have Q2 := hide ((q2.after (unhide Q1).mod (fun _ _ x => x)).unbox2)
 clear q2 HN2 Q1
 go_wp2
 go_end0
 refine ⟨rfl, ?_⟩
 have q := unhide Q2
 rw [List.append_assoc] at q
 exact q
theorem wentry_shift {O : Nat → Prop} {w : World} {wb : Nat} {xs : List Int} {now : Int} (h : ∃ v, WrX O w wb v xs now) (hO : Up O w) (hl : xs.length < 1099511627600) (f : Int) (hf : 0 ≤ f ∧ f < 32) (r c rt ct : Int) (hr : 1 ≤ r ∧ r ≤ 20) (hc : 1 ≤ c ∧ c ≤ 6) (hr2 : 1 ≤ rt ∧ rt ≤ 20) (hc2 : 1 ≤ ct ∧ ct ≤ 6) :
  Calls Try.prog 88 #[.pointer (some ⟨wb, 0, none⟩), .agg #[.int .i64 f, .iface 186 (.agg #[.int .i64 r, .int .i64 c, .int .i64 rt, .int .i64 ct])]] w fun e w' => e = .returned (.tuple #[]) ∧ Wrote O w w' wb (xs ++ ((32 * 4 + f) :: (placeB r c ++ placeB rt ct))) now := by
 obtain ⟨v, h⟩ := h
 have B1 := hide (Has.new2 w (.cells #[.int .i64 f, .iface 186 (.agg #[.int .i64 r, .int .i64 c, .int .i64 rt, .int .i64 ct])] 124) #[.int .i64 r, .int .i64 c, .int .i64 rt, .int .i64 ct] 186)
 have HO1 := hide (hO.box2 (.cells #[.int .i64 f, .iface 186 (.agg #[.int .i64 r, .int .i64 c, .int .i64 rt, .int .i64 ct])] 124) (.cells #[.int .i64 r, .int .i64 c, .int .i64 rt, .int .i64 ct] 186))
 have HN := hide (whead_w ⟨v, h.box2 (.cells #[.int .i64 f, .iface 186 (.agg #[.int .i64 r, .int .i64 c, .int .i64 rt, .int .i64 ct])] 124) (.cells #[.int .i64 r, .int .i64 c, .int .i64 rt, .int .i64 ct] 186)⟩ (unhide HO1) (by omega) 4 f (by omega) hf)
 clear h hO
 have l1 : (placeB r c).length ≤ 9 := (numB_len _).2
 go_enter Try.func88, Try.ntmps88
 go_wp2_with fail
 refine (unhide HN).mono ?_
 rintro e w1 ⟨rfl, q1⟩
 have b1 := q1.mod.has (unhide B1) (fun q => q.2 rfl)
 have c0 : w1.cell? ⟨w.heap.size + 1, 0, none⟩ = some (.int .i64 r) := b1.cell 0
 have c1 : w1.cell? ⟨w.heap.size + 1, 1, none⟩ = some (.int .i64 c) := b1.cell 1
 have c2 : w1.cell? ⟨w.heap.size + 1, 2, none⟩ = some (.int .i64 rt) := b1.cell 2
 have c3 : w1.cell? ⟨w.heap.size + 1, 3, none⟩ = some (.int .i64 ct) := b1.cell 3
 have hlt := b1.lt
 have HO2 := hide ((unhide HO1).mod q1.mod)
 have Q1 := hide q1
 have HN2 := hide (wplace_any q1.ex (unhide HO2) (by simp only [List.length_append, List.length_singleton]; omega) r c hr hc)
 have BB := hide b1
 clear q1 b1 HN B1
 go_wp2_with fail
 refine (unhide HN2).mono ?_
 rintro e w2 ⟨rfl, q2⟩
 have b2 := q2.mod.has (unhide BB) (fun q => q.2 rfl)
 have d2 : w2.cell? ⟨w.heap.size + 1, 2, none⟩ = some (.int .i64 rt) := b2.cell 2
 have d3 : w2.cell? ⟨w.heap.size + 1, 3, none⟩ = some (.int .i64 ct) := b2.cell 3
 have hlt2 := b2.lt
 have HN3 := hide (wplace_any q2.ex ((unhide HO2).mod q2.mod) (by simp only [List.length_append, List.length_singleton]; omega) rt ct hr2 hc2)
 have Q2 := hide (q2.after (unhide Q1).mod (fun _ _ x => x))
 clear q2 b2 HN2 Q1 BB c0 c1 c2 c3
 go_wp2_with fail
 refine (unhide HN3).mono ?_
 rintro e w3 ⟨rfl, q3⟩
 have Q3 := hide ((q3.after (unhide Q2).mod (fun _ _ x => x)).unbox2)
 clear q3 HN3 Q2
 go_wp2
 go_end0
 refine ⟨rfl, ?_⟩
 have q := unhide Q3
 rw [List.append_assoc, List.append_assoc] at q
 exact q
theorem wentry_refit {O : Nat → Prop} {w : World} {wb : Nat} {xs : List Int} {now : Int} (h : ∃ v, WrX O w wb v xs now) (hO : Up O w) (hl : xs.length < 1099511627600) (f : Int) (hf : 0 ≤ f ∧ f < 32) (r c k : Int) (hr : 0 ≤ r ∧ r < 9223372036854775808) (hc : 0 ≤ c ∧ c < 9223372036854775808) (hk : 0 ≤ k ∧ k < 9223372036854775808) :
  Calls Try.prog 88 #[.pointer (some ⟨wb, 0, none⟩), .agg #[.int .i64 f, .iface 182 (.agg #[.int .i64 r, .int .i64 c, .int .i64 k])]] w fun e w' => e = .returned (.tuple #[]) ∧ Wrote O w w' wb (xs ++ ((32 * 5 + f) :: (numB r ++ numB c ++ numB k))) now := by
 obtain ⟨v, h⟩ := h
 have B1 := hide (Has.new2 w (.cells #[.int .i64 f, .iface 182 (.agg #[.int .i64 r, .int .i64 c, .int .i64 k])] 124) #[.int .i64 r, .int .i64 c, .int .i64 k] 182)
 have HO1 := hide (hO.box2 (.cells #[.int .i64 f, .iface 182 (.agg #[.int .i64 r, .int .i64 c, .int .i64 k])] 124) (.cells #[.int .i64 r, .int .i64 c, .int .i64 k] 182))
 have HN := hide (whead_w ⟨v, h.box2 (.cells #[.int .i64 f, .iface 182 (.agg #[.int .i64 r, .int .i64 c, .int .i64 k])] 124) (.cells #[.int .i64 r, .int .i64 c, .int .i64 k] 182)⟩ (unhide HO1) (by omega) 5 f (by omega) hf)
 clear h hO
 go_enter Try.func88, Try.ntmps88
 go_wp2_with fail
 refine (unhide HN).mono ?_
 rintro e w1 ⟨rfl, q1⟩
 have b1 := q1.mod.has (unhide B1) (fun q => q.2 rfl)
 have c0 : w1.cell? ⟨w.heap.size + 1, 0, none⟩ = some (.int .i64 r) := b1.cell 0
 have c1 : w1.cell? ⟨w.heap.size + 1, 1, none⟩ = some (.int .i64 c) := b1.cell 1
 have c2 : w1.cell? ⟨w.heap.size + 1, 2, none⟩ = some (.int .i64 k) := b1.cell 2
 have hlt := b1.lt
 have HO2 := hide ((unhide HO1).mod q1.mod)
 have Q1 := hide q1
 have HN2 := hide (wshape_any q1.ex (unhide HO2) (by simp only [List.length_append, List.length_singleton]; omega) r c k hr hc hk)
 clear q1 b1 HN B1
 go_wp2_with fail
 refine (unhide HN2).mono ?_
 rintro e w2 ⟨rfl, q2⟩
 have Q2 := hide ((q2.after (unhide Q1).mod (fun _ _ x => x)).unbox2)
 clear q2 HN2 Q1
 go_wp2
 go_end0
 refine ⟨rfl, ?_⟩
 have q := unhide Q2
 rw [List.append_assoc] at q
 exact q
theorem wentry_pass {O : Nat → Prop} {w : World} {wb : Nat} {xs : List Int} {now : Int} (h : ∃ v, WrX O w wb v xs now) (hO : Up O w) (hl : xs.length < 1099511627600) (f : Int) (nw : Int) (hn : 0 ≤ now ∧ now ≤ nw ∧ nw ≤ 4611686018427387904) :
  Calls Try.prog 88 #[.pointer (some ⟨wb, 0, none⟩), .agg #[.int .i64 f, .iface 144 (.agg #[.int .i64 nw])]] w fun e w' => e = .returned (.tuple #[]) ∧ Wrote O w w' wb (xs ++ (192 :: numB (nw - now))) nw := by
 obtain ⟨v, h⟩ := h
 have B1 := hide (Has.new2 w (.cells #[.int .i64 f, .iface 144 (.agg #[.int .i64 nw])] 124) #[.int .i64 nw] 144)
 have HO1 := hide (hO.box2 (.cells #[.int .i64 f, .iface 144 (.agg #[.int .i64 nw])] 124) (.cells #[.int .i64 nw] 144))
 have HN := hide (whead_w ⟨v, h.box2 (.cells #[.int .i64 f, .iface 144 (.agg #[.int .i64 nw])] 124) (.cells #[.int .i64 nw] 144)⟩ (unhide HO1) (by omega) 6 0 (by omega) (by omega))
 clear h hO
 go_enter Try.func88, Try.ntmps88
 go_wp2_with fail
 refine (unhide HN).mono ?_
 rintro e w1 ⟨rfl, q1⟩
 have b1 := q1.mod.has (unhide B1) (fun q => q.2 rfl)
 have c0 : w1.cell? ⟨w.heap.size + 1, 0, none⟩ = some (.int .i64 nw) := b1.cell 0
 have hlt := b1.lt
 have HO2 := hide ((unhide HO1).mod q1.mod)
 have Q1 := hide q1
 obtain ⟨v1, hv1⟩ := q1.ex
 have d1 : w1.cell? ⟨wb, 1, none⟩ = some (.int .i64 now) := hv1.has.cell 1
 have lt4 := hv1.has.lt
 have hw : IntKind.i64.wrap (nw - now) = nw - now := wrap_id _ (by omega) (by omega)
 have HN2 := hide (wnum_w ⟨v1, hv1.mod (S := No) ((Mod.refl No w1).drewN 1) (fun _ _ x => x)⟩ ((unhide HO2).mod ((Mod.refl No w1).drewN 1)) (by simp only [List.length_append, List.length_singleton]; omega) (nw - now) (by omega))
 have HM := hide ((Mod.refl No w1).drewN 1)
 have BB := hide b1
 clear hv1 q1 b1 HN B1
 go_wp2_with fail
 go_region_law (refine step_call rfl 87 _ _ rfl #[.pointer (some ⟨wb, 0, none⟩), .int .i64 (nw - now)] (by simp [Act.eval, Act.put]) (fun W => by kernel_rfl) (.tuple #[]) _ (unhide HN2) ?_; intro w2 q2; have b2 := (unhide HM |>.mono (S' := fun k => (O k ∧ k ≠ w.heap.size) ∧ k ≠ w.heap.size + 1) (fun _ _ x => x.elim) |>.trans q2.mod).has (unhide BB) (fun q => q.2 rfl); have e0 : w2.cell? ⟨w.heap.size + 1, 0, none⟩ = some (.int .i64 nw) := b2.cell 0; have hlt2 := b2.lt; obtain ⟨v2, hv2⟩ := q2.ex; obtain ⟨a2, s2, rfl⟩ := slice_of_owns hv2.row; have g1 : w2.cell? ⟨wb, 1, none⟩ = some (.int .i64 now) := hv2.has.cell 1; have gf := hv2.has.frozen; have gl := hv2.has.lt; have Q2 := hide (q2.mod); have HV2 := hide hv2; clear q2 b2 hv2)
 all_goals go_wp2
 all_goals go_end0
 all_goals
  refine ⟨rfl, ?_⟩
  have hv2 := unhide HV2
  have hset : WrX (fun k => (O k ∧ k ≠ w.heap.size) ∧ k ≠ w.heap.size + 1) (w2.setCell ⟨wb, 1, none⟩ (.int .i64 nw)) wb _ (xs ++ [32 * 6 + 0] ++ numB (nw - now)) nw := ⟨hv2.has.set 1 _, owns_setCell_ne hv2.row (fun e => (hv2.own wb e).2 rfl) _, hv2.own, hv2.ge, hv2.len⟩
  have m2 := (((unhide Q1).mod.trans ((unhide HM).mono (fun _ _ x => x.elim))).trans (unhide Q2)).setCell (p := ⟨wb, 1, none⟩) (.inl hv2.ge) (.int .i64 nw)
  rw [List.append_assoc] at hset
  exact Wrote.unbox2 ⟨⟨_, hset⟩, m2⟩
end Go.Proofs.Ythhibagcpjeihaa
