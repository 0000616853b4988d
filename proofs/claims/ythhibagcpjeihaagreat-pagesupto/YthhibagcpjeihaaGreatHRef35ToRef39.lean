import Derived.Test.YthhibagcpjeihaaGreatHRef31ToRef34
import Derived.Deep.RegionHeld2
namespace Go.Proofs.YthhibagcpjeihaaGreat
open Go.RowKit
open M
set_option linter.unusedVariables false
set_option linter.unusedSimpArgs false
set_option maxRecDepth 100000
set_option maxHeartbeats 8000000
theorem ReN.start {w wr : World} {nb g cap cp : Nat} {p Q : Pla} {num ep : Int} {l : List Sea} {a : Option Addr} (h : StI w wr nb g cap Q num ep l (.slice a (nHome Q l l.length) cp) l.length) (hwf : Wf p l) (h1 : Q.sized = true) (h2 : Q.limited = true) (hn : ¬ Q.rows * Q.cols < (nFull l : Int)) :
  ReN w wr nb g cap Q num ep (stay Q l) (homeless Q l) (.slice a (homeless Q l).length cp) 0 := by
 obtain ⟨k1, k2, k3⟩ := h
 unfold nHome at k2 k3
 rw [List.take_length] at k1 k2 k3
 exact ⟨k1, reseat_start hwf h1 h2 hn, k2, k3⟩
theorem swapped_ok {w : World} {gf fo g0 cap0 : Nat} {p Q : Pla} {l : List Sea} {num ep : Int} (a0 a1 a2 a3 : Int) (h : FlW w gf fo g0 cap0 p Q num ep l) (h1 : Q.sized = true) (h2 : Q.limited = true) (hn : ¬ Q.rows * Q.cols < (nFull l : Int)) :
  Calls Tryz.prog 54 #[.pointer (some ⟨gf, fo, none⟩), .agg #[.int .i64 Q.rows, .int .i64 Q.cols, .int .i64 Q.front, .int .i64 a0, .int .i64 a1, .int .i64 a2, .int .i64 a3]] w fun e w' => e = .returned (.int .i64 0) ∧
   ∃ (wx : World) (g cap : Nat), Mod No w wx ∧ w.heap.size ≤ g ∧ RowS wx g cap (swapSeats Q l) ∧ w' = put10 wx gf fo num Q g (swapSeats Q l).length cap ep := by
 have HCG := hide fun W (hW : Mod No w W) => (show W.cell? ⟨gf, fo, none⟩ = some (.int .i64 num) ∧ W.cell? ⟨gf, fo + 1, none⟩ = some (.int .i64 p.rows) ∧ W.cell? ⟨gf, fo + 2, none⟩ = some (.int .i64 p.cols) ∧ W.cell? ⟨gf, fo + 3, none⟩ = some (.int .i64 p.front) ∧ W.cell? ⟨gf, fo + 4, none⟩ = some (.int .i64 Q.l0) ∧ W.cell? ⟨gf, fo + 5, none⟩ = some (.int .i64 Q.l1) ∧ W.cell? ⟨gf, fo + 6, none⟩ = some (.int .i64 Q.l2) ∧ W.cell? ⟨gf, fo + 7, none⟩ = some (.int .i64 Q.l3) ∧ W.cell? ⟨gf, fo + 8, none⟩ = some (.slice (some ⟨g0, 0, none⟩) l.length cap0) ∧ W.cell? ⟨gf, fo + 9, none⟩ = some (.int .i64 ep) ∧ (∀ o, W.frozen? ⟨gf, o, none⟩ = false) ∧ gf < W.heap.size from by
  have hgl := h.lt
  have k := fun j (hj : j < 10) v (hv : (nV num p g0 l.length cap0 ep)[j]? = some v) => cell_keep hW ((h.cell j hj).trans hv) (fun x => x)
  refine ⟨k 0 (by omega) _ rfl, k 1 (by omega) _ rfl, k 2 (by omega) _ rfl, k 3 (by omega) _ rfl, by rw [h.l0]; exact k 4 (by omega) _ rfl, by rw [h.l1]; exact k 5 (by omega) _ rfl, by rw [h.l2]; exact k 6 (by omega) _ rfl, by rw [h.l3]; exact k 7 (by omega) _ rfl, k 8 (by omega) _ rfl, k 9 (by omega) _ rfl, fun o => ?_, Nat.lt_of_lt_of_le hgl hW.size⟩
  have := h.froz o
  unfold World.frozen? at this ⊢
  rw [hW.block gf hgl (fun x => x)]
  exact this)
 have HSZ := hide fun W => (show Calls Tryz.prog 82 #[.agg #[.int .i64 Q.rows, .int .i64 Q.cols, .int .i64 Q.front, .int .i64 a0, .int .i64 a1, .int .i64 a2, .int .i64 a3]] W fun e w' => e = .returned (.bool Q.sized) ∧ Mod No W w' from rsized_any ⟨Q.rows, Q.cols, Q.front, a0, a1, a2, a3, 0⟩ W)
 have HFR := hide fun W (hW : Mod No w W) => free_any gf fo g0 cap0 l W (h.row.mod hW (fun x => x)) (by have := wf_len h.wf; omega) (cell_keep hW (h.cell 8 (by omega)) (fun x => x))
 have hl1 : l.length ≤ 120 := wf_len h.wf
 have hfl := nFree_le l
 have hff := nFull_free l
 have M0 := hide ((Mod.refl No w).alloc (.cells #[.int .i64 Q.rows, .int .i64 Q.cols, .int .i64 Q.front, .int .i64 a0, .int .i64 a1, .int .i64 a2, .int .i64 a3] 39))
 have B0 := hide (Has.new w #[.int .i64 Q.rows, .int .i64 Q.cols, .int .i64 Q.front, .int .i64 a0, .int .i64 a1, .int .i64 a2, .int .i64 a3] 39)
 have HFLR := hide (show FlR w gf fo g0 cap0 p l from ⟨h.row, by omega, h.ne, h.cell 8 (by omega), fun j hj => by
  rw [Nat.add_assoc, h.cell (4 + j) (by omega)]
  match j, hj with
  | 0, _ => rfl
  | 1, _ => rfl
  | 2, _ => rfl
  | 3, _ => rfl⟩)
 have HWF := hide h.wf
 have HEW := hide (empty_wf h1 h2)
 have HE := hide fun W => (show Calls Tryz.prog 84 #[.agg #[.int .i64 Q.rows, .int .i64 Q.cols, .int .i64 Q.front, .int .i64 Q.l0, .int .i64 Q.l1, .int .i64 Q.l2, .int .i64 Q.l3]] W fun e w' => ∃ v, e = .returned v ∧ ∃ g cap, v = .slice (some ⟨g, 0, none⟩) (emptySeats Q).length cap ∧ RowS w' g cap (emptySeats Q) ∧ W.heap.size < g ∧ Mod No W w' from
  (rempty_any Q h1 W).mono fun e w' ⟨g, cap, k1, k2⟩ => ⟨_, k1, g, cap, rfl, k2⟩)
 have H1 := hide h1
 have H2 := hide h2
 have HN := hide hn
 have hsb := h1
 simp only [Pla.sized, decide_eq_true_eq] at hsb
 have m0 : 0 ≤ Q.rows * Q.cols := Int.mul_nonneg (by omega) (by omega)
 have m1 : Q.rows * Q.cols ≤ 20 * 6 := Int.mul_le_mul (by omega) (by omega) (by omega) (by omega)
 have e1 : wrap64 (Q.rows * Q.cols) = Q.rows * Q.cols := by unfold wrap64; omega
 have e2 : IntKind.i64.wrap ((l.length : Int) - (nFree l : Int)) = (l.length : Int) - (nFree l : Int) := wrap_id _ (by omega) (by omega)
 have hd : decide (Q.rows * Q.cols < (l.length : Int) - (nFree l : Int)) = false := by simp; omega
 rw [h1] at HSZ
 clear h h1 h2 hn hsb hff m0 m1
 generalize nFree l = fr at *
 go_enter Tryz.func54, Tryz.ntmps54
 go_wp2_with fail
 refine ((unhide HSZ) _).mono ?_
 rintro e w2 ⟨rfl, m2⟩
 have M2 := hide ((unhide M0).trans m2)
 have B2 := hide (m2.has (unhide B0) (fun x => x))
 have b2 := (unhide B2).cell
 have PW := hide (show w.heap.size ≤ w.heap.size from Nat.le_refl _)
 clear m2 B0 M0
 generalize hpb : w.heap.size = pb at *
 have HPB := hide hpb
 clear hpb
 obtain ⟨f0, f1, f2, f3, f4, f5, f6, f7, f8, f9, fz, fl⟩ := (unhide HCG) w2 (unhide M2)
 have HFN := hide fun n => (unhide HFR) (w2.drewN n) ((unhide M2).drewN n)
 clear HFR HSZ
 go_upto_region 2 with fail
 go_cut [33] (fun s33 wx => s33 = .bool false ∧ Hid (Mod No w2 wx))
 case first =>
  go_quiet ((go_at_call 58; exact Calls.quiet_of_same ((unhide HFN) _)))
  go_wp2
  go_meet
  exact ⟨rfl, (Mod.refl No w2).drewN _⟩
 case rest =>
  obtain ⟨rfl, MC⟩ := hcut
  apply_assumption
  clear HFN f0 f1 f2 f3 f4 f5 f6 f7 f8 f9 fz fl b2 hd e1 e2
  have M3 := hide ((unhide M2).trans (unhide MC))
  have B3 := hide ((unhide MC).has (unhide B2) (fun x => x))
  have b3 := (unhide B3).cell
  have bz3 := (unhide B3).frozen
  have bl3 := (unhide B3).lt
  obtain ⟨f0, f1, f2, f3, f4, f5, f6, f7, f8, f9, fz, fl⟩ := (unhide HCG) wc (unhide M3)
  have NP := hide (show gf ≠ pb from fun e => by have := (unhide HFLR).slice; have := World.block_lt_of_cell? w _ this; have := unhide HPB; simp only at *; omega)
  have np := unhide NP
  clear M2 B2 MC
  go_upto_region 5 with fail
  have B4 := hide (show Has ((((wc.setCell ⟨pb, 3, none⟩ (.int .i64 Q.l0)).setCell ⟨pb, 4, none⟩ (.int .i64 Q.l1)).setCell ⟨pb, 5, none⟩ (.int .i64 Q.l2)).setCell ⟨pb, 6, none⟩ (.int .i64 Q.l3)) pb #[.int .i64 Q.rows, .int .i64 Q.cols, .int .i64 Q.front, .int .i64 Q.l0, .int .i64 Q.l1, .int .i64 Q.l2, .int .i64 Q.l3] 39 from ((((unhide B3).set 3 _).set 4 _).set 5 _).set 6 _)
  have M4 := hide (show Mod No w ((((wc.setCell ⟨pb, 3, none⟩ (.int .i64 Q.l0)).setCell ⟨pb, 4, none⟩ (.int .i64 Q.l1)).setCell ⟨pb, 5, none⟩ (.int .i64 Q.l2)).setCell ⟨pb, 6, none⟩ (.int .i64 Q.l3)) from ((((unhide M3).setCell (p := ⟨pb, 3, none⟩) (.inr (by have := unhide HPB; simp only; omega)) _).setCell (p := ⟨pb, 4, none⟩) (.inr (by have := unhide HPB; simp only; omega)) _).setCell (p := ⟨pb, 5, none⟩) (.inr (by have := unhide HPB; simp only; omega)) _).setCell (p := ⟨pb, 6, none⟩) (.inr (by have := unhide HPB; simp only; omega)) _)
  clear b3 bz3 bl3 f0 f1 f2 f3 f4 f5 f6 f7 f8 f9 fz fl B3 M3 np
  generalize ((((wc.setCell ⟨pb, 3, none⟩ (.int .i64 Q.l0)).setCell ⟨pb, 4, none⟩ (.int .i64 Q.l1)).setCell ⟨pb, 5, none⟩ (.int .i64 Q.l2)).setCell ⟨pb, 6, none⟩ (.int .i64 Q.l3)) = w4 at *
  have b4 := (unhide B4).cell
  have lb4 := (unhide B4).lt
  obtain ⟨f0, _, _, _, _, _, _, _, _, f9, _, fl⟩ := (unhide HCG) w4 (unhide M4)
  go_cut [6] (fun s6 wx => ∃ nb g cap, s6 = .pointer (some ⟨nb, 0, none⟩) ∧ Hid (NewF w wx nb g cap Q num ep (emptySeats Q)))
  case first =>
   have B4d := hide (unhide B4).drew
   have M4d := hide (unhide M4).drew
   have mz : Mod No w4 ((w4.alloc (.cells #[.int .i64 0, .int .i64 0, .int .i64 0, .int .i64 0, .int .i64 0, .int .i64 0, .int .i64 0, .int .i64 0, .slice none 0 0, .int .i64 0] 134)).drew) := ((Mod.refl _ w4).alloc _).drew
   have B4z := hide (mz.has (unhide B4) (fun x => x))
   have M4z := hide ((unhide M4).trans mz)
   have Z4z := hide (Has.new w4 #[.int .i64 0, .int .i64 0, .int .i64 0, .int .i64 0, .int .i64 0, .int .i64 0, .int .i64 0, .int .i64 0, .slice none 0 0, .int .i64 0] 134).drew
   clear mz
   have gz1 : gf ≠ w4.heap.size := by omega
   have gz2 : w4.heap.size ≠ gf := by omega
   have pz1 : pb ≠ w4.heap.size := by omega
   have pz2 : w4.heap.size ≠ pb := by omega
   go_region_held2 (fun w' => w'.cell? ⟨gf, fo, none⟩ = some (.int .i64 num) ∧ w'.cell? ⟨gf, fo + 9, none⟩ = some (.int .i64 ep) ∧ w'.cell? ⟨pb, 0, none⟩ = some (.int .i64 Q.rows) ∧ w'.cell? ⟨pb, 1, none⟩ = some (.int .i64 Q.cols) ∧ w'.cell? ⟨pb, 2, none⟩ = some (.int .i64 Q.front) ∧ w'.cell? ⟨pb, 3, none⟩ = some (.int .i64 Q.l0) ∧ w'.cell? ⟨pb, 4, none⟩ = some (.int .i64 Q.l1) ∧ w'.cell? ⟨pb, 5, none⟩ = some (.int .i64 Q.l2) ∧ w'.cell? ⟨pb, 6, none⟩ = some (.int .i64 Q.l3)) (first | with_reducible assumption | go_keep) (first
    |(refine step_call2 rfl 84 _ _ rfl #[.agg #[.int .i64 Q.rows, .int .i64 Q.cols, .int .i64 Q.front, .int .i64 Q.l0, .int .i64 Q.l1, .int .i64 Q.l2, .int .i64 Q.l3]] (by simp [Act.eval, Act.put]) (fun W => by kernel_rfl) _ ((unhide HE) _) ?_; rintro v5 w5 ⟨g5, cap5, rfl, h5, z5, m5⟩; have s5 : w5.cell? ⟨gf, fo, none⟩ = some (.int .i64 num) ∧ w5.cell? ⟨gf, fo + 9, none⟩ = some (.int .i64 ep) ∧ w5.cell? ⟨pb, 0, none⟩ = some (.int .i64 Q.rows) ∧ w5.cell? ⟨pb, 1, none⟩ = some (.int .i64 Q.cols) ∧ w5.cell? ⟨pb, 2, none⟩ = some (.int .i64 Q.front) ∧ w5.cell? ⟨pb, 3, none⟩ = some (.int .i64 Q.l0) ∧ w5.cell? ⟨pb, 4, none⟩ = some (.int .i64 Q.l1) ∧ w5.cell? ⟨pb, 5, none⟩ = some (.int .i64 Q.l2) ∧ w5.cell? ⟨pb, 6, none⟩ = some (.int .i64 Q.l3) := (by have hb := (m5.has (unhide B4d) (fun x => x)).cell; obtain ⟨k0, _, _, _, _, _, _, _, _, k9, _, _⟩ := (unhide HCG) w5 ((unhide M4d).trans m5); exact ⟨k0, k9, hb 0, hb 1, hb 2, hb 3, hb 4, hb 5, hb 6⟩); obtain ⟨s50, s59, s5a, s5b, s5c, s5d, s5e, s5f, s5g⟩ := id s5)
    |(refine step_call2 rfl 84 _ _ rfl #[.agg #[.int .i64 Q.rows, .int .i64 Q.cols, .int .i64 Q.front, .int .i64 Q.l0, .int .i64 Q.l1, .int .i64 Q.l2, .int .i64 Q.l3]] (by simp [Act.eval, Act.put]) (fun W => by kernel_rfl) _ ((unhide HE) _) ?_; rintro v5 w5 ⟨g5, cap5, rfl, h5, z5, m5⟩; have s5 : w5.cell? ⟨gf, fo, none⟩ = some (.int .i64 num) ∧ w5.cell? ⟨gf, fo + 9, none⟩ = some (.int .i64 ep) ∧ w5.cell? ⟨pb, 0, none⟩ = some (.int .i64 Q.rows) ∧ w5.cell? ⟨pb, 1, none⟩ = some (.int .i64 Q.cols) ∧ w5.cell? ⟨pb, 2, none⟩ = some (.int .i64 Q.front) ∧ w5.cell? ⟨pb, 3, none⟩ = some (.int .i64 Q.l0) ∧ w5.cell? ⟨pb, 4, none⟩ = some (.int .i64 Q.l1) ∧ w5.cell? ⟨pb, 5, none⟩ = some (.int .i64 Q.l2) ∧ w5.cell? ⟨pb, 6, none⟩ = some (.int .i64 Q.l3) := (by have hb := (m5.has (unhide B4z) (fun x => x)).cell; obtain ⟨k0, _, _, _, _, _, _, _, _, k9, _, _⟩ := (unhide HCG) w5 ((unhide M4z).trans m5); exact ⟨k0, k9, hb 0, hb 1, hb 2, hb 3, hb 4, hb 5, hb 6⟩); obtain ⟨s50, s59, s5a, s5b, s5c, s5d, s5e, s5f, s5g⟩ := id s5; have zb5 := (m5.has (unhide Z4z) (fun x => x)).cell; have zf5 := (m5.has (unhide Z4z) (fun x => x)).frozen; have zl5 := (m5.has (unhide Z4z) (fun x => x)).lt))
   all_goals go_wp2
   all_goals go_meet
   all_goals first
    | with_reducible exact ⟨_, g5, cap5, rfl, hide (NewF.made (unhide M4d) m5 h5 z5 (unhide HEW))⟩
    | with_reducible exact ⟨_, g5, cap5, rfl, hide (NewF.made2 (unhide M4z) m5 (unhide Z4z) (unhide M4).size h5 z5 (unhide HEW))⟩
  case rest =>
   obtain ⟨nb, g, cap, rfl, NF⟩ := hcut
   clear b4 lb4 f0 f9 fl B4 M4 HE
   apply_assumption
   go_upto_block 0 with fail
   refine wp_block ?_
   refine stay_walk (unhide HFLR) (unhide HWF) (unhide H1) (unhide H2) _ (hide (StI.start l (unhide NF))) _ _ _ _ _ _ _ _ _ _ _ _ _ _ _ _ _ _ _ _ _ _ _ _ _ _ _ _ _ _ _ _ _ _ _ _ _ _ _ _ _ _ _ _ _ _ _ _ _ _ _ _ _ _ _ _ _ _ _ _ _ _ _ _ _ _ _ _ _ _ _ _ _ _ _ _ _ _ _ _ _ _ _ _ _ _ _ _ _ _ _ _ _ _ _ _ _ _ _ _ _ _ _ _ _ _ _ _ _ _ _ _ _ _ _ _ _ _ _ ?_
   intro x8 x9 x10 x52 x53 x54 x55 x56 x57 x58 x59 x60 x61 x62 x63 x64 x65 x66 x67 x68 x69 x70 x71 x72 x73 x74 x75 x76 x77 x78 x79 x80 x81 x82 x83 x84 a cp wx IX
   have RX := hide (ReN.start (unhide IX) (unhide HWF) (unhide H1) (unhide H2) (by have := unhide HN; omega))
   have HOK := homeless_ok (q := Q) (unhide HWF)
   have HL := Nat.le_trans (nHome_le Q l l.length) hl1
   have hnh : nHome Q l l.length = (homeless Q l).length := by unfold nHome; rw [List.take_length]
   rw [hnh] at HL ⊢
   have HOK := hide HOK
   clear NF IX hnh
   obtain ⟨hs, hhs⟩ : ∃ hs, homeless Q l = hs := ⟨_, rfl⟩
   rw [hhs] at HL RX HOK ⊢
   have HHS := hide hhs
   clear hhs
   go_upto_block 2 with fail
   refine wp_block ?_
   refine reseat_walk2 (unhide HOK) HL _ RX _ _ _ _ _ _ _ _ _ _ _ _ _ _ _ _ _ _ _ _ _ _ _ _ _ _ _ _ _ _ _ _ _ _ _ _ _ _ _ _ _ _ _ _ _ _ _ _ _ _ _ _ _ _ _ _ _ _ _ _ _ _ _ _ _ _ _ _ _ _ _ _ _ _ _ _ _ _ _ _ _ _ _ _ _ _ _ _ _ _ _ _ _ _ _ _ _ _ _ _ _ _ _ _ _ _ _ _ _ _ _ _ _ _ _ _ _ _ _ _ ?_
   intro x11 x12 x13 x85 x86 x87 x88 x89 x90 x91 x92 x93 x94 x95 x96 x97 x98 x99 x100 x101 x102 x103 x104 x105 x106 x107 x108 x109 x110 x111 x112 x113 x114 x115 x116 x117 x118 x119 wy RY
   have hall : accN (stay Q l) hs hs.length = swapSeats Q l := by
    unfold accN swapSeats
    rw [List.take_length, unhide HHS]
   have NY := (unhide RY).fli
   rw [hall] at NY
   obtain ⟨f0, f1, f2, f3, f4, f5, f6, f7, f8, f9, fz, fl⟩ := (unhide HCG) wy NY.mod
   have y0 : wy.cell? ⟨nb, 0, none⟩ = some (.int .i64 num) := NY.has.cell 0
   have y1 : wy.cell? ⟨nb, 1, none⟩ = some (.int .i64 Q.rows) := NY.has.cell 1
   have y2 : wy.cell? ⟨nb, 2, none⟩ = some (.int .i64 Q.cols) := NY.has.cell 2
   have y3 : wy.cell? ⟨nb, 3, none⟩ = some (.int .i64 Q.front) := NY.has.cell 3
   have y4 : wy.cell? ⟨nb, 4, none⟩ = some (.int .i64 Q.l0) := NY.has.cell 4
   have y5 : wy.cell? ⟨nb, 5, none⟩ = some (.int .i64 Q.l1) := NY.has.cell 5
   have y6 : wy.cell? ⟨nb, 6, none⟩ = some (.int .i64 Q.l2) := NY.has.cell 6
   have y7 : wy.cell? ⟨nb, 7, none⟩ = some (.int .i64 Q.l3) := NY.has.cell 7
   have y8 : wy.cell? ⟨nb, 8, none⟩ = some (.slice (some ⟨g, 0, none⟩) (swapSeats Q l).length cap) := NY.has.cell 8
   have y9 : wy.cell? ⟨nb, 9, none⟩ = some (.int .i64 ep) := NY.has.cell 9
   have NY := hide NY
   clear hall RX RY HOK HL HCG HFLR HWF HEW H1 H2 HN HHS
   have FIN := hide (show ∃ (wx : World) (g' cap' : Nat), Mod No w wx ∧ w.heap.size ≤ g' ∧ RowS wx g' cap' (swapSeats Q l) ∧ put10 wy gf fo num Q g (swapSeats Q l).length cap ep = put10 wx gf fo num Q g' (swapSeats Q l).length cap' ep from ⟨wy, g, cap, (unhide NY).mod, (unhide NY).new.2, (unhide NY).row, rfl⟩)
   have HPB2 := HPB
   obtain ⟨L, hL⟩ : ∃ L, (swapSeats Q l).length = L := ⟨_, rfl⟩
   rw [hL] at y8 FIN
   have HLL := hide hL
   clear hL
   have EP := hide (show put10 wy gf fo num Q g L cap ep = ((((((((((wy.setCell ⟨gf, fo, none⟩ (.int .i64 num)).setCell ⟨gf, fo + 1, none⟩ (.int .i64 Q.rows)).setCell ⟨gf, fo + 2, none⟩ (.int .i64 Q.cols)).setCell ⟨gf, fo + 3, none⟩ (.int .i64 Q.front)).setCell ⟨gf, fo + 4, none⟩ (.int .i64 Q.l0)).setCell ⟨gf, fo + 5, none⟩ (.int .i64 Q.l1)).setCell ⟨gf, fo + 6, none⟩ (.int .i64 Q.l2)).setCell ⟨gf, fo + 7, none⟩ (.int .i64 Q.l3)).setCell ⟨gf, fo + 8, none⟩ (.slice (some ⟨g, 0, none⟩) L cap)).setCell ⟨gf, fo + 9, none⟩ (.int .i64 ep)) from rfl)
   rw [unhide EP] at FIN
   clear EP NY
   go_wp2_with fail
   go_ret
   have HE0 := unhide FIN
   rw [unhide HLL]
   exact ⟨rfl, by with_reducible exact HE0⟩
theorem RowF.put {w : World} {gf c : Nat} {xs : List FR} {i : Nat} {x0 : FR} (h : RowF w gf c (xs.set i x0)) (hi : i < xs.length) (j : Nat) (hj : j < 10) (v : Value) (x : FR) (hx : friV x = (friV x0).setIfInBounds j v) :
  RowF (w.setCell ⟨gf, i * 10 + j, none⟩ v) gf c (xs.set i x) := by
 have := h.set i (by simpa using hi) j hj v x (by simpa using hx)
 rwa [List.set_set] at this
theorem RowF.put10 {w : World} {gf c : Nat} {xs : List FR} (h : RowF w gf c xs) (i : Nat) (hi : i < xs.length) (num : Int) (Q : Pla) (g cap : Nat) (ls : List Sea) (ep : Int) :
  RowF (put10 w gf (i * 10) num Q g ls.length cap ep) gf c (xs.set i ⟨⟨num, Q, ls, ep⟩, g, cap⟩) := by
 have h0 : RowF w gf c (xs.set i xs[i]) := by rw [List.set_getElem_self]; exact h
 generalize xs[i] = x0 at h0
 have e0 := h0.put hi 0 (by omega) (.int .i64 num) ⟨⟨num, ⟨x0.f.pla.rows, x0.f.pla.cols, x0.f.pla.front, x0.f.pla.l0, x0.f.pla.l1, x0.f.pla.l2, x0.f.pla.l3, x0.f.pla.ep⟩, x0.f.seats, x0.f.ep⟩, x0.g, x0.cap⟩ rfl
 have e1 := e0.put hi 1 (by omega) (.int .i64 Q.rows) ⟨⟨num, ⟨Q.rows, x0.f.pla.cols, x0.f.pla.front, x0.f.pla.l0, x0.f.pla.l1, x0.f.pla.l2, x0.f.pla.l3, x0.f.pla.ep⟩, x0.f.seats, x0.f.ep⟩, x0.g, x0.cap⟩ rfl
 have e2 := e1.put hi 2 (by omega) (.int .i64 Q.cols) ⟨⟨num, ⟨Q.rows, Q.cols, x0.f.pla.front, x0.f.pla.l0, x0.f.pla.l1, x0.f.pla.l2, x0.f.pla.l3, x0.f.pla.ep⟩, x0.f.seats, x0.f.ep⟩, x0.g, x0.cap⟩ rfl
 have e3 := e2.put hi 3 (by omega) (.int .i64 Q.front) ⟨⟨num, ⟨Q.rows, Q.cols, Q.front, x0.f.pla.l0, x0.f.pla.l1, x0.f.pla.l2, x0.f.pla.l3, x0.f.pla.ep⟩, x0.f.seats, x0.f.ep⟩, x0.g, x0.cap⟩ rfl
 have e4 := e3.put hi 4 (by omega) (.int .i64 Q.l0) ⟨⟨num, ⟨Q.rows, Q.cols, Q.front, Q.l0, x0.f.pla.l1, x0.f.pla.l2, x0.f.pla.l3, x0.f.pla.ep⟩, x0.f.seats, x0.f.ep⟩, x0.g, x0.cap⟩ rfl
 have e5 := e4.put hi 5 (by omega) (.int .i64 Q.l1) ⟨⟨num, ⟨Q.rows, Q.cols, Q.front, Q.l0, Q.l1, x0.f.pla.l2, x0.f.pla.l3, x0.f.pla.ep⟩, x0.f.seats, x0.f.ep⟩, x0.g, x0.cap⟩ rfl
 have e6 := e5.put hi 6 (by omega) (.int .i64 Q.l2) ⟨⟨num, ⟨Q.rows, Q.cols, Q.front, Q.l0, Q.l1, Q.l2, x0.f.pla.l3, x0.f.pla.ep⟩, x0.f.seats, x0.f.ep⟩, x0.g, x0.cap⟩ rfl
 have e7 := e6.put hi 7 (by omega) (.int .i64 Q.l3) ⟨⟨num, ⟨Q.rows, Q.cols, Q.front, Q.l0, Q.l1, Q.l2, Q.l3, x0.f.pla.ep⟩, x0.f.seats, x0.f.ep⟩, x0.g, x0.cap⟩ rfl
 have e8 := e7.put hi 8 (by omega) (.slice (some ⟨g, 0, none⟩) ls.length cap) ⟨⟨num, ⟨Q.rows, Q.cols, Q.front, Q.l0, Q.l1, Q.l2, Q.l3, Q.ep⟩, ls, x0.f.ep⟩, g, cap⟩ rfl
 have e9 := e8.put hi 9 (by omega) (.int .i64 ep) ⟨⟨num, ⟨Q.rows, Q.cols, Q.front, Q.l0, Q.l1, Q.l2, Q.l3, Q.ep⟩, ls, ep⟩, g, cap⟩ rfl
 exact e9
theorem Mod.put10 {S : Nat → Prop} {a w : World} (h : Mod S a w) {gf : Nat} (hg : S gf) (fo : Nat) (num : Int) (Q : Pla) (g E cap : Nat) (ep : Int) : Mod S a (Go.Proofs.YthhibagcpjeihaaGreat.put10 w gf fo num Q g E cap ep) := by
 unfold Go.Proofs.YthhibagcpjeihaaGreat.put10
 exact (((((((((h.setCell (p := ⟨gf, fo, none⟩) (.inl hg) _).setCell (p := ⟨gf, fo + 1, none⟩) (.inl hg) _).setCell (p := ⟨gf, fo + 2, none⟩) (.inl hg) _).setCell (p := ⟨gf, fo + 3, none⟩) (.inl hg) _).setCell (p := ⟨gf, fo + 4, none⟩) (.inl hg) _).setCell (p := ⟨gf, fo + 5, none⟩) (.inl hg) _).setCell (p := ⟨gf, fo + 6, none⟩) (.inl hg) _).setCell (p := ⟨gf, fo + 7, none⟩) (.inl hg) _).setCell (p := ⟨gf, fo + 8, none⟩) (.inl hg) _).setCell (p := ⟨gf, fo + 9, none⟩) (.inl hg) _
theorem WorR.swapped {w wx : World} {ow : Nat → Nat} {wb gf c : Nat} {xs : List FR} {now : Int} (h : WorR w ow wb (Value.slice (Option.some ⟨gf, 0, none⟩) xs.length c) xs now) (i : Nat) (hi : i < xs.length) (num : Int) (Q : Pla) (g cap : Nat) (ls : List Sea) (ep : Int)
  (hm : Mod No w wx) (hg : w.heap.size ≤ g) (hr : RowS wx g cap ls) (hwf : Wf Q ls) :
  ∃ ow', WorR (put10 wx gf (i * 10) num Q g ls.length cap ep) ow' wb (Value.slice (Option.some ⟨gf, 0, none⟩) xs.length c) (xs.set i ⟨⟨num, Q, ls, ep⟩, g, cap⟩) now ∧ (∀ k, ow' k ≠ 0 → ow k ≠ 0 ∨ w.heap.size ≤ k) ∧ Mod (fun k => ow k ≠ 0) w (put10 wx gf (i * 10) num Q g ls.length cap ep) := by
 obtain ⟨og, rf⟩ := h.parts rfl (by omega)
 have hglt := hr.lt
 have gfl : gf < w.heap.size := h.old gf (by rw [og]; omega)
 have wbl : wb < w.heap.size := h.old wb (by rw [h.mine]; omega)
 have hM : Mod (fun k => k = gf) w (put10 wx gf (i * 10) num Q g ls.length cap ep) := (hm.mono (S' := fun k => k = gf) (fun _ _ x => x.elim)).put10 (gf := gf) rfl _ _ _ _ _ _ _
 have hM2 : Mod (fun k => k = gf) wx (put10 wx gf (i * 10) num Q g ls.length cap ep) := (Mod.refl (fun k => k = gf) wx).put10 (gf := gf) rfl _ _ _ _ _ _ _
 have hwb : wb ≠ gf := fun e => by have := h.mine; rw [e, og] at this; omega
 refine ⟨fun k => if k = g then i + 3 else if k = xs[i].g then 0 else ow k, ⟨hM.has h.has hwb, .inr ⟨gf, c, by rw [List.length_set], ?_, ?_⟩, ?_, fun k hk => ?_, fun j hj => ?_, by simpa using h.few⟩, fun k hk => ?_, hM.mono (fun k _ e => by rw [e, og]; omega)⟩
 ·exact (rf.mod hm (fun x => x)).put10 i hi num Q g cap ls ep
 ·have hgg : gf ≠ g := by omega
  have : gf ≠ xs[i].g := fun e => by have := (h.seats i hi).2.1; rw [← e, og] at this; omega
  simp only [if_neg hgg, if_neg this]
  exact og
 ·have hgg : wb ≠ g := by omega
  have : wb ≠ xs[i].g := fun e => by have := (h.seats i hi).2.1; rw [← e, h.mine] at this; omega
  simp only [if_neg hgg, if_neg this]
  exact h.mine
 ·by_cases e : k = g
  ·subst e; exact Nat.lt_of_lt_of_le hglt hM2.size
  ·simp only [if_neg e] at hk
   by_cases e2 : k = xs[i].g
   ·simp [e2] at hk
   ·simp only [if_neg e2] at hk
    exact Nat.lt_of_lt_of_le (h.old k hk) hM.size
 ·have hj2 : j < xs.length := by simpa using hj
  by_cases e : i = j
  ·subst e
   simp only [List.getElem_set_self]
   exact ⟨hr.mod hM2 (by omega), by simp, hwf⟩
  ·simp only [List.getElem_set_ne e]
   obtain ⟨s1, s2, s3⟩ := h.seats j hj2
   have l1 := s1.lt
   have n1 : xs[j].g ≠ g := by omega
   have n2 : xs[j].g ≠ xs[i].g := fun e3 => by have := (h.seats i hi).2.1; rw [← e3, s2] at this; omega
   refine ⟨s1.mod hM (fun e3 => by rw [e3, og] at s2; omega), ?_, s3⟩
   rw [if_neg n1, if_neg n2]
   exact s2
 ·by_cases e : k = g
  ·exact .inr (by omega)
  ·simp only [if_neg e] at hk
   by_cases e2 : k = xs[i].g
   ·simp [e2] at hk
   ·simp only [if_neg e2] at hk
    exact .inl hk
theorem flW_of {w : World} {ow : Nat → Nat} {wb gf c : Nat} {xs : List FR} {now : Int} (h : WorR w ow wb (Value.slice (Option.some ⟨gf, 0, none⟩) xs.length c) xs now) (i : Nat) (hi : i < xs.length) (pl : Pla) :
  FlW w gf (i * 10) xs[i].g xs[i].cap xs[i].f.pla (swapPla xs[i].f.pla pl) xs[i].f.num xs[i].f.ep xs[i].f.seats := by
 obtain ⟨og, rf⟩ := h.parts rfl (by omega)
 obtain ⟨s1, s2, s3⟩ := h.seats i hi
 obtain ⟨cur, q1, _⟩ := rf.cur
 exact ⟨s1, s3, fun e => by rw [← e, og] at s2; omega, fun j hj => rf.cell i hi j hj, q1.frozen, q1.lt, rfl, rfl, rfl, rfl⟩
theorem swapped_row {w : World} {ow : Nat → Nat} {wb gf c : Nat} {xs : List FR} {now : Int} (h : WorR w ow wb (Value.slice (Option.some ⟨gf, 0, none⟩) xs.length c) xs now) (i : Nat) (hi : i < xs.length) (pl : Pla)
  (hg : pl.sized = true ∧ ¬ pl.rows * pl.cols < (nFull xs[i].f.seats : Int)) :
  Calls Tryz.prog 54 #[.pointer (some ⟨gf, i * 10, none⟩), .agg #[.int .i64 pl.rows, .int .i64 pl.cols, .int .i64 pl.front, .int .i64 pl.l0, .int .i64 pl.l1, .int .i64 pl.l2, .int .i64 pl.l3]] w fun e w' => e = .returned (.int .i64 0) ∧
   ∃ ow' g cap, WorR w' ow' wb (Value.slice (Option.some ⟨gf, 0, none⟩) xs.length c) (xs.set i ⟨⟨xs[i].f.num, swapPla xs[i].f.pla pl, swapSeats (swapPla xs[i].f.pla pl) xs[i].f.seats, xs[i].f.ep⟩, g, cap⟩) now ∧ (∀ k, ow' k ≠ 0 → ow k ≠ 0 ∨ w.heap.size ≤ k) ∧ Mod (fun k => ow k ≠ 0) w w' := by
 have hF := flW_of h i hi pl
 have hlim : (swapPla xs[i].f.pla pl).limited = true := hF.wf.limited
 refine (swapped_ok pl.l0 pl.l1 pl.l2 pl.l3 hF hg.1 hlim hg.2).mono ?_
 rintro e w' ⟨rfl, wx, g, cap, hm, hgl, hr, rfl⟩
 obtain ⟨ow', k1, k2, k3⟩ := h.swapped i hi xs[i].f.num (swapPla xs[i].f.pla pl) g cap (swapSeats (swapPla xs[i].f.pla pl) xs[i].f.seats) xs[i].f.ep hm hgl hr (swap_wf hF.wf hg.1 hlim hg.2)
 exact ⟨rfl, ow', g, cap, k1, k2, k3⟩
theorem swapped_not {w : World} {ow : Nat → Nat} {wb gf c : Nat} {xs : List FR} {now : Int} (h : WorR w ow wb (Value.slice (Option.some ⟨gf, 0, none⟩) xs.length c) xs now) (i : Nat) (hi : i < xs.length) (pl : Pla)
  (hg : ¬ (pl.sized = true ∧ ¬ pl.rows * pl.cols < (nFull xs[i].f.seats : Int))) :
  Calls Tryz.prog 54 #[.pointer (some ⟨gf, i * 10, none⟩), .agg #[.int .i64 pl.rows, .int .i64 pl.cols, .int .i64 pl.front, .int .i64 pl.l0, .int .i64 pl.l1, .int .i64 pl.l2, .int .i64 pl.l3]] w fun e w' => e = .returned (.int .i64 4) ∧ Mod No w w' :=
 swapped_bad (Q := swapPla xs[i].f.pla pl) pl.l0 pl.l1 pl.l2 pl.l3 (flW_of h i hi pl) hg
def swapX (pl : Pla) (x : FR) (g cap : Nat) : FR := ⟨⟨x.f.num, swapPla x.f.pla pl, swapSeats (swapPla x.f.pla pl) x.f.seats, IntKind.i64.wrap (x.f.ep + 1)⟩, g, cap⟩
theorem wdo_swap_no {w : World} {ow : Nat → Nat} {wb gf cap : Nat} {xs : List FR} {now : Int} (h : WorR w ow wb (Value.slice (Option.some ⟨gf, 0, none⟩) xs.length cap) xs now) (flight ar ac tr tc party cls time : Int) (pl : Pla) (hf : 1 ≤ flight ∧ flight ≤ 20) (i : Nat) (hi : i < xs.length) (hfi : findN xs flight = i)
  (hg : ¬ (pl.sized = true ∧ ¬ pl.rows * pl.cols < (nFull xs[i].f.seats : Int))) :
  Calls Tryz.prog 27 #[.pointer (some ⟨wb, 0, none⟩), .agg #[.int .i64 9, .int .i64 flight, .int .i64 ar, .int .i64 ac, .int .i64 tr, .int .i64 tc, .int .i64 party, .int .i64 cls, .int .i64 time, .int .i64 pl.rows, .int .i64 pl.cols, .int .i64 pl.front, .int .i64 pl.l0, .int .i64 pl.l1, .int .i64 pl.l2, .int .i64 pl.l3]] w fun e w' => e = .returned (.int .i64 4) ∧ Mod No w w' := by
 have HF := hide fun W (hW : Mod No w W) => (show Calls Tryz.prog 52 #[.pointer (some ⟨wb, 0, none⟩), .int .i64 flight] W fun e w' => e = .returned (.int .i64 (i : Nat)) ∧ w' = W from by
  have := (h.mod hW (fun _ _ x => x)).find flight
  rw [hfi] at this
  exact this)
 have HS := hide fun W (hW : Mod No w W) => swapped_not (h.mod hW (fun _ _ x => x)) i hi pl hg
 have V0 := hide fun W (hW : Mod No w W) => (show W.cell? ⟨wb, 0, none⟩ = some (Value.slice (Option.some ⟨gf, 0, none⟩) xs.length cap) from cell_keep hW (h.has.cell 0) (fun x => x))
 have M0 := hide ((Mod.refl No w).alloc (.cells #[.int .i64 9, .int .i64 flight, .int .i64 ar, .int .i64 ac, .int .i64 tr, .int .i64 tc, .int .i64 party, .int .i64 cls, .int .i64 time, .int .i64 pl.rows, .int .i64 pl.cols, .int .i64 pl.front, .int .i64 pl.l0, .int .i64 pl.l1, .int .i64 pl.l2, .int .i64 pl.l3] 41))
 have B0 := hide (Has.new w #[.int .i64 9, .int .i64 flight, .int .i64 ar, .int .i64 ac, .int .i64 tr, .int .i64 tc, .int .i64 party, .int .i64 cls, .int .i64 time, .int .i64 pl.rows, .int .i64 pl.cols, .int .i64 pl.front, .int .i64 pl.l0, .int .i64 pl.l1, .int .i64 pl.l2, .int .i64 pl.l3] 41)
 have f1 : ¬ flight < 1 := by omega
 have f2 : ¬ flight > 20 := by omega
 have i0 : ¬ (i : Int) < 0 := by omega
 have i1 : (i : Int) < (xs.length : Int) := by omega
 have i2 : (0 : Int) ≤ i := by omega
 clear h hfi hf hg
 go_enter Tryz.func27, Tryz.ntmps27
 go_wp2_with fail
 refine ((unhide HF) _ (unhide M0)).mono ?_
 rintro e w1 ⟨rfl, rfl⟩
 have v0 := (unhide V0) _ (unhide M0)
 have hb := (unhide B0).cell
 have lb := (unhide B0).lt
 go_wp2_with fail
 refine ((unhide HS) _ (unhide M0)).mono ?_
 rintro e w2 ⟨rfl, m2⟩
 go_wp2
 go_ret
 exact ⟨rfl, (unhide M0).trans m2⟩
theorem wdo_swap {w : World} {ow : Nat → Nat} {wb gf cap : Nat} {xs : List FR} {now : Int} (h : WorR w ow wb (Value.slice (Option.some ⟨gf, 0, none⟩) xs.length cap) xs now) (flight ar ac tr tc party cls time : Int) (pl : Pla) (hf : 1 ≤ flight ∧ flight ≤ 20) (i : Nat) (hi : i < xs.length) (hfi : findN xs flight = i)
  (hg : pl.sized = true ∧ ¬ pl.rows * pl.cols < (nFull xs[i].f.seats : Int)) :
  Calls Tryz.prog 27 #[.pointer (some ⟨wb, 0, none⟩), .agg #[.int .i64 9, .int .i64 flight, .int .i64 ar, .int .i64 ac, .int .i64 tr, .int .i64 tc, .int .i64 party, .int .i64 cls, .int .i64 time, .int .i64 pl.rows, .int .i64 pl.cols, .int .i64 pl.front, .int .i64 pl.l0, .int .i64 pl.l1, .int .i64 pl.l2, .int .i64 pl.l3]] w fun e w' => e = .returned (.int .i64 0) ∧ ∃ ow' g c2, WorR w' ow' wb (Value.slice (Option.some ⟨gf, 0, none⟩) xs.length cap) (xs.set i (swapX pl xs[i] g c2)) now ∧ (∀ k, ow' k ≠ 0 → ow k ≠ 0 ∨ w.heap.size ≤ k) ∧ Mod (fun k => ow k ≠ 0) w w' := by
 have HF := hide fun W (hW : Mod No w W) => (show Calls Tryz.prog 52 #[.pointer (some ⟨wb, 0, none⟩), .int .i64 flight] W fun e w' => e = .returned (.int .i64 (i : Nat)) ∧ w' = W from by
  have := (h.mod hW (fun _ _ x => x)).find flight
  rw [hfi] at this
  exact this)
 obtain ⟨og, rf⟩ := h.parts rfl (by omega)
 have HS := hide fun W (hW : Mod No w W) => (show Calls Tryz.prog 54 #[.pointer (some ⟨gf, i * 10, none⟩), .agg #[.int .i64 pl.rows, .int .i64 pl.cols, .int .i64 pl.front, .int .i64 pl.l0, .int .i64 pl.l1, .int .i64 pl.l2, .int .i64 pl.l3]] W fun e w' => e = .returned (.int .i64 0) ∧
   w'.cell? ⟨gf, i * 10 + 9, none⟩ = some (.int .i64 xs[i].f.ep) ∧ (∀ o, w'.frozen? ⟨gf, o, none⟩ = false) ∧ gf < w'.heap.size ∧ ∃ ow' g c2, WorR (w'.setCell ⟨gf, i * 10 + 9, none⟩ (.int .i64 (IntKind.i64.wrap (xs[i].f.ep + 1)))) ow' wb (Value.slice (Option.some ⟨gf, 0, none⟩) xs.length cap) (xs.set i (swapX pl xs[i] g c2)) now ∧ (∀ k, ow' k ≠ 0 → ow k ≠ 0 ∨ w.heap.size ≤ k) ∧ Mod (fun k => ow k ≠ 0) w (w'.setCell ⟨gf, i * 10 + 9, none⟩ (.int .i64 (IntKind.i64.wrap (xs[i].f.ep + 1)))) from by
  refine (swapped_row (h.mod hW (fun _ _ x => x)) i hi pl hg).mono ?_
  rintro e w' ⟨rfl, ow', g, c2, k1, k2, k3⟩
  have hl : (xs.set i (⟨⟨xs[i].f.num, swapPla xs[i].f.pla pl, swapSeats (swapPla xs[i].f.pla pl) xs[i].f.seats, xs[i].f.ep⟩, g, c2⟩ : FR)).length = xs.length := by rw [List.length_set]
  obtain ⟨og2, rf2⟩ := k1.parts hl (by omega)
  obtain ⟨cur, q1, _⟩ := id rf2.cur
  have hc := rf2.cell i (by rw [hl]; exact hi) 9 (by omega)
  simp only [List.getElem_set_self] at hc
  have k1' := k1
  rw [← hl] at k1'
  have k4 := k1'.epSet i (by rw [hl]; exact hi) (IntKind.i64.wrap (xs[i].f.ep + 1))
  simp only [List.getElem_set_self, List.set_set] at k4
  rw [hl] at k4
  have k3' : Mod (fun k => ow k ≠ 0) w w' := (hW.mono (fun _ _ x => x.elim)).trans k3
  refine ⟨rfl, hc, q1.frozen, q1.lt, ow', g, c2, k4, fun k hk => (k2 k hk).imp (fun x => x) (fun x => Nat.le_trans hW.size x), k3'.setCell (p := ⟨gf, i * 10 + 9, none⟩) (.inl ?_) _⟩
  show ow gf ≠ 0
  rw [og]; omega)
 rw [show IntKind.i64.wrap (xs[i].f.ep + 1) = wrap64 (xs[i].f.ep + 1) from (by unfold wrap64; exact IntKind.wrap_i64 _)] at HS
 have V0 := hide fun W (hW : Mod No w W) => (show W.cell? ⟨wb, 0, none⟩ = some (Value.slice (Option.some ⟨gf, 0, none⟩) xs.length cap) from cell_keep hW (h.has.cell 0) (fun x => x))
 have M0 := hide ((Mod.refl No w).alloc (.cells #[.int .i64 9, .int .i64 flight, .int .i64 ar, .int .i64 ac, .int .i64 tr, .int .i64 tc, .int .i64 party, .int .i64 cls, .int .i64 time, .int .i64 pl.rows, .int .i64 pl.cols, .int .i64 pl.front, .int .i64 pl.l0, .int .i64 pl.l1, .int .i64 pl.l2, .int .i64 pl.l3] 41))
 have B0 := hide (Has.new w #[.int .i64 9, .int .i64 flight, .int .i64 ar, .int .i64 ac, .int .i64 tr, .int .i64 tc, .int .i64 party, .int .i64 cls, .int .i64 time, .int .i64 pl.rows, .int .i64 pl.cols, .int .i64 pl.front, .int .i64 pl.l0, .int .i64 pl.l1, .int .i64 pl.l2, .int .i64 pl.l3] 41)
 have f1 : ¬ flight < 1 := by omega
 have f2 : ¬ flight > 20 := by omega
 have i0 : ¬ (i : Int) < 0 := by omega
 have i1 : (i : Int) < (xs.length : Int) := by omega
 have i2 : (0 : Int) ≤ i := by omega
 clear h hfi hf hg og rf
 go_enter Tryz.func27, Tryz.ntmps27
 go_wp2_with fail
 refine ((unhide HF) _ (unhide M0)).mono ?_
 rintro e w1 ⟨rfl, rfl⟩
 have v0 := (unhide V0) _ (unhide M0)
 have hb := (unhide B0).cell
 have lb := (unhide B0).lt
 go_wp2_with fail
 refine ((unhide HS) _ (unhide M0)).mono ?_
 rintro e w2 ⟨rfl, c9, z9, l9, R⟩
 have R := hide R
 clear hb v0 lb
 go_wp2
 go_ret
 exact ⟨rfl, unhide R⟩
theorem swapX_same (c : Cmd) (k9 : c.kind = 9) (x : FR) (g c2 : Nat) :
  ((swapX c.pla x g c2).f.pla.at (swapX c.pla x g c2).f.ep, (swapX c.pla x g c2).f.seats) = (planNew (x.f.pla.at x.f.ep) c, seatNew (x.f.pla.at x.f.ep) x.f.seats c) := by
 unfold planNew seatNew swapX
 rw [if_pos k9, if_pos k9]
 rfl
theorem wdo_all {w : World} {ow : Nat → Nat} {wb : Nat} {v : Value} {xs : List FR} {now : Int} {fl : Nat → Option (Pla × List Sea)} (h : WorR w ow wb v xs now) (hs : Same xs fl) (c : Cmd) (ht : -9223372036854775808 ≤ c.time ∧ c.time ≤ 9223372036854775807)
  (hn : 0 ≤ now ∧ now ≤ 4611686018427387000) (hv : xs = [] → v = .slice none 0 0) :
  Calls Tryz.prog 27 #[.pointer (some ⟨wb, 0, none⟩), .agg (cmdCells c)] w fun e w' => e = .returned (.int .i64 (doK now fl c).1) ∧ WDone w w' ow wb (doK now fl c).2.1 (doK now fl c).2.2 := by
 by_cases k9 : c.kind = 9
 case neg => exact wdo_any h hs c ht hn k9 hv
 have k0 : ¬ (c.kind < 1 ∨ c.kind > 9) := by omega
 have k8 : c.kind ≠ 8 := by omega
 have k1 : ¬ c.kind = 1 := by omega
 have HF := fun W (hW : Mod No w W) => (h.mod hW (fun _ _ x => x)).find c.flight
 by_cases hf : 1 ≤ c.flight ∧ c.flight ≤ 20
 case neg =>
  rw [doK_num k0 k8 hf]
  obtain ⟨kind, flight, ar, ac, tr, tc, party, cls, time, pl⟩ := c
  exact (wdo_num wb flight ar ac tr tc party cls time pl w kind (by simp only at *; omega) _ hf HF).mono fun e w' ⟨he, hm⟩ => ⟨he, WDone.same h hs hv hm⟩
 rcases hs.find c.flight hf with ⟨f1, f2⟩ | ⟨i, hi, f1, f2, f3⟩
 ·rw [doK_none k0 k8 hf f2, if_neg k1]
  rw [f1] at HF
  obtain ⟨kind, flight, ar, ac, tr, tc, party, cls, time, pl⟩ := c
  exact (wdo_miss wb flight ar ac tr tc party cls time pl w kind (by simp only at *; omega) (-1) hf (by omega) k1 HF).mono fun e w' ⟨he, hm⟩ => ⟨he, WDone.same h hs hv hm⟩
 ·rw [doK_some k0 k8 hf f3, if_neg k1]
  simp only
  rw [seatErr_ep]
  have se : seatErr xs[i].f.pla xs[i].f.seats c now = if c.pla.sized = true ∧ ¬ (c.pla.rows * c.pla.cols < (nFull xs[i].f.seats : Int)) then 0 else 4 := by
   unfold seatErr
   rw [if_pos k9]
  have sx := fun g c2 => swapX_same c k9 xs[i] g c2
  obtain ⟨gf, cap, rfl⟩ := h.some (by omega)
  by_cases hg : c.pla.sized = true ∧ ¬ (c.pla.rows * c.pla.cols < (nFull xs[i].f.seats : Int))
  ·rw [se, if_pos hg, if_pos rfl]
   obtain ⟨kind, flight, ar, ac, tr, tc, party, cls, time, pl⟩ := c
   simp only at k9
   subst k9
   refine (wdo_swap h flight ar ac tr tc party cls time pl hf i hi f1 hg).mono ?_
   rintro e w' ⟨rfl, ow', g, c2, q1, q2, q3⟩
   refine ⟨rfl, ⟨_, _, ow', q1, hs.set flight hf i hi f1 (swapX pl xs[i] g c2) rfl _ (sx g c2), q2, fun e => ?_⟩, q3⟩
   have e2 := (List.set_eq_nil_iff _ _).1 e
   rw [e2] at hi
   exact absurd hi (Nat.not_lt_zero _)
  ·rw [se, if_neg hg, if_neg (by decide)]
   obtain ⟨kind, flight, ar, ac, tr, tc, party, cls, time, pl⟩ := c
   simp only at k9
   subst k9
   exact (wdo_swap_no h flight ar ac tr tc party cls time pl hf i hi f1 hg).mono fun e w' ⟨he, hm⟩ => ⟨he, WDone.same h hs hv hm⟩
end Go.Proofs.YthhibagcpjeihaaGreat
