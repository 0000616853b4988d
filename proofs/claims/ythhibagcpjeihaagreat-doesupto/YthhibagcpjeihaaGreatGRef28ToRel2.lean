import Derived.Test.YthhibagcpjeihaaGreatGRef21ToRef27
import Derived.Deep.CutBlock
import Derived.Test.YthhibagcpjeihaaGreatGRef15ToKeep4
import Derived.Test.YthhibagcpjeihaaGreatGKeep5ToSwap3
import Derived.Test.YthhibagcpjeihaaGreatGSwap4ToKeep8
/- The document's answer: a flight is added to none: the walk. -/
namespace Go.Proofs.YthhibagcpjeihaaGreat
open Go.RowKit
open M
set_option linter.unusedVariables false
set_option linter.unusedSimpArgs false
set_option maxRecDepth 100000
set_option maxHeartbeats 8000000

theorem added_nil {w : World} {ow : Nat → Nat} {wb : Nat} {now : Int} (h : WorR w ow wb (.slice none 0 0) [] now) (c : Cmd) (hf : findN [] c.flight = -1) (hp1 : c.pla.sized = true) (hp2 : c.pla.limited = true) :
    Calls Tryz.prog 53 #[.pointer (some ⟨wb, 0, none⟩), .agg (cmdCells c)] w fun e w' => e = .returned (.int .i64 0) ∧ AddedP w w' ow wb [] now c.flight c.pla := by
  have HF := (h.mod ((Mod.refl No w).alloc (.cells (cmdCells c) 41)) (fun _ _ x => x)).find c.flight
  rw [hf] at HF
  have HF := hide HF
  have HS := hide fun W => rsized_any c.pla W
  have HL := hide fun W => rlimited_any c.pla W
  have HE := hide fun W => (show Calls Tryz.prog 84 #[plaV c.pla] W fun e w' => ∃ v, e = .returned v ∧ ∃ g cap, v = .slice (some ⟨g, 0, none⟩) (emptySeats c.pla).length cap ∧ RowS w' g cap (emptySeats c.pla) ∧ W.heap.size < g ∧ Mod No W w' from
    (rempty_any c.pla hp1 W).mono fun e w' ⟨g, cap, h1, h2⟩ => ⟨_, h1, g, cap, rfl, h2⟩)
  have HWF := hide (empty_wf hp1 hp2)
  have M0 := hide ((Mod.refl No w).alloc (.cells (cmdCells c) 41))
  have B0 := hide (Has.new w (cmdCells c) 41)
  rw [hp1] at HS
  rw [hp2] at HL
  have H := hide h
  obtain ⟨kind, flight, ar, ac, tr, tc, party, cls, time, pl⟩ := c
  simp only at *
  clear h hf hp1 hp2
  unfold plaV at HS HL HE
  unfold cmdCells at *
  go_enter Tryz.func53, Tryz.ntmps53
  go_wp2_with fail
  refine (unhide HF).mono ?_
  rintro e w1 ⟨rfl, rfl⟩
  have hb := (unhide B0).cell
  have lb := (unhide B0).lt
  go_wp2_with fail
  refine ((unhide HS) _).mono ?_
  rintro e w2 ⟨rfl, m2⟩
  have hb2 := (m2.has (unhide B0) (fun x => x)).cell
  have lb2 := (m2.has (unhide B0) (fun x => x)).lt
  clear hb lb
  go_wp2_with fail
  refine ((unhide HL) _).mono ?_
  rintro e w3 ⟨rfl, m3⟩
  have M3 := hide (((unhide M0).trans m2).trans m3)
  have B3 := hide (m3.has (m2.has (unhide B0) (fun x => x)) (fun x => x))
  clear hb2 lb2 m2 m3 B0 M0 HF HS HL
  generalize w.heap.size = b0 at *
  have hb3 := (unhide B3).cell
  have lb3 := (unhide B3).lt
  go_upto_region 8 with fail
  go_cut [8] (fun s8 wx => ∃ bb g cap, s8 = .pointer (some ⟨bb, 0, none⟩) ∧ Hid (AddI w wx flight pl #[.int .i64 kind, .int .i64 flight, .int .i64 ar, .int .i64 ac, .int .i64 tr, .int .i64 tc, .int .i64 party, .int .i64 cls, .int .i64 time, .int .i64 pl.rows, .int .i64 pl.cols, .int .i64 pl.front, .int .i64 pl.l0, .int .i64 pl.l1, .int .i64 pl.l2, .int .i64 pl.l3] bb b0 g cap))
  case first =>
    have B3d := hide (unhide B3).drew
    have M3d := hide (unhide M3).drew
    have mz : Mod No w3 ((w3.alloc (.cells #[.int .i64 0, .int .i64 0, .int .i64 0, .int .i64 0, .int .i64 0, .int .i64 0, .int .i64 0, .int .i64 0, .slice none 0 0, .int .i64 0] 134)).drew) := ((Mod.refl _ w3).alloc _).drew
    have B3z := hide (mz.has (unhide B3) (fun x => x))
    have M3z := hide ((unhide M3).trans mz)
    have Z3z := hide (Has.new w3 #[.int .i64 0, .int .i64 0, .int .i64 0, .int .i64 0, .int .i64 0, .int .i64 0, .int .i64 0, .int .i64 0, .slice none 0 0, .int .i64 0] 134).drew
    have LZ := hide (show b0 ≤ w3.heap.size from Nat.le_of_lt lb3)
    clear mz
    go_region_law (first
      | (refine step_call2 rfl 84 _ _ rfl #[.agg #[.int .i64 pl.rows, .int .i64 pl.cols, .int .i64 pl.front, .int .i64 pl.l0, .int .i64 pl.l1, .int .i64 pl.l2, .int .i64 pl.l3]] (by simp [Act.eval, Act.put]) (fun W => by kernel_rfl) _ ((unhide HE) w3.drew) ?_; rintro v5 w5 ⟨g5, cap5, rfl, h5, z5, m5⟩; have hb5 := (m5.has (unhide B3d) (fun x => x)).cell; have lb5 := (m5.has (unhide B3d) (fun x => x)).lt)
      | (refine step_call2 rfl 84 _ _ rfl #[.agg #[.int .i64 pl.rows, .int .i64 pl.cols, .int .i64 pl.front, .int .i64 pl.l0, .int .i64 pl.l1, .int .i64 pl.l2, .int .i64 pl.l3]] (by simp [Act.eval, Act.put]) (fun W => by kernel_rfl) _ ((unhide HE) _) ?_; rintro v5 w5 ⟨g5, cap5, rfl, h5, z5, m5⟩; have hb5 := (m5.has (unhide B3z) (fun x => x)).cell; have lb5 := (m5.has (unhide B3z) (fun x => x)).lt; have zb5 := (m5.has (unhide Z3z) (fun x => x)).cell; have zf5 := (m5.has (unhide Z3z) (fun x => x)).frozen; have zl5 := (m5.has (unhide Z3z) (fun x => x)).lt))
    all_goals go_wp2
    all_goals go_meet
    all_goals first
      | with_reducible exact ⟨_, g5, cap5, rfl, hide (AddI.made (unhide M3d) m5 (unhide B3d) h5 z5)⟩
      | with_reducible exact ⟨_, g5, cap5, rfl, hide (AddI.made2 (unhide M3z) m5 (unhide B3z) (unhide Z3z) (unhide M3).size h5 z5)⟩
  case rest =>
    obtain ⟨bb, g, cap, rfl, I1⟩ := hcut
    obtain ⟨i126, r0, r1, r2, r3⟩ := info_parts info157
    clear B3 M3 HE hb3 lb3
    apply_assumption
    go_upto_block 0 with fail
    go_cut [9] (fun s9 wx => s9 = .int .i64 0 ∧ Hid (AddI w wx flight pl #[.int .i64 kind, .int .i64 flight, .int .i64 ar, .int .i64 ac, .int .i64 tr, .int .i64 tc, .int .i64 party, .int .i64 cls, .int .i64 time, .int .i64 pl.rows, .int .i64 pl.cols, .int .i64 pl.front, .int .i64 pl.l0, .int .i64 pl.l1, .int .i64 pl.l2, .int .i64 pl.l3] bb b0 g cap))
    case first =>
      go_wp2_with fail
      go_loopw [9] (fun s9 wr => s9 = .int .i64 0 ∧ Hid (AddI w wr flight pl #[.int .i64 kind, .int .i64 flight, .int .i64 ar, .int .i64 ac, .int .i64 tr, .int .i64 tc, .int .i64 party, .int .i64 cls, .int .i64 time, .int .i64 pl.rows, .int .i64 pl.cols, .int .i64 pl.front, .int .i64 pl.l0, .int .i64 pl.l1, .int .i64 pl.l2, .int .i64 pl.l3] bb b0 g cap)) (fun _ _ => 0)
      case atStart => exact ⟨rfl, I1⟩
      case round =>
        obtain ⟨rfl, I2⟩ := hrel
        clear I1
        have vb : wr.cell? ⟨wb, 0, none⟩ = some (.slice none 0 0) := ((unhide I2).mod.has (unhide H).has (fun x => x)).cell 0
        have vl := ((unhide I2).mod.has (unhide H).has (fun x => x)).lt
        go_wp2_with fail
        go_quiet (fail)
        go_wp2
        go_meet
        exact ⟨rfl, (unhide I2).still ((Mod.refl No _).drewN _)⟩
    case rest =>
      obtain ⟨rfl, I2⟩ := hcut
      have vb := ((unhide I2).mod.has (unhide H).has (fun x => x)).cell 0
      have vl := ((unhide I2).mod.has (unhide H).has (fun x => x)).lt
      clear I1
      have I3 := I2
      go_upto_region 13 with fail
      have HREAD := hide (show ∀ W, Reads W (.slice none 0 0) 0 [] from fun W => .inl ⟨rfl, rfl⟩)
      have HNIL := hide (show ∀ u ∈ ([] : List Value), u.oneCell' = true from fun u hu => by simp at hu)
      have HX1 := hide (show ∀ u ∈ friL (addX flight pl g cap), u.oneCell' = true from fun u hu => friL_one [addX flight pl g cap] u (by simpa using hu))
      go_upto_region 15 with (first
        | (at_builtin; refine wpList_append_row rfl (.tmp 59) (.tmp 65) 70 rfl 134 i126 _ 10 96 Tryz.underlying70 r0 r1 r2 r3 rfl (by decide) (.slice none 0 0) 0 [] (by simp [Act.eval]) (by exact World.ownsRow_nil _ _ _ _) (.slice none 0 0) 0 [] (by simp [Act.eval]) (by exact (unhide HREAD) _) rfl (unhide HNIL) (by unfold maxLen; omega) (by omega) ?_; intro v1 w4 ho4 hg4 hs4;
           rw [Nat.zero_add, List.nil_append] at ho4; have HO4 := hide ho4; have HS4 := hide hs4; have M4 := hide ((Mod.refl No _).grown hg4 (by simp [Value.ownBlock])); clear ho4 hg4 hs4; have I4 := hide ((unhide I3).still (unhide M4)); have bx4 := (unhide I4).box.cell; have bl4 := (unhide I4).box.lt; unfold friV addX at bx4; have m5 : Mod No w4 (w4.alloc (.cells (friV (addX flight pl g cap)) 134)) := (Mod.refl _ _).alloc _; have HO5 := hide (m5.owns (unhide HO4) (fun _ _ x => x)); have HR5 := hide (reads_fr w4 134 (addX flight pl g cap)); clear m5 I4)
        | (at_builtin; refine wpList_append_row rfl (.tmp 67) (.tmp 69) 70 rfl 134 i126 _ 10 96 Tryz.underlying70 r0 r1 r2 r3 rfl (by decide) v1 0 [] (by simp [Act.eval]) (by exact unhide HO5) (.slice (some ⟨w4.heap.size, 0, none⟩) 1 1) 1 (friL (addX flight pl g cap)) (by simp [Act.eval]) (by exact unhide HR5) rfl (unhide HX1) (by unfold maxLen; omega) (by omega) ?_; intro v2 w6 ho6 hg6 hs6;
           clear bx4 bl4; obtain ⟨a2, c2, rfl⟩ := slice_of_owns ho6; have HO6 := hide ho6; have HS6 := hide hs6; have M6 := hide (((unhide M4).alloc _).grown hg6 (stays_new (unhide HS4))); clear ho6 hg6 hs6; have W6 := (unhide I3).mod.trans (unhide M6); have vb6 : w6.cell? ⟨wb, 0, none⟩ = some (.slice none 0 0) := (W6.has (unhide H).has (fun x => x)).cell 0; have vf6 := (W6.has (unhide H).has (fun x => x)).frozen; have vl6 := (W6.has (unhide H).has (fun x => x)).lt; clear W6))
      have SN6 := hide (stays_new2 (stays_new (unhide HS4)) (by have := (unhide M4).size; simp; omega) (unhide HS6))
      have FIN := hide (added_end (xs := []) (now := now) (ow := ow) (i := 0) (unhide H) (unhide I3) (unhide HWF) (Nat.le_refl _) (by simp))
      go_wp2_with (at_builtin; refine wpList_append_row rfl (.tmp 72) (.tmp 78) 70 rfl 134 i126 _ 10 96 Tryz.underlying70 r0 r1 r2 r3 rfl (by decide) (.slice a2 (0 + 1) c2) (0 + 1) ([] ++ friL (addX flight pl g cap)) (by simp [Act.eval]) (by exact unhide HO6) (.slice none 0 0) 0 [] (by simp [Act.eval]) (by exact (unhide HREAD) _) rfl (unhide HNIL) (by unfold maxLen; omega) (by omega) ?_; intro v3 w7 ho7 hg7 hs7; obtain ⟨a3, c3, rfl⟩ := slice_of_owns ho7; have HO7 := hide ho7; have HS7 := hide hs7; have M7 := hide ((unhide M6).grown hg7 (unhide SN6)); clear ho7 hg7 hs7 vb6 vf6 vl6; have hw7 := ((unhide I3).mod.trans (unhide M7)).has (unhide H).has (fun x => x); have vb7 := hw7.cell 0; have vf7 := hw7.frozen; have vl7 := hw7.lt; clear hw7)
      go_ret
      obtain ⟨q1, v', n', g', cap', ow', q2, rfl, q3, q4⟩ := (unhide FIN) w7 _ (unhide M7) (stays_new2 (unhide SN6) (unhide M6).size (unhide HS7)) _ _ (by simp) (by simp) (unhide HO7)
      exact ⟨rfl, ⟨q1, v', 0, g', cap', ow', q2, fun j hj => absurd hj (Nat.not_lt_zero _), fun hj => absurd hj (Nat.not_lt_zero _), q3, q4⟩⟩
end Go.Proofs.YthhibagcpjeihaaGreat
/- The document's answer: a command is done: but for a flight that is added. -/
namespace Go.Proofs.YthhibagcpjeihaaGreat
open Go.RowKit
open M
set_option linter.unusedVariables false
set_option linter.unusedSimpArgs false
set_option maxRecDepth 100000
set_option maxHeartbeats 8000000

theorem wdo_bad (wb : Nat) (c : Cmd) (w : World) (hk : c.kind < 1 ∨ c.kind > 9) :
    Calls Tryz.prog 27 #[.pointer (some ⟨wb, 0, none⟩), .agg (cmdCells c)] w fun e w' => e = .returned (.int .i64 1) ∧ Mod No w w' := by
  have M0 := hide ((Mod.refl No w).alloc (.cells (cmdCells c) 41))
  unfold cmdCells at *
  by_cases h1 : c.kind < 1
  · clear hk
    go_enter Tryz.func27, Tryz.ntmps27
    go_wp2
    go_ret
    exact ⟨rfl, unhide M0⟩
  · have h2 : c.kind > 9 := by omega
    clear hk
    go_enter Tryz.func27, Tryz.ntmps27
    go_wp2
    go_ret
    exact ⟨rfl, unhide M0⟩

theorem wdo_tick (wb : Nat) (flight ar ac tr tc party cls time : Int) (pl : Pla) (w : World) (er : Int) (P : World → Prop) (HT : ∀ W, Mod No w W → Calls Tryz.prog 51 #[.pointer (some ⟨wb, 0, none⟩), .int .i64 time] W fun e w' => e = .returned (.int .i64 er) ∧ P w') :
    Calls Tryz.prog 27 #[.pointer (some ⟨wb, 0, none⟩), .agg #[.int .i64 8, .int .i64 flight, .int .i64 ar, .int .i64 ac, .int .i64 tr, .int .i64 tc, .int .i64 party, .int .i64 cls, .int .i64 time, .int .i64 pl.rows, .int .i64 pl.cols, .int .i64 pl.front, .int .i64 pl.l0, .int .i64 pl.l1, .int .i64 pl.l2, .int .i64 pl.l3]] w fun e w' => e = .returned (.int .i64 er) ∧ P w' := by
  have M0 := hide ((Mod.refl No w).alloc (.cells #[.int .i64 8, .int .i64 flight, .int .i64 ar, .int .i64 ac, .int .i64 tr, .int .i64 tc, .int .i64 party, .int .i64 cls, .int .i64 time, .int .i64 pl.rows, .int .i64 pl.cols, .int .i64 pl.front, .int .i64 pl.l0, .int .i64 pl.l1, .int .i64 pl.l2, .int .i64 pl.l3] 41))
  have HT := hide HT
  go_enter Tryz.func27, Tryz.ntmps27
  go_wp2_with fail
  refine ((unhide HT) _ (unhide M0)).mono ?_
  rintro e w1 ⟨rfl, hp⟩
  have HP := hide hp
  clear hp
  go_wp2
  go_ret
  exact ⟨rfl, unhide HP⟩

theorem wdo_num (wb : Nat) (flight ar ac tr tc party cls time : Int) (pl : Pla) (w : World) (kind : Int) (hk : 1 ≤ kind ∧ kind ≤ 9 ∧ kind ≠ 8) (i : Int) (hf : ¬ (1 ≤ flight ∧ flight ≤ 20)) (HF : ∀ W, Mod No w W → Calls Tryz.prog 52 #[.pointer (some ⟨wb, 0, none⟩), .int .i64 flight] W fun e w' => e = .returned (.int .i64 i) ∧ w' = W) :
    Calls Tryz.prog 27 #[.pointer (some ⟨wb, 0, none⟩), .agg #[.int .i64 kind, .int .i64 flight, .int .i64 ar, .int .i64 ac, .int .i64 tr, .int .i64 tc, .int .i64 party, .int .i64 cls, .int .i64 time, .int .i64 pl.rows, .int .i64 pl.cols, .int .i64 pl.front, .int .i64 pl.l0, .int .i64 pl.l1, .int .i64 pl.l2, .int .i64 pl.l3]] w fun e w' => e = .returned (.int .i64 2) ∧ Mod No w w' := by
  have M0 := hide ((Mod.refl No w).alloc (.cells #[.int .i64 kind, .int .i64 flight, .int .i64 ar, .int .i64 ac, .int .i64 tr, .int .i64 tc, .int .i64 party, .int .i64 cls, .int .i64 time, .int .i64 pl.rows, .int .i64 pl.cols, .int .i64 pl.front, .int .i64 pl.l0, .int .i64 pl.l1, .int .i64 pl.l2, .int .i64 pl.l3] 41))
  have HF := hide HF
  have k1 : ¬ kind < 1 := by omega
  have k2 : ¬ kind > 9 := by omega
  have k3 : (kind == 8) = false := by simp; omega
  obtain ⟨_, _, hk8⟩ := hk
  by_cases f1 : flight < 1
  · clear hf
    go_enter Tryz.func27, Tryz.ntmps27
    go_wp2_with fail
    refine ((unhide HF) _ (unhide M0)).mono ?_
    rintro e w1 ⟨rfl, rfl⟩
    go_wp2
    go_ret
    exact ⟨rfl, unhide M0⟩
  · have f2 : flight > 20 := by omega
    clear hf
    go_enter Tryz.func27, Tryz.ntmps27
    go_wp2_with fail
    refine ((unhide HF) _ (unhide M0)).mono ?_
    rintro e w1 ⟨rfl, rfl⟩
    go_wp2
    go_ret
    exact ⟨rfl, unhide M0⟩

theorem wdo_miss (wb : Nat) (flight ar ac tr tc party cls time : Int) (pl : Pla) (w : World) (kind : Int) (hk : 1 ≤ kind ∧ kind ≤ 9 ∧ kind ≠ 8) (i : Int) (hf : 1 ≤ flight ∧ flight ≤ 20) (hi : i < 0) (hk1 : kind ≠ 1) (HF : ∀ W, Mod No w W → Calls Tryz.prog 52 #[.pointer (some ⟨wb, 0, none⟩), .int .i64 flight] W fun e w' => e = .returned (.int .i64 i) ∧ w' = W) :
    Calls Tryz.prog 27 #[.pointer (some ⟨wb, 0, none⟩), .agg #[.int .i64 kind, .int .i64 flight, .int .i64 ar, .int .i64 ac, .int .i64 tr, .int .i64 tc, .int .i64 party, .int .i64 cls, .int .i64 time, .int .i64 pl.rows, .int .i64 pl.cols, .int .i64 pl.front, .int .i64 pl.l0, .int .i64 pl.l1, .int .i64 pl.l2, .int .i64 pl.l3]] w fun e w' => e = .returned (.int .i64 2) ∧ Mod No w w' := by
  have M0 := hide ((Mod.refl No w).alloc (.cells #[.int .i64 kind, .int .i64 flight, .int .i64 ar, .int .i64 ac, .int .i64 tr, .int .i64 tc, .int .i64 party, .int .i64 cls, .int .i64 time, .int .i64 pl.rows, .int .i64 pl.cols, .int .i64 pl.front, .int .i64 pl.l0, .int .i64 pl.l1, .int .i64 pl.l2, .int .i64 pl.l3] 41))
  have HF := hide HF
  have k1 : ¬ kind < 1 := by omega
  have k2 : ¬ kind > 9 := by omega
  have k3 : (kind == 8) = false := by simp; omega
  obtain ⟨_, _, hk8⟩ := hk
  have f1 : ¬ flight < 1 := by omega
  have f2 : ¬ flight > 20 := by omega
  have k4 : (kind != 1) = true := by simpa using hk1
  clear hf hk1
  · skip
    go_enter Tryz.func27, Tryz.ntmps27
    go_wp2_with fail
    refine ((unhide HF) _ (unhide M0)).mono ?_
    rintro e w1 ⟨rfl, rfl⟩
    go_wp2
    go_ret
    exact ⟨rfl, unhide M0⟩

theorem wdo_add (wb : Nat) (flight ar ac tr tc party cls time : Int) (pl : Pla) (w : World) (i er : Int) (P : World → Prop) (hf : 1 ≤ flight ∧ flight ≤ 20) (HF : ∀ W, Mod No w W → Calls Tryz.prog 52 #[.pointer (some ⟨wb, 0, none⟩), .int .i64 flight] W fun e w' => e = .returned (.int .i64 i) ∧ w' = W)
    (HA : ∀ W, Mod No w W → Calls Tryz.prog 53 #[.pointer (some ⟨wb, 0, none⟩), .agg #[.int .i64 1, .int .i64 flight, .int .i64 ar, .int .i64 ac, .int .i64 tr, .int .i64 tc, .int .i64 party, .int .i64 cls, .int .i64 time, .int .i64 pl.rows, .int .i64 pl.cols, .int .i64 pl.front, .int .i64 pl.l0, .int .i64 pl.l1, .int .i64 pl.l2, .int .i64 pl.l3]] W fun e w' => e = .returned (.int .i64 er) ∧ P w') :
    Calls Tryz.prog 27 #[.pointer (some ⟨wb, 0, none⟩), .agg #[.int .i64 1, .int .i64 flight, .int .i64 ar, .int .i64 ac, .int .i64 tr, .int .i64 tc, .int .i64 party, .int .i64 cls, .int .i64 time, .int .i64 pl.rows, .int .i64 pl.cols, .int .i64 pl.front, .int .i64 pl.l0, .int .i64 pl.l1, .int .i64 pl.l2, .int .i64 pl.l3]] w fun e w' => e = .returned (.int .i64 er) ∧ P w' := by
  have M0 := hide ((Mod.refl No w).alloc (.cells #[.int .i64 1, .int .i64 flight, .int .i64 ar, .int .i64 ac, .int .i64 tr, .int .i64 tc, .int .i64 party, .int .i64 cls, .int .i64 time, .int .i64 pl.rows, .int .i64 pl.cols, .int .i64 pl.front, .int .i64 pl.l0, .int .i64 pl.l1, .int .i64 pl.l2, .int .i64 pl.l3] 41))
  have HF := hide HF
  have HA := hide HA
  have f1 : ¬ flight < 1 := by omega
  have f2 : ¬ flight > 20 := by omega
  clear hf
  by_cases hi : i < 0
  all_goals
    go_enter Tryz.func27, Tryz.ntmps27
    go_wp2_with fail
    refine ((unhide HF) _ (unhide M0)).mono ?_
    rintro e w1 ⟨rfl, rfl⟩
    go_wp2_with fail
    refine ((unhide HA) _ (unhide M0)).mono ?_
    rintro e w2 ⟨rfl, hp⟩
    have HP := hide hp
    clear hp
    go_wp2
    go_ret
    exact ⟨rfl, unhide HP⟩

end Go.Proofs.YthhibagcpjeihaaGreat
/- The document's answer: a command to a seat is done in its world. -/
namespace Go.Proofs.YthhibagcpjeihaaGreat
open Go.RowKit
open M
set_option linter.unusedVariables false
set_option linter.unusedSimpArgs false
set_option maxRecDepth 100000
set_option maxHeartbeats 8000000

/-- A flight behind a command to one of its seats. -/
def seatX (c : Cmd) (now : Int) (x : FR) : FR :=
  ⟨⟨x.f.num, x.f.pla, seatL x.f.pla x.f.seats c now, if seatErr x.f.pla x.f.seats c now = 0 then IntKind.i64.wrap (x.f.ep + 1) else x.f.ep⟩, x.g, x.cap⟩

theorem seatL_len (p : Pla) (l : List Sea) (c : Cmd) (hk : c.kind ≠ 9) (now : Int) : (seatL p l c now).length = l.length := by
  unfold seatL seatNew
  rw [if_neg hk]
  repeat' split
  all_goals simp
theorem seatL_wf {p : Pla} {l : List Sea} (hwf : Wf p l) (c : Cmd) (hk : c.kind ≠ 9) (now : Int) (hn : 0 ≤ now ∧ now ≤ 4611686018427387000) : Wf p (seatL p l c now) := by
  unfold seatL
  split
  · rename_i h; exact seatNew_wf hwf hn h hk
  · exact hwf

theorem wdo_seat {w : World} {ow : Nat → Nat} {wb gf cap : Nat} {xs : List FR} {now : Int} (h : WorR w ow wb (.slice (some ⟨gf, 0, none⟩) xs.length cap) xs now) (kind flight ar ac tr tc party cls time : Int) (pl : Pla) (hk : 2 ≤ kind ∧ kind ≤ 7) (hf : 1 ≤ flight ∧ flight ≤ 20)
    (ht : -9223372036854775808 ≤ time ∧ time ≤ 9223372036854775807) (hn : 0 ≤ now ∧ now ≤ 4611686018427387000) (i : Nat) (hi : i < xs.length) (hfi : findN xs flight = i) :
    Calls Tryz.prog 27 #[.pointer (some ⟨wb, 0, none⟩), .agg #[.int .i64 kind, .int .i64 flight, .int .i64 ar, .int .i64 ac, .int .i64 tr, .int .i64 tc, .int .i64 party, .int .i64 cls, .int .i64 time, .int .i64 pl.rows, .int .i64 pl.cols, .int .i64 pl.front, .int .i64 pl.l0, .int .i64 pl.l1, .int .i64 pl.l2, .int .i64 pl.l3]] w fun e w' => e = .returned (.int .i64 (seatErr xs[i].f.pla xs[i].f.seats ⟨kind, flight, ar, ac, tr, tc, party, cls, time, pl⟩ now)) ∧
      WorR w' ow wb (.slice (some ⟨gf, 0, none⟩) xs.length cap) (xs.set i (seatX ⟨kind, flight, ar, ac, tr, tc, party, cls, time, pl⟩ now xs[i])) now ∧ Mod (fun k => ow k ≠ 0) w w' := by
  have HF := hide fun W (hW : Mod No w W) => (show Calls Tryz.prog 52 #[.pointer (some ⟨wb, 0, none⟩), .int .i64 flight] W fun e w' => e = .returned (.int .i64 (i : Nat)) ∧ w' = W from by
    have := (h.mod hW (fun _ _ x => x)).find flight
    rw [hfi] at this
    exact this)
  obtain ⟨og, rf⟩ := h.parts rfl (by omega)
  obtain ⟨rs, os, wf⟩ := h.seats i hi
  have HS := hide fun W (hW : Mod No w W) => (show Calls Tryz.prog 55 #[.pointer (some ⟨wb, 0, none⟩), .pointer (some ⟨gf, i * 10, none⟩), .agg #[.int .i64 kind, .int .i64 flight, .int .i64 ar, .int .i64 ac, .int .i64 tr, .int .i64 tc, .int .i64 party, .int .i64 cls, .int .i64 time, .int .i64 pl.rows, .int .i64 pl.cols, .int .i64 pl.front, .int .i64 pl.l0, .int .i64 pl.l1, .int .i64 pl.l2, .int .i64 pl.l3]] W fun e w' =>
      e = .returned (.int .i64 (seatErr xs[i].f.pla xs[i].f.seats ⟨kind, flight, ar, ac, tr, tc, party, cls, time, pl⟩ now)) ∧ SaleOk W w' gf (i * 10) xs[i].g xs[i].cap xs[i].f.pla xs[i].f.seats (seatL xs[i].f.pla xs[i].f.seats ⟨kind, flight, ar, ac, tr, tc, party, cls, time, pl⟩ now) from
    seated_any ((h.mod hW (fun _ _ x => x)).fl i hi) wf ⟨kind, flight, ar, ac, tr, tc, party, cls, time, pl⟩ hk ht now hn ((h.mod hW (fun _ _ x => x)).has.cell 1))
  have SL := hide (seatL_len xs[i].f.pla xs[i].f.seats ⟨kind, flight, ar, ac, tr, tc, party, cls, time, pl⟩ (by simp only; omega) now)
  have SW := hide (seatL_wf wf ⟨kind, flight, ar, ac, tr, tc, party, cls, time, pl⟩ (by simp only; omega) now hn)
  have hx : seatX ⟨kind, flight, ar, ac, tr, tc, party, cls, time, pl⟩ now xs[i] = ⟨⟨xs[i].f.num, xs[i].f.pla, seatL xs[i].f.pla xs[i].f.seats ⟨kind, flight, ar, ac, tr, tc, party, cls, time, pl⟩ now, if seatErr xs[i].f.pla xs[i].f.seats ⟨kind, flight, ar, ac, tr, tc, party, cls, time, pl⟩ now = 0 then IntKind.i64.wrap (xs[i].f.ep + 1) else xs[i].f.ep⟩, xs[i].g, xs[i].cap⟩ := rfl
  generalize hsx : seatX ⟨kind, flight, ar, ac, tr, tc, party, cls, time, pl⟩ now xs[i] = sx at *
  generalize seatErr xs[i].f.pla xs[i].f.seats ⟨kind, flight, ar, ac, tr, tc, party, cls, time, pl⟩ now = er at *
  generalize seatL xs[i].f.pla xs[i].f.seats ⟨kind, flight, ar, ac, tr, tc, party, cls, time, pl⟩ now = ll at *
  have HX := hide hx
  have H := hide h
  have gne : ¬ gf = xs[i].g := fun e => by rw [e, os] at og; omega
  have ec : w.cell? ⟨gf, i * 10 + 9, none⟩ = some (.int .i64 xs[i].f.ep) := rf.cell i hi 9 (by omega)
  have EC := hide fun W (hW : Mod (fun k => k = xs[i].g) w W) => cell_keep hW ec gne
  have GFZ := hide fun W (hW : Mod (fun k => k = xs[i].g) w W) => (rf.mod hW gne)
  have OG := hide og
  have OS := hide os
  have V0 := hide fun W (hW : Mod No w W) => (show W.cell? ⟨wb, 0, none⟩ = some (.slice (some ⟨gf, 0, none⟩) xs.length cap) from cell_keep hW (h.has.cell 0) (fun x => x))
  have M0 := hide ((Mod.refl No w).alloc (.cells #[.int .i64 kind, .int .i64 flight, .int .i64 ar, .int .i64 ac, .int .i64 tr, .int .i64 tc, .int .i64 party, .int .i64 cls, .int .i64 time, .int .i64 pl.rows, .int .i64 pl.cols, .int .i64 pl.front, .int .i64 pl.l0, .int .i64 pl.l1, .int .i64 pl.l2, .int .i64 pl.l3] 41))
  have B0 := hide (Has.new w #[.int .i64 kind, .int .i64 flight, .int .i64 ar, .int .i64 ac, .int .i64 tr, .int .i64 tc, .int .i64 party, .int .i64 cls, .int .i64 time, .int .i64 pl.rows, .int .i64 pl.cols, .int .i64 pl.front, .int .i64 pl.l0, .int .i64 pl.l1, .int .i64 pl.l2, .int .i64 pl.l3] 41)
  have k1 : ¬ kind < 1 := by omega
  have k2 : ¬ kind > 9 := by omega
  have k3 : (kind == 8) = false := by simp; omega
  have k4 : (kind == 1) = false := by simp; omega
  have k5 : (kind == 9) = false := by simp; omega
  have f1 : ¬ flight < 1 := by omega
  have f2 : ¬ flight > 20 := by omega
  have i0 : ¬ (i : Int) < 0 := by omega
  have i1 : (i : Int) < (xs.length : Int) := by omega
  have i2 : (0 : Int) ≤ i := by omega
  have k6 : ¬ kind = 8 := by omega
  have k7 : ¬ kind = 1 := by omega
  have k8 : ¬ kind = 9 := by omega
  clear h hx hsx hfi rf rs os wf og ec gne hf hk
  go_enter Tryz.func27, Tryz.ntmps27
  go_wp2_with fail
  refine ((unhide HF) _ (unhide M0)).mono ?_
  rintro e w1 ⟨rfl, rfl⟩
  have v0 := (unhide V0) _ (unhide M0)
  have hb := (unhide B0).cell
  have lb := (unhide B0).lt
  go_wp2_with fail
  refine ((unhide HS) _ (unhide M0)).mono ?_
  rintro e w2 ⟨rfl, r2, m2⟩
  have m02 : Mod (fun k => k = xs[i].g) w w2 := ((unhide M0).mono (fun _ _ x => x.elim)).trans m2
  have ec2 := (unhide EC) _ m02
  have fz2 : ∀ o, w2.frozen? ⟨gf, o, none⟩ = false := by
    obtain ⟨cur, q1, _⟩ := ((unhide GFZ) _ m02).cur
    exact q1.frozen
  have W2 := hide ((unhide H).seatsSet i hi ll (unhide SL) (unhide SW) r2 m02)
  have MG := hide (show Mod (fun k => ow k ≠ 0) w w2 from m02.mono (fun k _ (e : k = xs[i].g) => by show ow k ≠ 0; rw [e, unhide OS]; omega))
  clear r2 m2 m02 hb v0
  by_cases hz : er = 0
  · have hl2 : (xs.set i ⟨⟨xs[i].f.num, xs[i].f.pla, ll, xs[i].f.ep⟩, xs[i].g, xs[i].cap⟩).length = xs.length := by rw [List.length_set]
    have W3 : WorR (w2.setCell ⟨gf, i * 10 + 9, none⟩ (.int .i64 (IntKind.i64.wrap (xs[i].f.ep + 1)))) ow wb (.slice (some ⟨gf, 0, none⟩) xs.length cap) (xs.set i sx) now := by
      have h1 := unhide W2
      have e : (Value.slice (some ⟨gf, 0, none⟩) xs.length cap) = .slice (some ⟨gf, 0, none⟩) (xs.set i ⟨⟨xs[i].f.num, xs[i].f.pla, ll, xs[i].f.ep⟩, xs[i].g, xs[i].cap⟩).length cap := by rw [hl2]
      rw [e] at h1
      have h2 := h1.epSet i (by rw [hl2]; exact hi) (IntKind.i64.wrap (xs[i].f.ep + 1))
      rw [← e] at h2
      simp only [List.getElem_set_self, List.set_set] at h2
      rw [unhide HX, if_pos hz]
      exact h2
    have ogx : ow gf ≠ 0 := by rw [unhide OG]; omega
    have MF : Mod (fun k => ow k ≠ 0) w (w2.setCell ⟨gf, i * 10 + 9, none⟩ (.int .i64 (IntKind.i64.wrap (xs[i].f.ep + 1)))) := (unhide MG).setCell (p := ⟨gf, i * 10 + 9, none⟩) (.inl ogx) _
    rw [show IntKind.i64.wrap (xs[i].f.ep + 1) = wrap64 (xs[i].f.ep + 1) from (by unfold wrap64; exact IntKind.wrap_i64 _)] at W3 MF
    have W4 := hide W3
    have M4 := hide MF
    clear W3 MF W2 MG hl2
    subst hz
    go_wp2
    go_ret
    exact ⟨rfl, unhide W4, unhide M4⟩
  · have hd : (er == 0) = false := by simpa using hz
    have W4 := hide (show WorR w2 ow wb (.slice (some ⟨gf, 0, none⟩) xs.length cap) (xs.set i sx) now from by rw [unhide HX, if_neg hz]; exact unhide W2)
    clear W2 hz
    go_wp2
    go_ret
    exact ⟨rfl, unhide W4, unhide MG⟩
end Go.Proofs.YthhibagcpjeihaaGreat
/- What a keeper holds and what the document's world holds: the same flights by their numbers. -/
namespace Go.Proofs.YthhibagcpjeihaaGreat
open M
set_option linter.unusedVariables false
set_option linter.unusedSimpArgs false

/-- The flights of a list, by their numbers. -/
def flOf (xs : List FR) : Nat → Option (Pla × List Sea) := fun n => (xs.find? (fun x => x.f.num == (n : Int))).map fun x => (x.f.pla.at x.f.ep, x.f.seats)

theorem tickX_at (nw : Int) (x : FR) : ((tickX nw x).f.pla.at (tickX nw x).f.ep, (tickX nw x).f.seats) = tickF nw (x.f.pla.at x.f.ep, x.f.seats) := by
  unfold tickF tickX tickP anyDue
  simp only
  cases x.f.seats.any (due nw) <;> rfl
theorem flOf_tick (xs : List FR) (nw : Int) (n : Nat) : flOf (xs.map (tickX nw)) n = (flOf xs n).map (tickF nw) := by
  unfold flOf
  induction xs with
  | nil => rfl
  | cons x xs ih =>
    simp only [List.map_cons, List.find?_cons]
    have e : (tickX nw x).f.num = x.f.num := rfl
    rw [e]
    cases h : (x.f.num == (n : Int)) with
    | true =>
      simp only [Option.map_some]
      rw [tickX_at]
    | false => exact ih

theorem findN_cases (xs : List FR) (n : Int) : findN xs n = -1 ∨ ∃ i, ∃ hi : i < xs.length, findN xs n = i ∧ xs[i].f.num = n := by
  unfold findN
  cases h : xs.findIdx? (fun x => x.f.num == n) with
  | none => exact .inl rfl
  | some i =>
    obtain ⟨hi, h1, _⟩ := List.findIdx?_eq_some_iff_getElem.1 h
    exact .inr ⟨i, hi, rfl, by simpa using h1⟩

theorem flOf_none (xs : List FR) (n : Nat) (h : findN xs n = -1) : flOf xs n = none := by
  unfold findN at h
  cases h2 : xs.findIdx? (fun x => x.f.num == (n : Int)) with
  | none =>
    rw [List.findIdx?_eq_none_iff] at h2
    unfold flOf
    rw [List.find?_eq_none.2 (fun x hx => by have := h2 x hx; simpa using this)]
    rfl
  | some i => rw [h2] at h; simp only at h; omega

theorem flOf_some (xs : List FR) (n i : Nat) (hi : i < xs.length) (h : findN xs n = i) : flOf xs n = some (xs[i].f.pla.at xs[i].f.ep, xs[i].f.seats) := by
  unfold findN at h
  cases h2 : xs.findIdx? (fun x => x.f.num == (n : Int)) with
  | none => rw [h2] at h; simp only at h; omega
  | some j =>
    rw [h2] at h
    have e : j = i := by simp only at h; omega
    subst e
    obtain ⟨_, h3, h4⟩ := List.findIdx?_eq_some_iff_getElem.1 h2
    unfold flOf
    have hf : xs.find? (fun x => x.f.num == (n : Int)) = some xs[j] := List.find?_eq_some_iff_getElem.2 ⟨h3, j, hi, rfl, fun k hk => by simpa using h4 k hk⟩
    rw [hf]
    rfl

/-- One flight's seats (and epoch) turned: the others are as they were. -/
theorem flOf_set (xs : List FR) (n i : Nat) (hi : i < xs.length) (h : findN xs n = i) (x : FR) (hx : x.f.num = xs[i].f.num) (j : Nat) : flOf (xs.set i x) j = if j = n then some (x.f.pla.at x.f.ep, x.f.seats) else flOf xs j := by
  have hn : xs[i].f.num = (n : Int) := by
    rcases findN_cases xs n with h1 | ⟨k, hk, h1, h2⟩
    · omega
    · have : k = i := by omega
      subst this
      exact h2
  have key : ∀ (ys : List FR) (k : Nat) (hk : k < ys.length), ys[k].f.num = (n : Int) → (∀ q, ∀ hq : q < ys.length, q < k → ys[q].f.num ≠ (n : Int)) → x.f.num = (n : Int) → flOf (ys.set k x) j = if j = n then some (x.f.pla.at x.f.ep, x.f.seats) else flOf ys j := by
    intro ys
    induction ys with
    | nil => intro k hk; exact absurd hk (Nat.not_lt_zero _)
    | cons y ys ih =>
      intro k hk h1 h2 h3
      cases k with
      | zero =>
        simp only [List.getElem_cons_zero] at h1
        unfold flOf
        simp only [List.set_cons_zero, List.find?_cons]
        by_cases e : j = n
        · subst e
          simp [h3]
        · have e1 : (x.f.num == (j : Int)) = false := by rw [h3]; simp; omega
          have e2 : (y.f.num == (j : Int)) = false := by rw [h1]; simp; omega
          rw [e1, e2, if_neg e]
      | succ k =>
        have h4 := h2 0 (by simp) (by omega)
        simp only [List.getElem_cons_zero] at h4
        have ih2 := ih k (by simpa using hk) (by simpa using h1) (fun q hq hqk => by have := h2 (q + 1) (by simpa using hq) (by omega); simpa using this) h3
        unfold flOf at ih2 ⊢
        simp only [List.set_cons_succ, List.find?_cons]
        cases hy : (y.f.num == (j : Int)) with
        | true =>
          have : j ≠ n := fun e => by subst e; exact h4 (by simpa using hy)
          simp [this]
        | false => exact ih2
  refine key xs i hi hn (fun q hq hqi e => ?_) (by rw [hx]; exact hn)
  unfold findN at h
  cases h2 : xs.findIdx? (fun x => x.f.num == (n : Int)) with
  | none => rw [h2] at h; simp only at h; omega
  | some k =>
    rw [h2] at h
    have e2 : k = i := by simp only at h; omega
    subst e2
    obtain ⟨_, _, h4⟩ := List.findIdx?_eq_some_iff_getElem.1 h2
    have := h4 q hqi
    simp [e] at this
end Go.Proofs.YthhibagcpjeihaaGreat
/- The document's world and the keeper's flights: the same flights. -/
namespace Go.Proofs.YthhibagcpjeihaaGreat
open Go.RowKit
open M
set_option linter.unusedVariables false
set_option linter.unusedSimpArgs false

/-- The same flights, in the order of their numbers. -/
structure Same (xs : List FR) (fl : Nat → Option (Pla × List Sea)) : Prop where
  sort : xs.Pairwise (fun x y => x.f.num < y.f.num)
  rng : ∀ x ∈ xs, 1 ≤ x.f.num ∧ x.f.num ≤ 20
  eq : ∀ n, n < 21 → fl n = flOf xs n

theorem sorted_len : ∀ (xs : List FR) (lo : Int), xs.Pairwise (fun x y => x.f.num < y.f.num) → (∀ x ∈ xs, lo < x.f.num ∧ x.f.num ≤ 20) → lo ≤ 20 → (xs.length : Int) ≤ 20 - lo
  | [], lo, _, _, h => by simp; omega
  | x :: xs, lo, hp, hr, h => by
    have hp := List.pairwise_cons.1 hp
    have hx := hr x (by simp)
    have := sorted_len xs x.f.num hp.2 (fun y hy => ⟨hp.1 y hy, (hr y (by simp [hy])).2⟩) hx.2
    simp only [List.length_cons]
    omega

theorem Same.find {xs : List FR} {fl : Nat → Option (Pla × List Sea)} (h : Same xs fl) (c : Int) (hc : 1 ≤ c ∧ c ≤ 20) :
    (findN xs c = -1 ∧ fl c.toNat = none) ∨ ∃ i, ∃ hi : i < xs.length, findN xs c = i ∧ xs[i].f.num = c ∧ fl c.toNat = some (xs[i].f.pla.at xs[i].f.ep, xs[i].f.seats) := by
  have hn : ((c.toNat : Nat) : Int) = c := by omega
  rcases findN_cases xs c with h1 | ⟨i, hi, h1, h2⟩
  · refine .inl ⟨h1, ?_⟩
    rw [h.eq _ (by omega)]
    exact flOf_none xs _ (by rw [hn]; exact h1)
  · refine .inr ⟨i, hi, h1, h2, ?_⟩
    rw [h.eq _ (by omega)]
    exact flOf_some xs _ i hi (by rw [hn]; exact h1)

/-- Time has passed. -/
theorem Same.tick {xs : List FR} {fl : Nat → Option (Pla × List Sea)} (h : Same xs fl) (nw : Int) : Same (xs.map (tickX nw)) (fun n => (fl n).map (tickF nw)) := by
  refine ⟨List.pairwise_map.2 h.sort, fun x hx => ?_, fun n hn => ?_⟩
  · obtain ⟨y, hy, rfl⟩ := List.mem_map.1 hx
    exact h.rng y hy
  · rw [flOf_tick]
    exact congrArg (Option.map (tickF nw)) (h.eq n hn)

/-- One flight is another. -/
theorem Same.set {xs : List FR} {fl : Nat → Option (Pla × List Sea)} (h : Same xs fl) (c : Int) (hc : 1 ≤ c ∧ c ≤ 20) (i : Nat) (hi : i < xs.length) (hf : findN xs c = i) (x : FR) (hx : x.f.num = xs[i].f.num) (y : Pla × List Sea) (hy : (x.f.pla.at x.f.ep, x.f.seats) = y) :
    Same (xs.set i x) (fun j => if j = c.toNat then some y else fl j) := by
  have hn : ((c.toNat : Nat) : Int) = c := by omega
  refine ⟨?_, fun z hz => ?_, fun n hn' => ?_⟩
  · rw [List.pairwise_iff_getElem]
    intro a b ha hb hab
    have ha' : a < xs.length := by simpa using ha
    have hb' : b < xs.length := by simpa using hb
    have := (List.pairwise_iff_getElem.1 h.sort) a b ha' hb' hab
    rw [List.getElem_set, List.getElem_set]
    split
    · rename_i e1
      subst e1
      rw [if_neg (by omega), hx]
      exact this
    · split
      · rename_i e2
        subst e2
        rw [hx]
        exact this
      · exact this
  · obtain ⟨a, ha, rfl⟩ := List.getElem_of_mem hz
    have ha' : a < xs.length := by simpa using ha
    rw [List.getElem_set]
    split
    · rw [hx]; exact h.rng _ (List.getElem_mem hi)
    · exact h.rng _ (List.getElem_mem ha')
  · rw [flOf_set xs c.toNat i hi (by rw [hn]; exact hf) x hx n, hy]
    by_cases e : n = c.toNat
    · rw [if_pos e, if_pos e]
    · rw [if_neg e, if_neg e, h.eq n hn']

theorem flOf_ins (xs : List FR) (x : FR) (n : Nat) (c : Nat) (hx : x.f.num = (c : Int)) (hno : ∀ y ∈ xs, y.f.num ≠ (c : Int)) (j : Nat) :
    flOf (xs.take n ++ x :: xs.drop n) j = if j = c then some (x.f.pla.at x.f.ep, x.f.seats) else flOf xs j := by
  unfold flOf
  rw [List.find?_append, List.find?_cons]
  by_cases e : j = c
  · subst e
    rw [if_pos rfl]
    have h1 : (xs.take n).find? (fun y => y.f.num == (j : Int)) = none := List.find?_eq_none.2 (fun y hy => by have := hno y (List.mem_of_mem_take hy); simpa using this)
    rw [h1]
    simp [hx]
  · rw [if_neg e]
    have e1 : (x.f.num == (j : Int)) = false := by rw [hx]; simp; omega
    rw [e1]
    have : xs.find? (fun y => y.f.num == (j : Int)) = ((xs.take n).find? (fun y => y.f.num == (j : Int))).or ((xs.drop n).find? (fun y => y.f.num == (j : Int))) := by
      rw [← List.find?_append, List.take_append_drop]
    rw [this]

theorem findN_miss {xs : List FR} {c : Int} (h : findN xs c = -1) : ∀ y ∈ xs, y.f.num ≠ c := by
  intro y hy e
  unfold findN at h
  cases h2 : xs.findIdx? (fun x => x.f.num == c) with
  | none =>
    rw [List.findIdx?_eq_none_iff] at h2
    have := h2 y hy
    simp [e] at this
  | some i => rw [h2] at h; simp only at h; omega

/-- A flight more. -/
theorem Same.insert {xs : List FR} {fl : Nat → Option (Pla × List Sea)} (h : Same xs fl) (c : Int) (hc : 1 ≤ c ∧ c ≤ 20) (hf : findN xs c = -1) (n : Nat) (hn : n ≤ xs.length) (hlo : ∀ j (hj : j < xs.length), j < n → xs[j].f.num < c) (hhi : ∀ hj : n < xs.length, ¬ xs[n].f.num < c) (x : FR) (hx : x.f.num = c) (y : Pla × List Sea) (hy : (x.f.pla.at x.f.ep, x.f.seats) = y) :
    Same (xs.take n ++ x :: xs.drop n) (fun j => if j = c.toNat then some y else fl j) ∧ xs.length < 20 := by
  have hno := findN_miss hf
  have hcn : ((c.toNat : Nat) : Int) = c := by omega
  have hs : (xs.take n ++ x :: xs.drop n).Pairwise (fun x y => x.f.num < y.f.num) := by
    have htl : ∀ a ∈ xs.take n, a.f.num < c := fun a ha => by
      obtain ⟨j, hj, rfl⟩ := List.getElem_of_mem ha
      have hj' : j < n ∧ j < xs.length := by rw [List.length_take] at hj; omega
      rw [List.getElem_take]
      exact hlo j hj'.2 hj'.1
    have hdr : ∀ b ∈ xs.drop n, c < b.f.num := fun b hb => by
      obtain ⟨j, hj, rfl⟩ := List.getElem_of_mem hb
      have hj' : n + j < xs.length := by rw [List.length_drop] at hj; omega
      rw [List.getElem_drop]
      have h1 := hhi (by omega)
      have h2 := hno _ (List.getElem_mem (show n < xs.length by omega))
      rcases Nat.eq_zero_or_pos j with e | e
      · subst e; simp only [Nat.add_zero]; omega
      · have := (List.pairwise_iff_getElem.1 h.sort) n (n + j) (by omega) hj' (by omega)
        omega
    refine List.pairwise_append.2 ⟨h.sort.sublist (List.take_sublist n xs), List.pairwise_cons.2 ⟨fun b hb => by rw [hx]; exact hdr b hb, h.sort.sublist (List.drop_sublist n xs)⟩, fun a ha b hb => ?_⟩
    rcases List.mem_cons.1 hb with rfl | hb
    · rw [hx]; exact htl a ha
    · have := htl a ha
      have := hdr b hb
      omega
  have hr : ∀ z ∈ xs.take n ++ x :: xs.drop n, 1 ≤ z.f.num ∧ z.f.num ≤ 20 := fun z hz => by
    rcases List.mem_append.1 hz with hz | hz
    · exact h.rng z (List.mem_of_mem_take hz)
    · rcases List.mem_cons.1 hz with rfl | hz
      · rw [hx]; exact hc
      · exact h.rng z (List.mem_of_mem_drop hz)
  refine ⟨⟨hs, hr, fun j hj => ?_⟩, ?_⟩
  · rw [flOf_ins xs x n c.toNat (by rw [hcn]; exact hx) (by rw [hcn]; exact hno) j, hy]
    by_cases e : j = c.toNat
    · rw [if_pos e, if_pos e]
    · rw [if_neg e, if_neg e, h.eq j hj]
  · have := sorted_len _ 0 hs (fun z hz => ⟨by have := hr z hz; omega, (hr z hz).2⟩) (by omega)
    simp at this
    omega
end Go.Proofs.YthhibagcpjeihaaGreat
