import Derived.Test.YthhibagcpjeihaaGreatIRef19ToRef23
import Derived.Deep.CutBlock
import Derived.Test.YthhibagcpjeihaaGreatIRef13ToRef15
import Derived.Test.YthhibagcpjeihaaGreatIRef16ToSwap1
namespace Go.Proofs.YthhibagcpjeihaaGreat
open Go.RowKit
open M
set_option linter.unusedVariables false
set_option linter.unusedSimpArgs false
set_option maxRecDepth 100000
set_option maxHeartbeats 8000000
theorem step_call2 {P : Program} {ops : Array Oper} {o : Oper} {a : Act} {w : World} {K : Act → World → Prop} {Q : Exit → Act → World → Prop} {E : Prop}
  (hg : o.guard = none) (f : FuncId) (args : Array Operand) (tys : Array TypeId) (hop : o.op = Op.call { callee := Callee.value (Operand.func f), args := args, argTypes := tys })
  (vs : Array Value) (hvs : args.map a.eval = vs) (hcf : ∀ W, (callFunc f vs).run P W = .ok (.enter f vs) W) (R : Value → World → Prop) (hc : Calls P f vs w fun e w' => ∃ v, e = .returned v ∧ R v w')
  (hK : ∀ v w', R v w' → K (a.put o.dst v) w') : if Region.wanted o (yielded ops a.tmps) = true then Oper.wp P o a w K Q else E := by
 have hw : Region.wanted o (yielded ops a.tmps) = true := by simp [Region.wanted, hg]
 rw [if_pos hw]
 unfold Oper.wp execOp
 simp [go_sem, hop, hvs]
 rw [hcf]
 simp [go_sem]
 refine hc.mono ?_
 rintro e w' ⟨v, rfl, hr⟩
 exact hK _ _ hr
theorem stays_new {w : World} {v : Value} (h : Stays w (.slice none 0 0) v) : ∀ k, v.ownBlock = some k → No k ∨ w.heap.size ≤ k := fun k hk => by
 rcases h k hk with h | h
 ·simp [Value.ownBlock] at h
 ·exact .inr h
theorem stays_new2 {a w : World} {v v' : Value} (h : ∀ k, v.ownBlock = some k → No k ∨ a.heap.size ≤ k) (hm : a.heap.size ≤ w.heap.size) (hs : Stays w v v') : ∀ k, v'.ownBlock = some k → No k ∨ a.heap.size ≤ k := fun k hk => by
 rcases hs k hk with e | e
 ·exact h k e
 ·exact .inr (by omega)
structure AddedP (w w' : World) (ow : Nat → Nat) (wb : Nat) (xs : List FR) (now : Int) (num : Int) (p : Pla) : Prop where
 mod : Mod (fun k => k = wb) w w'
 ex : ∃ v' n g cap ow', n ≤ xs.length ∧ (∀ j (hj : j < xs.length), j < n → xs[j].f.num < num) ∧ (∀ hj : n < xs.length, ¬ xs[n].f.num < num) ∧ WorR w' ow' wb v' (xs.take n ++ addX num p g cap :: xs.drop n) now ∧ ∀ k, ow' k ≠ 0 → ow k ≠ 0 ∨ w.heap.size ≤ k
theorem added_end {w wc : World} {ow : Nat → Nat} {wb bb b0 g cap i : Nat} {v0 : Value} {xs : List FR} {now flight : Int} {pl : Pla} {cs : Array Value} (h : WorR w ow wb v0 xs now) (hI : AddI w wc flight pl cs bb b0 g cap) (hwf : Wf pl (emptySeats pl)) (hi : i ≤ xs.length) (h20 : xs.length < 20)
  (w7 : World) (v3 : Value) (hm : Mod No wc w7) (hv : ∀ k, v3.ownBlock = some k → No k ∨ wc.heap.size ≤ k) (n3 : Nat) (l3 : List Value) (hl : l3 = (xs.take i ++ addX flight pl g cap :: xs.drop i).flatMap friL) (hn : n3 = xs.length + 1) (ho : w7.ownsRow 0 134 10 v3 n3 l3) :
  Mod (fun k => k = wb) w (w7.setCell ⟨wb, 0, none⟩ v3) ∧ ∃ v' n g cap ow', n ≤ xs.length ∧ n = i ∧ WorR (w7.setCell ⟨wb, 0, none⟩ v3) ow' wb v' (xs.take n ++ addX flight pl g cap :: xs.drop n) now ∧ ∀ k, ow' k ≠ 0 → ow k ≠ 0 ∨ w.heap.size ≤ k := by
 subst hl hn
 have hlen : (xs.take i ++ addX flight pl g cap :: xs.drop i).length = xs.length + 1 := by simp; omega
 rw [← hlen] at ho
 have hW := hI.mod.trans hm
 have hM : Mod (fun k => k = wb) w (w7.setCell ⟨wb, 0, none⟩ v3) := (hW.mono (fun _ _ x => x.elim)).at 0 v3
 obtain ⟨gf, c', rfl⟩ : ∃ gf c', v3 = .slice (some ⟨gf, 0, none⟩) (xs.take i ++ addX flight pl g cap :: xs.drop i).length c' := by
  obtain ⟨_, h1 | ⟨g', cap', cur, hv', _⟩⟩ := ho
  ·rw [hlen] at h1; omega
  ·exact ⟨g', cap', hv'⟩
 have hr := (rowF_of ho).2
 have hgf : wc.heap.size ≤ gf := by
  rcases hv gf rfl with e | e
  ·exact e.elim
  ·exact e
 have hglt := hI.row.lt
 have hwlt := hI.mod.size
 have hb : wb < w.heap.size := h.has.lt
 have hng := hI.ng
 have hh := (hW.has h.has (fun x => x)).set 0 (.slice (some ⟨gf, 0, none⟩) (xs.take i ++ addX flight pl g cap :: xs.drop i).length c')
 have hx : Has (w7.setCell ⟨wb, 0, none⟩ (.slice (some ⟨gf, 0, none⟩) (xs.take i ++ addX flight pl g cap :: xs.drop i).length c')) wb #[.slice (some ⟨gf, 0, none⟩) (xs.length + 1) c', .int .i64 now] 72 := by
  rw [hlen] at hh ⊢
  exact hh
 have m7 : Mod (fun k => k = wb) w7 (w7.setCell ⟨wb, 0, none⟩ (.slice (some ⟨gf, 0, none⟩) (xs.take i ++ addX flight pl g cap :: xs.drop i).length c')) := (Mod.refl _ w7).at 0 _
 obtain ⟨ow', q1, q2⟩ := worR_insert h hM flight pl hi h20 hx (hr.mod m7 (by omega)) ((hI.row.mod hm (fun x => x)).mod m7 (by omega)) hng (by omega) (by omega) hwf
 exact ⟨hM, _, i, g, cap, ow', hi, rfl, q1, q2⟩
theorem added_row {w : World} {ow : Nat → Nat} {wb gf0 cap0 : Nat} {xs : List FR} {now : Int} (h : WorR w ow wb (.slice (some ⟨gf0, 0, none⟩) xs.length cap0) xs now) (hne : 0 < xs.length) (c : Cmd) (hf : findN xs c.flight = -1) (hp1 : c.pla.sized = true) (hp2 : c.pla.limited = true) (h20 : xs.length < 20) :
  Calls Tryz.prog 53 #[.pointer (some ⟨wb, 0, none⟩), .agg (cmdCells c)] w fun e w' => e = .returned (.int .i64 0) ∧ AddedP w w' ow wb xs now c.flight c.pla := by
 have HF := (h.mod ((Mod.refl No w).alloc (.cells (cmdCells c) 41)) (fun _ _ x => x)).find c.flight
 rw [hf] at HF
 have HF := hide HF
 have HS := hide fun W => rsized_any c.pla W
 have HL := hide fun W => rlimited_any c.pla W
 have HE := hide fun W => (show Calls Tryz.prog 84 #[plaV c.pla] W fun e w' => ∃ v, e = .returned v ∧ ∃ g cap, v = .slice (some ⟨g, 0, none⟩) (emptySeats c.pla).length cap ∧ RowS w' g cap (emptySeats c.pla) ∧ W.heap.size < g ∧ Mod No W w' from
  (rempty_any c.pla hp1 W).mono fun e w' ⟨g, cap, h1, h2⟩ => ⟨_, h1, g, cap, rfl, h2⟩)
 have HWF := hide (empty_wf hp1 hp2)
 have M0 := hide ((Mod.refl No w).alloc (.cells (cmdCells c) 41))
 have B0 := hide (Has.new w (cmdCells c) 41)
 rw [hp1] at HS
 rw [hp2] at HL
 obtain ⟨og, rf⟩ := h.parts rfl hne
 have RF := hide rf
 have H := hide h
 obtain ⟨kind, flight, ar, ac, tr, tc, party, cls, time, pl⟩ := c
 simp only at *
 clear h hf hp1 hp2 rf og
 unfold plaV at HS HL HE
 unfold cmdCells at *
 go_enter Tryz.func53, Tryz.ntmps53
 go_wp2_with fail
 refine (unhide HF).mono ?_
 rintro e w1 ⟨rfl, rfl⟩
 have hb := (unhide B0).cell
 have lb := (unhide B0).lt
 go_wp2_with fail
 refine ((unhide HS) _).mono ?_
 rintro e w2 ⟨rfl, m2⟩
 have hb2 := (m2.has (unhide B0) (fun x => x)).cell
 have lb2 := (m2.has (unhide B0) (fun x => x)).lt
 clear hb lb
 go_wp2_with fail
 refine ((unhide HL) _).mono ?_
 rintro e w3 ⟨rfl, m3⟩
 have M3 := hide (((unhide M0).trans m2).trans m3)
 have B3 := hide (m3.has (m2.has (unhide B0) (fun x => x)) (fun x => x))
 clear hb2 lb2 m2 m3 B0 M0 HF HS HL
 generalize w.heap.size = b0 at *
 have hb3 := (unhide B3).cell
 have lb3 := (unhide B3).lt
 go_upto_region 8 with fail
 go_cut [8] (fun s8 wx => ∃ bb g cap, s8 = .pointer (some ⟨bb, 0, none⟩) ∧ Hid (AddI w wx flight pl #[.int .i64 kind, .int .i64 flight, .int .i64 ar, .int .i64 ac, .int .i64 tr, .int .i64 tc, .int .i64 party, .int .i64 cls, .int .i64 time, .int .i64 pl.rows, .int .i64 pl.cols, .int .i64 pl.front, .int .i64 pl.l0, .int .i64 pl.l1, .int .i64 pl.l2, .int .i64 pl.l3] bb b0 g cap))
 case first =>
  have B3d := hide (unhide B3).drew
  have M3d := hide (unhide M3).drew
  have mz : Mod No w3 ((w3.alloc (.cells #[.int .i64 0, .int .i64 0, .int .i64 0, .int .i64 0, .int .i64 0, .int .i64 0, .int .i64 0, .int .i64 0, .slice none 0 0, .int .i64 0] 134)).drew) := ((Mod.refl _ w3).alloc _).drew
  have B3z := hide (mz.has (unhide B3) (fun x => x))
  have M3z := hide ((unhide M3).trans mz)
  have Z3z := hide (Has.new w3 #[.int .i64 0, .int .i64 0, .int .i64 0, .int .i64 0, .int .i64 0, .int .i64 0, .int .i64 0, .int .i64 0, .slice none 0 0, .int .i64 0] 134).drew
  have LZ := hide (show b0 ≤ w3.heap.size from Nat.le_of_lt lb3)
  clear mz
  go_region_law (first
   |(refine step_call2 rfl 84 _ _ rfl #[.agg #[.int .i64 pl.rows, .int .i64 pl.cols, .int .i64 pl.front, .int .i64 pl.l0, .int .i64 pl.l1, .int .i64 pl.l2, .int .i64 pl.l3]] (by simp [Act.eval, Act.put]) (fun W => by kernel_rfl) _ ((unhide HE) w3.drew) ?_; rintro v5 w5 ⟨g5, cap5, rfl, h5, z5, m5⟩; have hb5 := (m5.has (unhide B3d) (fun x => x)).cell; have lb5 := (m5.has (unhide B3d) (fun x => x)).lt)
   |(refine step_call2 rfl 84 _ _ rfl #[.agg #[.int .i64 pl.rows, .int .i64 pl.cols, .int .i64 pl.front, .int .i64 pl.l0, .int .i64 pl.l1, .int .i64 pl.l2, .int .i64 pl.l3]] (by simp [Act.eval, Act.put]) (fun W => by kernel_rfl) _ ((unhide HE) _) ?_; rintro v5 w5 ⟨g5, cap5, rfl, h5, z5, m5⟩; have hb5 := (m5.has (unhide B3z) (fun x => x)).cell; have lb5 := (m5.has (unhide B3z) (fun x => x)).lt; have zb5 := (m5.has (unhide Z3z) (fun x => x)).cell; have zf5 := (m5.has (unhide Z3z) (fun x => x)).frozen; have zl5 := (m5.has (unhide Z3z) (fun x => x)).lt))
  all_goals go_wp2
  all_goals go_meet
  all_goals first
   | with_reducible exact ⟨_, g5, cap5, rfl, hide (AddI.made (unhide M3d) m5 (unhide B3d) h5 z5)⟩
   | with_reducible exact ⟨_, g5, cap5, rfl, hide (AddI.made2 (unhide M3z) m5 (unhide B3z) (unhide Z3z) (unhide M3).size h5 z5)⟩
 case rest =>
  obtain ⟨bb, g, cap, rfl, I1⟩ := hcut
  obtain ⟨i126, r0, r1, r2, r3⟩ := info_parts info157
  clear B3 M3 HE hb3 lb3
  apply_assumption
  go_upto_block 0 with fail
  go_cut [9] (fun s9 wx => ∃ i : Nat, s9 = .int .i64 i ∧ i ≤ xs.length ∧ Hid (∀ j (hj : j < xs.length), j < i → xs[j].f.num < flight) ∧ Hid (∀ hj : i < xs.length, ¬ xs[i].f.num < flight) ∧ Hid (AddI w wx flight pl #[.int .i64 kind, .int .i64 flight, .int .i64 ar, .int .i64 ac, .int .i64 tr, .int .i64 tc, .int .i64 party, .int .i64 cls, .int .i64 time, .int .i64 pl.rows, .int .i64 pl.cols, .int .i64 pl.front, .int .i64 pl.l0, .int .i64 pl.l1, .int .i64 pl.l2, .int .i64 pl.l3] bb b0 g cap))
  case first =>
   go_wp2_with fail
   go_loopw [9] (fun s9 wr => ∃ i : Nat, s9 = .int .i64 i ∧ i ≤ xs.length ∧ Hid (∀ j (hj : j < xs.length), j < i → xs[j].f.num < flight) ∧ Hid (AddI w wr flight pl #[.int .i64 kind, .int .i64 flight, .int .i64 ar, .int .i64 ac, .int .i64 tr, .int .i64 tc, .int .i64 party, .int .i64 cls, .int .i64 time, .int .i64 pl.rows, .int .i64 pl.cols, .int .i64 pl.front, .int .i64 pl.l0, .int .i64 pl.l1, .int .i64 pl.l2, .int .i64 pl.l3] bb b0 g cap)) (fun s9 _ => xs.length - (intOf s9).toNat)
   case atStart => exact ⟨0, rfl, by omega, fun j hj h => absurd h (Nat.not_lt_zero _), I1⟩
   case round =>
    obtain ⟨i, rfl, hi, HLO, I2⟩ := hrel
    clear I1
    have vb : wr.cell? ⟨wb, 0, none⟩ = some (.slice (some ⟨gf0, 0, none⟩) xs.length cap0) := ((unhide I2).mod.has (unhide H).has (fun x => x)).cell 0
    have cb : wr.cell? ⟨b0, 1, none⟩ = some (.int .i64 flight) := (unhide I2).cmd.cell 1
    have cl := (unhide I2).cmd.lt
    have vl := ((unhide I2).mod.has (unhide H).has (fun x => x)).lt
    have h0i : (0 : Int) ≤ i := by omega
    by_cases hix : i < xs.length
    ·have hixi : (i : Int) < (xs.length : Int) := by omega
     have hd0 : decide ((i : Int) < (xs.length : Int)) = true := by simpa using hixi
     have hi1 : IntKind.i64.wrap ((i : Int) + 1) = ((i + 1 : Nat) : Int) := by rw [wrap_id _ (by omega) (by omega)]; rfl
     have rf1 := (unhide RF).mod (unhide I2).mod (fun x => x)
     have g0 : wr.cell? ⟨gf0, i * 10, none⟩ = some (.int .i64 xs[i].f.num) := rf1.cell i hix 0 (by omega)
     by_cases hlt : xs[i].f.num < flight
     ·have hd1 : decide (xs[i].f.num < flight) = true := by simpa using hlt
      have HLO2 := hide (show ∀ j (hj : j < xs.length), j < i + 1 → xs[j].f.num < flight from fun j hj hji => by
       by_cases e : j = i
       ·subst e; exact hlt
       ·exact (unhide HLO) j hj (by omega))
      clear rf1 HLO
      go_wp2_with fail
      go_quiet (fail)
      go_wp2
      exact ⟨⟨i + 1, rfl, by omega, HLO2, (unhide I2).still ((Mod.refl No _).drewN _)⟩, by simp [intOf]; omega⟩
     ·have hd1 : decide (xs[i].f.num < flight) = false := by simpa using hlt
      have HHI := hide (show ∀ hj : i < xs.length, ¬ xs[i].f.num < flight from fun _ => hlt)
      clear rf1
      go_wp2_with fail
      go_quiet (fail)
      go_wp2
      go_meet
      exact ⟨i, rfl, by omega, HLO, HHI, (unhide I2).still ((Mod.refl No _).drewN _)⟩
    ·have hixi : ¬ (i : Int) < (xs.length : Int) := by omega
     have hd0 : decide ((i : Int) < (xs.length : Int)) = false := by simpa using hixi
     have HHI := hide (show ∀ hj : i < xs.length, ¬ xs[i].f.num < flight from fun hj => absurd hj hix)
     go_wp2_with fail
     go_quiet (fail)
     go_wp2
     go_meet
     exact ⟨i, rfl, by omega, HLO, HHI, (unhide I2).still ((Mod.refl No _).drewN _)⟩
  case rest =>
   obtain ⟨i, rfl, hi, HLO, HHI, I2⟩ := hcut
   have vb := ((unhide I2).mod.has (unhide H).has (fun x => x)).cell 0
   have vl := ((unhide I2).mod.has (unhide H).has (fun x => x)).lt
   have h0i : (0 : Int) ≤ i := by omega
   have hii : (i : Int) ≤ (xs.length : Int) := by omega
   have hcap := (unhide RF).le
   have hic : (i : Int) ≤ (cap0 : Int) := by omega
   have hicn : i ≤ cap0 := by omega
   clear I1
   have I3 := I2
   have RFW := hide ((unhide RF).mod (unhide I2).mod (fun x => x))
   go_upto_region 13 with fail
   have HREAD := hide (reads_take (unhide RFW) i hi cap0)
   have HONE := hide (friL_one (xs.take i))
   have HLEN := hide (show ((xs.take i).flatMap friL).length = i * 10 from by rw [flat_len 10 friL friL_len, List.length_take, Nat.min_eq_left hi])
   have HX1 := hide (show ∀ u ∈ friL (addX flight pl g cap), u.oneCell' = true from fun u hu => friL_one [addX flight pl g cap] u (by simpa using hu))
   go_upto_region 15 with (first
    |(at_builtin; refine wpList_append_row rfl (.tmp 59) (.tmp 65) 70 rfl 134 i126 _ 10 96 Tryz.underlying70 r0 r1 r2 r3 rfl (by decide) (.slice none 0 0) 0 [] (by simp [Act.eval]) (by exact World.ownsRow_nil _ _ _ _) (.slice (some ⟨gf0, 0, none⟩) i cap0) i ((xs.take i).flatMap friL) (by simp [Act.eval]) (by exact unhide HREAD) (unhide HLEN) (unhide HONE) (by unfold maxLen; omega) (by omega) ?_; intro v1 w4 ho4 hg4 hs4;
      rw [Nat.zero_add, List.nil_append] at ho4; have HO4 := hide ho4; have HS4 := hide hs4; have M4 := hide ((Mod.refl No _).grown hg4 (by simp [Value.ownBlock])); clear ho4 hg4 hs4; have I4 := hide ((unhide I3).still (unhide M4)); have bx4 := (unhide I4).box.cell; have bl4 := (unhide I4).box.lt; unfold friV addX at bx4; have m5 : Mod No w4 (w4.alloc (.cells (friV (addX flight pl g cap)) 134)) := (Mod.refl _ _).alloc _; have HO5 := hide (m5.owns (unhide HO4) (fun _ _ x => x)); have HR5 := hide (reads_fr w4 134 (addX flight pl g cap)); clear m5 I4)
    |(at_builtin; refine wpList_append_row rfl (.tmp 67) (.tmp 69) 70 rfl 134 i126 _ 10 96 Tryz.underlying70 r0 r1 r2 r3 rfl (by decide) v1 i ((xs.take i).flatMap friL) (by simp [Act.eval]) (by exact unhide HO5) (.slice (some ⟨w4.heap.size, 0, none⟩) 1 1) 1 (friL (addX flight pl g cap)) (by simp [Act.eval]) (by exact unhide HR5) rfl (unhide HX1) (by unfold maxLen; omega) (by omega) ?_; intro v2 w6 ho6 hg6 hs6;
      clear bx4 bl4; obtain ⟨a2, c2, rfl⟩ := slice_of_owns ho6; have HO6 := hide ho6; have HS6 := hide hs6; have M6 := hide (((unhide M4).alloc _).grown hg6 (stays_new (unhide HS4))); clear ho6 hg6 hs6; have W6 := (unhide I3).mod.trans (unhide M6); have vb6 : w6.cell? ⟨wb, 0, none⟩ = some (.slice (some ⟨gf0, 0, none⟩) xs.length cap0) := (W6.has (unhide H).has (fun x => x)).cell 0; have vf6 := (W6.has (unhide H).has (fun x => x)).frozen; have vl6 := (W6.has (unhide H).has (fun x => x)).lt; have HR6 := hide (reads_drop ((unhide RF).mod W6 (fun x => x)) i hi (cap0 - i)); clear W6))
   have HONE2 := hide (friL_one (xs.drop i))
   have HLEN2 := hide (show ((xs.drop i).flatMap friL).length = (xs.length - i) * 10 from by rw [flat_len 10 friL friL_len, List.length_drop])
   have SN6 := hide (stays_new2 (stays_new (unhide HS4)) (by have := (unhide M4).size; simp; omega) (unhide HS6))
   have FIN := hide (added_end (xs := xs) (now := now) (ow := ow) (i := i) (unhide H) (unhide I3) (unhide HWF) hi h20)
   by_cases hci : cap0 = i
   ·have HR7 := hide (reads_drop0 (w := w6) (gf := gf0) (xs := xs) i (by omega) 0)
    go_wp2_with (at_builtin; refine wpList_append_row rfl (.tmp 72) (.tmp 78) 70 rfl 134 i126 _ 10 96 Tryz.underlying70 r0 r1 r2 r3 rfl (by decide) (.slice a2 (i + 1) c2) (i + 1) ((xs.take i).flatMap friL ++ friL (addX flight pl g cap)) (by simp [Act.eval]) (by exact unhide HO6) (.slice (some ⟨gf0, 0, none⟩) (xs.length - i) 0) (xs.length - i) ((xs.drop i).flatMap friL) (by simp [Act.eval]) (by exact unhide HR7) (unhide HLEN2) (unhide HONE2) (by unfold maxLen; omega) (by omega) ?_; intro v3 w7 ho7 hg7 hs7; obtain ⟨a3, c3, rfl⟩ := slice_of_owns ho7; have HO7 := hide ho7; have HS7 := hide hs7; have M7 := hide ((unhide M6).grown hg7 (unhide SN6)); clear ho7 hg7 hs7 vb6 vf6 vl6; have hw7 := ((unhide I3).mod.trans (unhide M7)).has (unhide H).has (fun x => x); have vb7 := hw7.cell 0; have vf7 := hw7.frozen; have vl7 := hw7.lt; clear hw7)
    go_ret
    obtain ⟨q1, v', n', g', cap', ow', q2, rfl, q3, q4⟩ := (unhide FIN) w7 _ (unhide M7) (stays_new2 (unhide SN6) (unhide M6).size (unhide HS7)) _ _ (by simp) (by omega) (unhide HO7)
    exact ⟨rfl, ⟨q1, v', n', g', cap', ow', q2, unhide HLO, fun hj => by have := unhide HHI hj; omega, q3, q4⟩⟩
   ·go_wp2_with (at_builtin; refine wpList_append_row rfl (.tmp 72) (.tmp 78) 70 rfl 134 i126 _ 10 96 Tryz.underlying70 r0 r1 r2 r3 rfl (by decide) (.slice a2 (i + 1) c2) (i + 1) ((xs.take i).flatMap friL ++ friL (addX flight pl g cap)) (by simp [Act.eval]) (by exact unhide HO6) (.slice (some ⟨gf0, i * 10, none⟩) (xs.length - i) (cap0 - i)) (xs.length - i) ((xs.drop i).flatMap friL) (by simp [Act.eval]) (by exact unhide HR6) (unhide HLEN2) (unhide HONE2) (by unfold maxLen; omega) (by omega) ?_; intro v3 w7 ho7 hg7 hs7; obtain ⟨a3, c3, rfl⟩ := slice_of_owns ho7; have HO7 := hide ho7; have HS7 := hide hs7; have M7 := hide ((unhide M6).grown hg7 (unhide SN6)); clear ho7 hg7 hs7 vb6 vf6 vl6; have hw7 := ((unhide I3).mod.trans (unhide M7)).has (unhide H).has (fun x => x); have vb7 := hw7.cell 0; have vf7 := hw7.frozen; have vl7 := hw7.lt; clear hw7)
    go_ret
    obtain ⟨q1, v', n', g', cap', ow', q2, rfl, q3, q4⟩ := (unhide FIN) w7 _ (unhide M7) (stays_new2 (unhide SN6) (unhide M6).size (unhide HS7)) _ _ (by simp) (by omega) (unhide HO7)
    exact ⟨rfl, ⟨q1, v', n', g', cap', ow', q2, unhide HLO, fun hj => by have := unhide HHI hj; omega, q3, q4⟩⟩
theorem added_nil {w : World} {ow : Nat → Nat} {wb : Nat} {now : Int} (h : WorR w ow wb (.slice none 0 0) [] now) (c : Cmd) (hf : findN [] c.flight = -1) (hp1 : c.pla.sized = true) (hp2 : c.pla.limited = true) :
  Calls Tryz.prog 53 #[.pointer (some ⟨wb, 0, none⟩), .agg (cmdCells c)] w fun e w' => e = .returned (.int .i64 0) ∧ AddedP w w' ow wb [] now c.flight c.pla := by
 have HF := (h.mod ((Mod.refl No w).alloc (.cells (cmdCells c) 41)) (fun _ _ x => x)).find c.flight
 rw [hf] at HF
 have HF := hide HF
 have HS := hide fun W => rsized_any c.pla W
 have HL := hide fun W => rlimited_any c.pla W
 have HE := hide fun W => (show Calls Tryz.prog 84 #[plaV c.pla] W fun e w' => ∃ v, e = .returned v ∧ ∃ g cap, v = .slice (some ⟨g, 0, none⟩) (emptySeats c.pla).length cap ∧ RowS w' g cap (emptySeats c.pla) ∧ W.heap.size < g ∧ Mod No W w' from
  (rempty_any c.pla hp1 W).mono fun e w' ⟨g, cap, h1, h2⟩ => ⟨_, h1, g, cap, rfl, h2⟩)
 have HWF := hide (empty_wf hp1 hp2)
 have M0 := hide ((Mod.refl No w).alloc (.cells (cmdCells c) 41))
 have B0 := hide (Has.new w (cmdCells c) 41)
 rw [hp1] at HS
 rw [hp2] at HL
 have H := hide h
 obtain ⟨kind, flight, ar, ac, tr, tc, party, cls, time, pl⟩ := c
 simp only at *
 clear h hf hp1 hp2
 unfold plaV at HS HL HE
 unfold cmdCells at *
 go_enter Tryz.func53, Tryz.ntmps53
 go_wp2_with fail
 refine (unhide HF).mono ?_
 rintro e w1 ⟨rfl, rfl⟩
 have hb := (unhide B0).cell
 have lb := (unhide B0).lt
 go_wp2_with fail
 refine ((unhide HS) _).mono ?_
 rintro e w2 ⟨rfl, m2⟩
 have hb2 := (m2.has (unhide B0) (fun x => x)).cell
 have lb2 := (m2.has (unhide B0) (fun x => x)).lt
 clear hb lb
 go_wp2_with fail
 refine ((unhide HL) _).mono ?_
 rintro e w3 ⟨rfl, m3⟩
 have M3 := hide (((unhide M0).trans m2).trans m3)
 have B3 := hide (m3.has (m2.has (unhide B0) (fun x => x)) (fun x => x))
 clear hb2 lb2 m2 m3 B0 M0 HF HS HL
 generalize w.heap.size = b0 at *
 have hb3 := (unhide B3).cell
 have lb3 := (unhide B3).lt
 go_upto_region 8 with fail
 go_cut [8] (fun s8 wx => ∃ bb g cap, s8 = .pointer (some ⟨bb, 0, none⟩) ∧ Hid (AddI w wx flight pl #[.int .i64 kind, .int .i64 flight, .int .i64 ar, .int .i64 ac, .int .i64 tr, .int .i64 tc, .int .i64 party, .int .i64 cls, .int .i64 time, .int .i64 pl.rows, .int .i64 pl.cols, .int .i64 pl.front, .int .i64 pl.l0, .int .i64 pl.l1, .int .i64 pl.l2, .int .i64 pl.l3] bb b0 g cap))
 case first =>
  have B3d := hide (unhide B3).drew
  have M3d := hide (unhide M3).drew
  have mz : Mod No w3 ((w3.alloc (.cells #[.int .i64 0, .int .i64 0, .int .i64 0, .int .i64 0, .int .i64 0, .int .i64 0, .int .i64 0, .int .i64 0, .slice none 0 0, .int .i64 0] 134)).drew) := ((Mod.refl _ w3).alloc _).drew
  have B3z := hide (mz.has (unhide B3) (fun x => x))
  have M3z := hide ((unhide M3).trans mz)
  have Z3z := hide (Has.new w3 #[.int .i64 0, .int .i64 0, .int .i64 0, .int .i64 0, .int .i64 0, .int .i64 0, .int .i64 0, .int .i64 0, .slice none 0 0, .int .i64 0] 134).drew
  have LZ := hide (show b0 ≤ w3.heap.size from Nat.le_of_lt lb3)
  clear mz
  go_region_law (first
   |(refine step_call2 rfl 84 _ _ rfl #[.agg #[.int .i64 pl.rows, .int .i64 pl.cols, .int .i64 pl.front, .int .i64 pl.l0, .int .i64 pl.l1, .int .i64 pl.l2, .int .i64 pl.l3]] (by simp [Act.eval, Act.put]) (fun W => by kernel_rfl) _ ((unhide HE) w3.drew) ?_; rintro v5 w5 ⟨g5, cap5, rfl, h5, z5, m5⟩; have hb5 := (m5.has (unhide B3d) (fun x => x)).cell; have lb5 := (m5.has (unhide B3d) (fun x => x)).lt)
   |(refine step_call2 rfl 84 _ _ rfl #[.agg #[.int .i64 pl.rows, .int .i64 pl.cols, .int .i64 pl.front, .int .i64 pl.l0, .int .i64 pl.l1, .int .i64 pl.l2, .int .i64 pl.l3]] (by simp [Act.eval, Act.put]) (fun W => by kernel_rfl) _ ((unhide HE) _) ?_; rintro v5 w5 ⟨g5, cap5, rfl, h5, z5, m5⟩; have hb5 := (m5.has (unhide B3z) (fun x => x)).cell; have lb5 := (m5.has (unhide B3z) (fun x => x)).lt; have zb5 := (m5.has (unhide Z3z) (fun x => x)).cell; have zf5 := (m5.has (unhide Z3z) (fun x => x)).frozen; have zl5 := (m5.has (unhide Z3z) (fun x => x)).lt))
  all_goals go_wp2
  all_goals go_meet
  all_goals first
   | with_reducible exact ⟨_, g5, cap5, rfl, hide (AddI.made (unhide M3d) m5 (unhide B3d) h5 z5)⟩
   | with_reducible exact ⟨_, g5, cap5, rfl, hide (AddI.made2 (unhide M3z) m5 (unhide B3z) (unhide Z3z) (unhide M3).size h5 z5)⟩
 case rest =>
  obtain ⟨bb, g, cap, rfl, I1⟩ := hcut
  obtain ⟨i126, r0, r1, r2, r3⟩ := info_parts info157
  clear B3 M3 HE hb3 lb3
  apply_assumption
  go_upto_block 0 with fail
  go_cut [9] (fun s9 wx => s9 = .int .i64 0 ∧ Hid (AddI w wx flight pl #[.int .i64 kind, .int .i64 flight, .int .i64 ar, .int .i64 ac, .int .i64 tr, .int .i64 tc, .int .i64 party, .int .i64 cls, .int .i64 time, .int .i64 pl.rows, .int .i64 pl.cols, .int .i64 pl.front, .int .i64 pl.l0, .int .i64 pl.l1, .int .i64 pl.l2, .int .i64 pl.l3] bb b0 g cap))
  case first =>
   go_wp2_with fail
   go_loopw [9] (fun s9 wr => s9 = .int .i64 0 ∧ Hid (AddI w wr flight pl #[.int .i64 kind, .int .i64 flight, .int .i64 ar, .int .i64 ac, .int .i64 tr, .int .i64 tc, .int .i64 party, .int .i64 cls, .int .i64 time, .int .i64 pl.rows, .int .i64 pl.cols, .int .i64 pl.front, .int .i64 pl.l0, .int .i64 pl.l1, .int .i64 pl.l2, .int .i64 pl.l3] bb b0 g cap)) (fun _ _ => 0)
   case atStart => exact ⟨rfl, I1⟩
   case round =>
    obtain ⟨rfl, I2⟩ := hrel
    clear I1
    have vb : wr.cell? ⟨wb, 0, none⟩ = some (.slice none 0 0) := ((unhide I2).mod.has (unhide H).has (fun x => x)).cell 0
    have vl := ((unhide I2).mod.has (unhide H).has (fun x => x)).lt
    go_wp2_with fail
    go_quiet (fail)
    go_wp2
    go_meet
    exact ⟨rfl, (unhide I2).still ((Mod.refl No _).drewN _)⟩
  case rest =>
   obtain ⟨rfl, I2⟩ := hcut
   have vb := ((unhide I2).mod.has (unhide H).has (fun x => x)).cell 0
   have vl := ((unhide I2).mod.has (unhide H).has (fun x => x)).lt
   clear I1
   have I3 := I2
   go_upto_region 13 with fail
   have HREAD := hide (show ∀ W, Reads W (.slice none 0 0) 0 [] from fun W => .inl ⟨rfl, rfl⟩)
   have HNIL := hide (show ∀ u ∈ ([] : List Value), u.oneCell' = true from fun u hu => by simp at hu)
   have HX1 := hide (show ∀ u ∈ friL (addX flight pl g cap), u.oneCell' = true from fun u hu => friL_one [addX flight pl g cap] u (by simpa using hu))
   go_upto_region 15 with (first
    |(at_builtin; refine wpList_append_row rfl (.tmp 59) (.tmp 65) 70 rfl 134 i126 _ 10 96 Tryz.underlying70 r0 r1 r2 r3 rfl (by decide) (.slice none 0 0) 0 [] (by simp [Act.eval]) (by exact World.ownsRow_nil _ _ _ _) (.slice none 0 0) 0 [] (by simp [Act.eval]) (by exact (unhide HREAD) _) rfl (unhide HNIL) (by unfold maxLen; omega) (by omega) ?_; intro v1 w4 ho4 hg4 hs4;
      rw [Nat.zero_add, List.nil_append] at ho4; have HO4 := hide ho4; have HS4 := hide hs4; have M4 := hide ((Mod.refl No _).grown hg4 (by simp [Value.ownBlock])); clear ho4 hg4 hs4; have I4 := hide ((unhide I3).still (unhide M4)); have bx4 := (unhide I4).box.cell; have bl4 := (unhide I4).box.lt; unfold friV addX at bx4; have m5 : Mod No w4 (w4.alloc (.cells (friV (addX flight pl g cap)) 134)) := (Mod.refl _ _).alloc _; have HO5 := hide (m5.owns (unhide HO4) (fun _ _ x => x)); have HR5 := hide (reads_fr w4 134 (addX flight pl g cap)); clear m5 I4)
    |(at_builtin; refine wpList_append_row rfl (.tmp 67) (.tmp 69) 70 rfl 134 i126 _ 10 96 Tryz.underlying70 r0 r1 r2 r3 rfl (by decide) v1 0 [] (by simp [Act.eval]) (by exact unhide HO5) (.slice (some ⟨w4.heap.size, 0, none⟩) 1 1) 1 (friL (addX flight pl g cap)) (by simp [Act.eval]) (by exact unhide HR5) rfl (unhide HX1) (by unfold maxLen; omega) (by omega) ?_; intro v2 w6 ho6 hg6 hs6;
      clear bx4 bl4; obtain ⟨a2, c2, rfl⟩ := slice_of_owns ho6; have HO6 := hide ho6; have HS6 := hide hs6; have M6 := hide (((unhide M4).alloc _).grown hg6 (stays_new (unhide HS4))); clear ho6 hg6 hs6; have W6 := (unhide I3).mod.trans (unhide M6); have vb6 : w6.cell? ⟨wb, 0, none⟩ = some (.slice none 0 0) := (W6.has (unhide H).has (fun x => x)).cell 0; have vf6 := (W6.has (unhide H).has (fun x => x)).frozen; have vl6 := (W6.has (unhide H).has (fun x => x)).lt; clear W6))
   have SN6 := hide (stays_new2 (stays_new (unhide HS4)) (by have := (unhide M4).size; simp; omega) (unhide HS6))
   have FIN := hide (added_end (xs := []) (now := now) (ow := ow) (i := 0) (unhide H) (unhide I3) (unhide HWF) (Nat.le_refl _) (by simp))
   go_wp2_with (at_builtin; refine wpList_append_row rfl (.tmp 72) (.tmp 78) 70 rfl 134 i126 _ 10 96 Tryz.underlying70 r0 r1 r2 r3 rfl (by decide) (.slice a2 (0 + 1) c2) (0 + 1) ([] ++ friL (addX flight pl g cap)) (by simp [Act.eval]) (by exact unhide HO6) (.slice none 0 0) 0 [] (by simp [Act.eval]) (by exact (unhide HREAD) _) rfl (unhide HNIL) (by unfold maxLen; omega) (by omega) ?_; intro v3 w7 ho7 hg7 hs7; obtain ⟨a3, c3, rfl⟩ := slice_of_owns ho7; have HO7 := hide ho7; have HS7 := hide hs7; have M7 := hide ((unhide M6).grown hg7 (unhide SN6)); clear ho7 hg7 hs7 vb6 vf6 vl6; have hw7 := ((unhide I3).mod.trans (unhide M7)).has (unhide H).has (fun x => x); have vb7 := hw7.cell 0; have vf7 := hw7.frozen; have vl7 := hw7.lt; clear hw7)
   go_ret
   obtain ⟨q1, v', n', g', cap', ow', q2, rfl, q3, q4⟩ := (unhide FIN) w7 _ (unhide M7) (stays_new2 (unhide SN6) (unhide M6).size (unhide HS7)) _ _ (by simp) (by simp) (unhide HO7)
   exact ⟨rfl, ⟨q1, v', 0, g', cap', ow', q2, fun j hj => absurd hj (Nat.not_lt_zero _), fun hj => absurd hj (Nat.not_lt_zero _), q3, q4⟩⟩
theorem wdo_bad (wb : Nat) (c : Cmd) (w : World) (hk : c.kind < 1 ∨ c.kind > 9) :
  Calls Tryz.prog 27 #[.pointer (some ⟨wb, 0, none⟩), .agg (cmdCells c)] w fun e w' => e = .returned (.int .i64 1) ∧ Mod No w w' := by
 have M0 := hide ((Mod.refl No w).alloc (.cells (cmdCells c) 41))
 unfold cmdCells at *
 by_cases h1 : c.kind < 1
 ·clear hk
  go_enter Tryz.func27, Tryz.ntmps27
  go_wp2
  go_ret
  exact ⟨rfl, unhide M0⟩
 ·have h2 : c.kind > 9 := by omega
  clear hk
  go_enter Tryz.func27, Tryz.ntmps27
  go_wp2
  go_ret
  exact ⟨rfl, unhide M0⟩
theorem wdo_tick (wb : Nat) (flight ar ac tr tc party cls time : Int) (pl : Pla) (w : World) (er : Int) (P : World → Prop) (HT : ∀ W, Mod No w W → Calls Tryz.prog 51 #[.pointer (some ⟨wb, 0, none⟩), .int .i64 time] W fun e w' => e = .returned (.int .i64 er) ∧ P w') :
  Calls Tryz.prog 27 #[.pointer (some ⟨wb, 0, none⟩), .agg #[.int .i64 8, .int .i64 flight, .int .i64 ar, .int .i64 ac, .int .i64 tr, .int .i64 tc, .int .i64 party, .int .i64 cls, .int .i64 time, .int .i64 pl.rows, .int .i64 pl.cols, .int .i64 pl.front, .int .i64 pl.l0, .int .i64 pl.l1, .int .i64 pl.l2, .int .i64 pl.l3]] w fun e w' => e = .returned (.int .i64 er) ∧ P w' := by
 have M0 := hide ((Mod.refl No w).alloc (.cells #[.int .i64 8, .int .i64 flight, .int .i64 ar, .int .i64 ac, .int .i64 tr, .int .i64 tc, .int .i64 party, .int .i64 cls, .int .i64 time, .int .i64 pl.rows, .int .i64 pl.cols, .int .i64 pl.front, .int .i64 pl.l0, .int .i64 pl.l1, .int .i64 pl.l2, .int .i64 pl.l3] 41))
 have HT := hide HT
 go_enter Tryz.func27, Tryz.ntmps27
 go_wp2_with fail
 refine ((unhide HT) _ (unhide M0)).mono ?_
 rintro e w1 ⟨rfl, hp⟩
 have HP := hide hp
 clear hp
 go_wp2
 go_ret
 exact ⟨rfl, unhide HP⟩
theorem wdo_num (wb : Nat) (flight ar ac tr tc party cls time : Int) (pl : Pla) (w : World) (kind : Int) (hk : 1 ≤ kind ∧ kind ≤ 9 ∧ kind ≠ 8) (i : Int) (hf : ¬ (1 ≤ flight ∧ flight ≤ 20)) (HF : ∀ W, Mod No w W → Calls Tryz.prog 52 #[.pointer (some ⟨wb, 0, none⟩), .int .i64 flight] W fun e w' => e = .returned (.int .i64 i) ∧ w' = W) :
  Calls Tryz.prog 27 #[.pointer (some ⟨wb, 0, none⟩), .agg #[.int .i64 kind, .int .i64 flight, .int .i64 ar, .int .i64 ac, .int .i64 tr, .int .i64 tc, .int .i64 party, .int .i64 cls, .int .i64 time, .int .i64 pl.rows, .int .i64 pl.cols, .int .i64 pl.front, .int .i64 pl.l0, .int .i64 pl.l1, .int .i64 pl.l2, .int .i64 pl.l3]] w fun e w' => e = .returned (.int .i64 2) ∧ Mod No w w' := by
 have M0 := hide ((Mod.refl No w).alloc (.cells #[.int .i64 kind, .int .i64 flight, .int .i64 ar, .int .i64 ac, .int .i64 tr, .int .i64 tc, .int .i64 party, .int .i64 cls, .int .i64 time, .int .i64 pl.rows, .int .i64 pl.cols, .int .i64 pl.front, .int .i64 pl.l0, .int .i64 pl.l1, .int .i64 pl.l2, .int .i64 pl.l3] 41))
 have HF := hide HF
 have k1 : ¬ kind < 1 := by omega
 have k2 : ¬ kind > 9 := by omega
 have k3 : (kind == 8) = false := by simp; omega
 obtain ⟨_, _, hk8⟩ := hk
 by_cases f1 : flight < 1
 ·clear hf
  go_enter Tryz.func27, Tryz.ntmps27
  go_wp2_with fail
  refine ((unhide HF) _ (unhide M0)).mono ?_
  rintro e w1 ⟨rfl, rfl⟩
  go_wp2
  go_ret
  exact ⟨rfl, unhide M0⟩
 ·have f2 : flight > 20 := by omega
  clear hf
  go_enter Tryz.func27, Tryz.ntmps27
  go_wp2_with fail
  refine ((unhide HF) _ (unhide M0)).mono ?_
  rintro e w1 ⟨rfl, rfl⟩
  go_wp2
  go_ret
  exact ⟨rfl, unhide M0⟩
theorem wdo_miss (wb : Nat) (flight ar ac tr tc party cls time : Int) (pl : Pla) (w : World) (kind : Int) (hk : 1 ≤ kind ∧ kind ≤ 9 ∧ kind ≠ 8) (i : Int) (hf : 1 ≤ flight ∧ flight ≤ 20) (hi : i < 0) (hk1 : kind ≠ 1) (HF : ∀ W, Mod No w W → Calls Tryz.prog 52 #[.pointer (some ⟨wb, 0, none⟩), .int .i64 flight] W fun e w' => e = .returned (.int .i64 i) ∧ w' = W) :
  Calls Tryz.prog 27 #[.pointer (some ⟨wb, 0, none⟩), .agg #[.int .i64 kind, .int .i64 flight, .int .i64 ar, .int .i64 ac, .int .i64 tr, .int .i64 tc, .int .i64 party, .int .i64 cls, .int .i64 time, .int .i64 pl.rows, .int .i64 pl.cols, .int .i64 pl.front, .int .i64 pl.l0, .int .i64 pl.l1, .int .i64 pl.l2, .int .i64 pl.l3]] w fun e w' => e = .returned (.int .i64 2) ∧ Mod No w w' := by
 have M0 := hide ((Mod.refl No w).alloc (.cells #[.int .i64 kind, .int .i64 flight, .int .i64 ar, .int .i64 ac, .int .i64 tr, .int .i64 tc, .int .i64 party, .int .i64 cls, .int .i64 time, .int .i64 pl.rows, .int .i64 pl.cols, .int .i64 pl.front, .int .i64 pl.l0, .int .i64 pl.l1, .int .i64 pl.l2, .int .i64 pl.l3] 41))
 have HF := hide HF
 have k1 : ¬ kind < 1 := by omega
 have k2 : ¬ kind > 9 := by omega
 have k3 : (kind == 8) = false := by simp; omega
 obtain ⟨_, _, hk8⟩ := hk
 have f1 : ¬ flight < 1 := by omega
 have f2 : ¬ flight > 20 := by omega
 have k4 : (kind != 1) = true := by simpa using hk1
 clear hf hk1
 ·skip
  go_enter Tryz.func27, Tryz.ntmps27
  go_wp2_with fail
  refine ((unhide HF) _ (unhide M0)).mono ?_
  rintro e w1 ⟨rfl, rfl⟩
  go_wp2
  go_ret
  exact ⟨rfl, unhide M0⟩
theorem wdo_add (wb : Nat) (flight ar ac tr tc party cls time : Int) (pl : Pla) (w : World) (i er : Int) (P : World → Prop) (hf : 1 ≤ flight ∧ flight ≤ 20) (HF : ∀ W, Mod No w W → Calls Tryz.prog 52 #[.pointer (some ⟨wb, 0, none⟩), .int .i64 flight] W fun e w' => e = .returned (.int .i64 i) ∧ w' = W)
  (HA : ∀ W, Mod No w W → Calls Tryz.prog 53 #[.pointer (some ⟨wb, 0, none⟩), .agg #[.int .i64 1, .int .i64 flight, .int .i64 ar, .int .i64 ac, .int .i64 tr, .int .i64 tc, .int .i64 party, .int .i64 cls, .int .i64 time, .int .i64 pl.rows, .int .i64 pl.cols, .int .i64 pl.front, .int .i64 pl.l0, .int .i64 pl.l1, .int .i64 pl.l2, .int .i64 pl.l3]] W fun e w' => e = .returned (.int .i64 er) ∧ P w') :
  Calls Tryz.prog 27 #[.pointer (some ⟨wb, 0, none⟩), .agg #[.int .i64 1, .int .i64 flight, .int .i64 ar, .int .i64 ac, .int .i64 tr, .int .i64 tc, .int .i64 party, .int .i64 cls, .int .i64 time, .int .i64 pl.rows, .int .i64 pl.cols, .int .i64 pl.front, .int .i64 pl.l0, .int .i64 pl.l1, .int .i64 pl.l2, .int .i64 pl.l3]] w fun e w' => e = .returned (.int .i64 er) ∧ P w' := by
 have M0 := hide ((Mod.refl No w).alloc (.cells #[.int .i64 1, .int .i64 flight, .int .i64 ar, .int .i64 ac, .int .i64 tr, .int .i64 tc, .int .i64 party, .int .i64 cls, .int .i64 time, .int .i64 pl.rows, .int .i64 pl.cols, .int .i64 pl.front, .int .i64 pl.l0, .int .i64 pl.l1, .int .i64 pl.l2, .int .i64 pl.l3] 41))
 have HF := hide HF
 have HA := hide HA
 have f1 : ¬ flight < 1 := by omega
 have f2 : ¬ flight > 20 := by omega
 clear hf
 by_cases hi : i < 0
 all_goals
  go_enter Tryz.func27, Tryz.ntmps27
  go_wp2_with fail
  refine ((unhide HF) _ (unhide M0)).mono ?_
  rintro e w1 ⟨rfl, rfl⟩
  go_wp2_with fail
  refine ((unhide HA) _ (unhide M0)).mono ?_
  rintro e w2 ⟨rfl, hp⟩
  have HP := hide hp
  clear hp
  go_wp2
  go_ret
  exact ⟨rfl, unhide HP⟩
def seatX (c : Cmd) (now : Int) (x : FR) : FR :=
 ⟨⟨x.f.num, x.f.pla, seatL x.f.pla x.f.seats c now, if seatErr x.f.pla x.f.seats c now = 0 then IntKind.i64.wrap (x.f.ep + 1) else x.f.ep⟩, x.g, x.cap⟩
theorem seatL_len (p : Pla) (l : List Sea) (c : Cmd) (hk : c.kind ≠ 9) (now : Int) : (seatL p l c now).length = l.length := by
 unfold seatL seatNew
 rw [if_neg hk]
 repeat' split
 all_goals simp
theorem seatL_wf {p : Pla} {l : List Sea} (hwf : Wf p l) (c : Cmd) (hk : c.kind ≠ 9) (now : Int) (hn : 0 ≤ now ∧ now ≤ 4611686018427387000) : Wf p (seatL p l c now) := by
 unfold seatL
 split
 ·rename_i h; exact seatNew_wf hwf hn h hk
 ·exact hwf
theorem wdo_seat {w : World} {ow : Nat → Nat} {wb gf cap : Nat} {xs : List FR} {now : Int} (h : WorR w ow wb (.slice (some ⟨gf, 0, none⟩) xs.length cap) xs now) (kind flight ar ac tr tc party cls time : Int) (pl : Pla) (hk : 2 ≤ kind ∧ kind ≤ 7) (hf : 1 ≤ flight ∧ flight ≤ 20)
  (ht : -9223372036854775808 ≤ time ∧ time ≤ 9223372036854775807) (hn : 0 ≤ now ∧ now ≤ 4611686018427387000) (i : Nat) (hi : i < xs.length) (hfi : findN xs flight = i) :
  Calls Tryz.prog 27 #[.pointer (some ⟨wb, 0, none⟩), .agg #[.int .i64 kind, .int .i64 flight, .int .i64 ar, .int .i64 ac, .int .i64 tr, .int .i64 tc, .int .i64 party, .int .i64 cls, .int .i64 time, .int .i64 pl.rows, .int .i64 pl.cols, .int .i64 pl.front, .int .i64 pl.l0, .int .i64 pl.l1, .int .i64 pl.l2, .int .i64 pl.l3]] w fun e w' => e = .returned (.int .i64 (seatErr xs[i].f.pla xs[i].f.seats ⟨kind, flight, ar, ac, tr, tc, party, cls, time, pl⟩ now)) ∧
   WorR w' ow wb (.slice (some ⟨gf, 0, none⟩) xs.length cap) (xs.set i (seatX ⟨kind, flight, ar, ac, tr, tc, party, cls, time, pl⟩ now xs[i])) now ∧ Mod (fun k => ow k ≠ 0) w w' := by
 have HF := hide fun W (hW : Mod No w W) => (show Calls Tryz.prog 52 #[.pointer (some ⟨wb, 0, none⟩), .int .i64 flight] W fun e w' => e = .returned (.int .i64 (i : Nat)) ∧ w' = W from by
  have := (h.mod hW (fun _ _ x => x)).find flight
  rw [hfi] at this
  exact this)
 obtain ⟨og, rf⟩ := h.parts rfl (by omega)
 obtain ⟨rs, os, wf⟩ := h.seats i hi
 have HS := hide fun W (hW : Mod No w W) => (show Calls Tryz.prog 55 #[.pointer (some ⟨wb, 0, none⟩), .pointer (some ⟨gf, i * 10, none⟩), .agg #[.int .i64 kind, .int .i64 flight, .int .i64 ar, .int .i64 ac, .int .i64 tr, .int .i64 tc, .int .i64 party, .int .i64 cls, .int .i64 time, .int .i64 pl.rows, .int .i64 pl.cols, .int .i64 pl.front, .int .i64 pl.l0, .int .i64 pl.l1, .int .i64 pl.l2, .int .i64 pl.l3]] W fun e w' =>
   e = .returned (.int .i64 (seatErr xs[i].f.pla xs[i].f.seats ⟨kind, flight, ar, ac, tr, tc, party, cls, time, pl⟩ now)) ∧ SaleOk W w' gf (i * 10) xs[i].g xs[i].cap xs[i].f.pla xs[i].f.seats (seatL xs[i].f.pla xs[i].f.seats ⟨kind, flight, ar, ac, tr, tc, party, cls, time, pl⟩ now) from
  seated_any ((h.mod hW (fun _ _ x => x)).fl i hi) wf ⟨kind, flight, ar, ac, tr, tc, party, cls, time, pl⟩ hk ht now hn ((h.mod hW (fun _ _ x => x)).has.cell 1))
 have SL := hide (seatL_len xs[i].f.pla xs[i].f.seats ⟨kind, flight, ar, ac, tr, tc, party, cls, time, pl⟩ (by simp only; omega) now)
 have SW := hide (seatL_wf wf ⟨kind, flight, ar, ac, tr, tc, party, cls, time, pl⟩ (by simp only; omega) now hn)
 have hx : seatX ⟨kind, flight, ar, ac, tr, tc, party, cls, time, pl⟩ now xs[i] = ⟨⟨xs[i].f.num, xs[i].f.pla, seatL xs[i].f.pla xs[i].f.seats ⟨kind, flight, ar, ac, tr, tc, party, cls, time, pl⟩ now, if seatErr xs[i].f.pla xs[i].f.seats ⟨kind, flight, ar, ac, tr, tc, party, cls, time, pl⟩ now = 0 then IntKind.i64.wrap (xs[i].f.ep + 1) else xs[i].f.ep⟩, xs[i].g, xs[i].cap⟩ := rfl
 generalize hsx : seatX ⟨kind, flight, ar, ac, tr, tc, party, cls, time, pl⟩ now xs[i] = sx at *
 generalize seatErr xs[i].f.pla xs[i].f.seats ⟨kind, flight, ar, ac, tr, tc, party, cls, time, pl⟩ now = er at *
 generalize seatL xs[i].f.pla xs[i].f.seats ⟨kind, flight, ar, ac, tr, tc, party, cls, time, pl⟩ now = ll at *
 have HX := hide hx
 have H := hide h
 have gne : ¬ gf = xs[i].g := fun e => by rw [e, os] at og; omega
 have ec : w.cell? ⟨gf, i * 10 + 9, none⟩ = some (.int .i64 xs[i].f.ep) := rf.cell i hi 9 (by omega)
 have EC := hide fun W (hW : Mod (fun k => k = xs[i].g) w W) => cell_keep hW ec gne
 have GFZ := hide fun W (hW : Mod (fun k => k = xs[i].g) w W) => (rf.mod hW gne)
 have OG := hide og
 have OS := hide os
 have V0 := hide fun W (hW : Mod No w W) => (show W.cell? ⟨wb, 0, none⟩ = some (.slice (some ⟨gf, 0, none⟩) xs.length cap) from cell_keep hW (h.has.cell 0) (fun x => x))
 have M0 := hide ((Mod.refl No w).alloc (.cells #[.int .i64 kind, .int .i64 flight, .int .i64 ar, .int .i64 ac, .int .i64 tr, .int .i64 tc, .int .i64 party, .int .i64 cls, .int .i64 time, .int .i64 pl.rows, .int .i64 pl.cols, .int .i64 pl.front, .int .i64 pl.l0, .int .i64 pl.l1, .int .i64 pl.l2, .int .i64 pl.l3] 41))
 have B0 := hide (Has.new w #[.int .i64 kind, .int .i64 flight, .int .i64 ar, .int .i64 ac, .int .i64 tr, .int .i64 tc, .int .i64 party, .int .i64 cls, .int .i64 time, .int .i64 pl.rows, .int .i64 pl.cols, .int .i64 pl.front, .int .i64 pl.l0, .int .i64 pl.l1, .int .i64 pl.l2, .int .i64 pl.l3] 41)
 have k1 : ¬ kind < 1 := by omega
 have k2 : ¬ kind > 9 := by omega
 have k3 : (kind == 8) = false := by simp; omega
 have k4 : (kind == 1) = false := by simp; omega
 have k5 : (kind == 9) = false := by simp; omega
 have f1 : ¬ flight < 1 := by omega
 have f2 : ¬ flight > 20 := by omega
 have i0 : ¬ (i : Int) < 0 := by omega
 have i1 : (i : Int) < (xs.length : Int) := by omega
 have i2 : (0 : Int) ≤ i := by omega
 have k6 : ¬ kind = 8 := by omega
 have k7 : ¬ kind = 1 := by omega
 have k8 : ¬ kind = 9 := by omega
 clear h hx hsx hfi rf rs os wf og ec gne hf hk
 go_enter Tryz.func27, Tryz.ntmps27
 go_wp2_with fail
 refine ((unhide HF) _ (unhide M0)).mono ?_
 rintro e w1 ⟨rfl, rfl⟩
 have v0 := (unhide V0) _ (unhide M0)
 have hb := (unhide B0).cell
 have lb := (unhide B0).lt
 go_wp2_with fail
 refine ((unhide HS) _ (unhide M0)).mono ?_
 rintro e w2 ⟨rfl, r2, m2⟩
 have m02 : Mod (fun k => k = xs[i].g) w w2 := ((unhide M0).mono (fun _ _ x => x.elim)).trans m2
 have ec2 := (unhide EC) _ m02
 have fz2 : ∀ o, w2.frozen? ⟨gf, o, none⟩ = false := by
  obtain ⟨cur, q1, _⟩ := ((unhide GFZ) _ m02).cur
  exact q1.frozen
 have W2 := hide ((unhide H).seatsSet i hi ll (unhide SL) (unhide SW) r2 m02)
 have MG := hide (show Mod (fun k => ow k ≠ 0) w w2 from m02.mono (fun k _ (e : k = xs[i].g) => by show ow k ≠ 0; rw [e, unhide OS]; omega))
 clear r2 m2 m02 hb v0
 by_cases hz : er = 0
 ·have hl2 : (xs.set i ⟨⟨xs[i].f.num, xs[i].f.pla, ll, xs[i].f.ep⟩, xs[i].g, xs[i].cap⟩).length = xs.length := by rw [List.length_set]
  have W3 : WorR (w2.setCell ⟨gf, i * 10 + 9, none⟩ (.int .i64 (IntKind.i64.wrap (xs[i].f.ep + 1)))) ow wb (.slice (some ⟨gf, 0, none⟩) xs.length cap) (xs.set i sx) now := by
   have h1 := unhide W2
   have e : (Value.slice (some ⟨gf, 0, none⟩) xs.length cap) = .slice (some ⟨gf, 0, none⟩) (xs.set i ⟨⟨xs[i].f.num, xs[i].f.pla, ll, xs[i].f.ep⟩, xs[i].g, xs[i].cap⟩).length cap := by rw [hl2]
   rw [e] at h1
   have h2 := h1.epSet i (by rw [hl2]; exact hi) (IntKind.i64.wrap (xs[i].f.ep + 1))
   rw [← e] at h2
   simp only [List.getElem_set_self, List.set_set] at h2
   rw [unhide HX, if_pos hz]
   exact h2
  have ogx : ow gf ≠ 0 := by rw [unhide OG]; omega
  have MF : Mod (fun k => ow k ≠ 0) w (w2.setCell ⟨gf, i * 10 + 9, none⟩ (.int .i64 (IntKind.i64.wrap (xs[i].f.ep + 1)))) := (unhide MG).setCell (p := ⟨gf, i * 10 + 9, none⟩) (.inl ogx) _
  rw [show IntKind.i64.wrap (xs[i].f.ep + 1) = wrap64 (xs[i].f.ep + 1) from (by unfold wrap64; exact IntKind.wrap_i64 _)] at W3 MF
  have W4 := hide W3
  have M4 := hide MF
  clear W3 MF W2 MG hl2
  subst hz
  go_wp2
  go_ret
  exact ⟨rfl, unhide W4, unhide M4⟩
 ·have hd : (er == 0) = false := by simpa using hz
  have W4 := hide (show WorR w2 ow wb (.slice (some ⟨gf, 0, none⟩) xs.length cap) (xs.set i sx) now from by rw [unhide HX, if_neg hz]; exact unhide W2)
  clear W2 hz
  go_wp2
  go_ret
  exact ⟨rfl, unhide W4, unhide MG⟩
end Go.Proofs.YthhibagcpjeihaaGreat
