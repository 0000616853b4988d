import Derived.Test.YthhibagcpjeihaaGreatIAppend2ToBook2N
import Derived.Test.YthhibagcpjeihaaGreatIOpArgsToLaw8
import Derived.Deep.CutBlock
namespace Go.Proofs.YthhibagcpjeihaaGreat
open Go.RowKit
open M
set_option linter.unusedVariables false
set_option linter.unusedSimpArgs false
set_option maxRecDepth 100000
set_option maxHeartbeats 8000000
noncomputable def bkRegN (n : Nat) : Code := regionNo (Tryz.f42.body.getD .skip) n
theorem appsN {w : World} {zb n : Nat} {l : Value} {I : Int} (hz : Has w zb (zVN I) 68) (hl : Sl 68 3 w l n) (hn : n + 3 ≤ 1000000) (hzl : ∀ g, l.ownBlock = some g → g ≠ zb) (Q0 : Exit → Act → World → Prop) (sl0 sl2 sl3 sl5 sl6 sl7 sl8 sl9 sl10 sl11 sl12 sl13 sl14 sl15 sl16 sl17 sl18 sl19 sl20 sl21 sl22 sl23 sl24 sl25 sl26 sl27 sl28 sl29 sl30 sl31 sl32 sl33 sl34 sl35 sl36 sl37 sl38 sl39 sl40 sl41 sl42 sl43 sl44 sl45 sl46 sl47 sl48 sl49 sl50 sl51 sl52 sl53 sl54 sl55 sl56 sl57 sl58 sl59 sl60 sl61 sl62 : Value)
  (hexit : ∀ (x14 x15 x16 x17 x18 x19 x20 x21 x22 x23 x24 x25 x26 x27 x28 x29 x30 : Value) (rb : Nat) (v1 v2 v3 : Value) (W : World), Hid (Mod (fun g => l.ownBlock = some g) w W ∧ Has W zb (zVN I) 68 ∧ Sl 68 3 W l n ∧ Has W rb #[l, v1, v2, v3] 66 ∧ w.heap.size ≤ rb ∧ (Sl 68 3 W v1 (n + 1) ∧ ∀ g, v1.ownBlock = some g → g ≠ rb ∧ (l.ownBlock = some g ∨ w.heap.size ≤ g)) ∧ (Sl 68 3 W v2 (n + 2) ∧ ∀ g, v2.ownBlock = some g → g ≠ rb ∧ (l.ownBlock = some g ∨ w.heap.size ≤ g)) ∧ (Sl 68 3 W v3 (n + 3) ∧ ∀ g, v3.ownBlock = some g → g ≠ rb ∧ (l.ownBlock = some g ∨ w.heap.size ≤ g))) → Q0 .normal ⟨#[sl0, l, sl2, sl3, .pointer (some ⟨zb, 0, none⟩), .slice (some ⟨rb, 0, none⟩) 4 4, sl6, sl7, sl8, sl9, sl10, sl11, sl12, sl13, x14, x15, x16, x17, x18, x19, x20, x21, x22, x23, x24, x25, x26, x27, x28, x29, x30, sl31, sl32, sl33, sl34, sl35, sl36, sl37, sl38, sl39, sl40, sl41, sl42, sl43, sl44, sl45, sl46, sl47, sl48, sl49, sl50, sl51, sl52, sl53, sl54, sl55, sl56, sl57, sl58, sl59, sl60, sl61, sl62], []⟩ W) :
  Code.wp Tryz.prog (bkRegN 1) Q0 ⟨#[sl0, l, sl2, sl3, .pointer (some ⟨zb, 0, none⟩), sl5, sl6, sl7, sl8, sl9, sl10, sl11, sl12, sl13, sl14, sl15, sl16, sl17, sl18, sl19, sl20, sl21, sl22, sl23, sl24, sl25, sl26, sl27, sl28, sl29, sl30, sl31, sl32, sl33, sl34, sl35, sl36, sl37, sl38, sl39, sl40, sl41, sl42, sl43, sl44, sl45, sl46, sl47, sl48, sl49, sl50, sl51, sl52, sl53, sl54, sl55, sl56, sl57, sl58, sl59, sl60, sl61, sl62], []⟩ w := by
 conv => arg 4; dsimp only
 conv => arg 2; whnf
 obtain ⟨iE, e0, e1, e2, e3⟩ := info_parts infoEN
 have hll := hl.lt
 have HEX := hide hexit
 clear hexit
 refine wp_region_F (n := 63) (fun W => Mod (fun g => l.ownBlock = some g) w W ∧ Has W zb (zVN I) 68 ∧ Sl 68 3 W l n) (StpB 68 3 l.ownBlock) (FAN w l n I) (by kernel_rfl) rfl (by kernel_rfl) (fun i v W W' hs h => h.stp hll i v W W' hs) ?_ ?_ ⟨(Mod.refl _ w).drew, hz.drew, hl⟩
 ·intro i o a W ho hfr hI hd
  have hi : i < 18 := (Array.getElem?_eq_some_iff.1 ho).1
  have E1 : a.tmps[1]?.getD undef = l := by simpa using hfr.rest 1 (by kernel_rfl)
  have E1' : a.eval (.tmp 1) = l := hfr.rest 1 (by kernel_rfl)
  have E4 : a.eval (.tmp 4) = .pointer (some ⟨zb, 0, none⟩) := hfr.rest 4 (by kernel_rfl)
  clear HEX hfr
  have hi18 : i = 0 ∨ i = 1 ∨ i = 2 ∨ i = 3 ∨ i = 4 ∨ i = 5 ∨ i = 6 ∨ i = 7 ∨ i = 8 ∨ i = 9 ∨ i = 10 ∨ i = 11 ∨ i = 12 ∨ i = 13 ∨ i = 14 ∨ i = 15 ∨ i = 16 ∨ i = 17 := by omega
  rcases hi18 with rfl | rfl | rfl | rfl | rfl | rfl | rfl | rfl | rfl | rfl | rfl | rfl | rfl | rfl | rfl | rfl | rfl | rfl
  all_goals
   replace ho := Option.some.inj (show some _ = some o from ho)
   subst ho
  ·clear hd
   refine wp_move_op _ rfl ?_
   exact ⟨_, rfl, hI, StpB.refl _ _ _ _, E1'⟩
  ·clear hd
   refine wp_move_op _ rfl ?_
   exact ⟨_, rfl, hI, StpB.refl _ _ _ _, E1'⟩
  ·clear hd
   refine wp_load_mid _ _ rfl zb 0 E4 (zVN I).toList dEN (hI.2.1.range 0 _ (fun j v h => by rw [Nat.zero_add, ← Array.getElem?_toList]; exact h)) undEN (by kernel_rfl) (by kernel_rfl) ?_
   exact ⟨_, rfl, hI, StpB.refl _ _ _ _, rfl⟩
  ·have E16 : a.tmps[16]?.getD undef = .agg (zVN I) := by simpa using (show a.tmps.getD 16 undef = _ from hd ⟨2, .data⟩ (by simp) rfl)
   clear hd E1 E4
   unfold zVN at E16
   go_simp
   refine ⟨_, rfl, ⟨hI.1.alloc _, hI.2.1.alloc _, hI.2.2.mod ((Mod.refl No W).alloc _) (fun _ _ x => x)⟩, StpB.alloc _ _ _ _ _, W.heap.size, rfl, Has.new W _ _, hI.1.size⟩
  ·have EL : a.eval (.tmp 15) = l := hd ⟨1, .data⟩ (by simp) rfl
   obtain ⟨b, EX, hb, hbn⟩ : ∃ b, a.eval (.tmp 17) = .slice (some ⟨b, 0, none⟩) 1 1 ∧ Has W b (zVN I) 68 ∧ w.heap.size ≤ b := hd ⟨3, .data⟩ (by simp) rfl
   obtain ⟨xs, hown⟩ := hI.2.2
   refine wp_append_row2 _ _ 66 rfl 68 iE _ 3 24 Tryz.underlying66 e0 e1 e2 e3 rfl (by decide) l n xs EL hown _ 1 (zVN I).toList EX (readsN hb) (by simp [zVN]) (fun u hu => zVN_one I u (by revert hu; simp only [zVN, Array.toList_append, List.mem_append]; intro hu; simpa only [or_self] using hu)) (by unfold maxLen; omega) (by omega) ?_
   intro v' w' ho' hg hs hst _
   refine ⟨v', rfl, ⟨?_, ?_, ?_⟩, StpB.app hown hg hst, ⟨_, ho'⟩, fun g hg' => ?_⟩
   ·exact hI.1.grown hg (fun k hk => .inl hk)
   ·exact hI.2.1.grown hg (fun e => hzl zb e.symm rfl)
   ·exact ⟨xs, hst⟩
   ·rcases hs g hg' with q | q
    ·exact .inl q
    ·exact .inr (Nat.le_trans hI.1.size q)
  ·clear hd
   refine wp_move_op _ rfl ?_
   exact ⟨_, rfl, hI, StpB.refl _ _ _ _, E1'⟩
  ·clear hd
   refine wp_load_mid _ _ rfl zb 0 E4 (zVN I).toList dEN (hI.2.1.range 0 _ (fun j v h => by rw [Nat.zero_add, ← Array.getElem?_toList]; exact h)) undEN (by kernel_rfl) (by kernel_rfl) ?_
   exact ⟨_, rfl, hI, StpB.refl _ _ _ _, rfl⟩
  ·clear hd
   refine wp_load_mid _ _ rfl zb 0 E4 (zVN I).toList dEN (hI.2.1.range 0 _ (fun j v h => by rw [Nat.zero_add, ← Array.getElem?_toList]; exact h)) undEN (by kernel_rfl) (by kernel_rfl) ?_
   exact ⟨_, rfl, hI, StpB.refl _ _ _ _, rfl⟩
  ·have E20 : a.tmps[20]?.getD undef = .agg (zVN I) := by simpa using (show a.tmps.getD 20 undef = _ from hd ⟨6, .data⟩ (by simp) rfl)
   have E21 : a.tmps[21]?.getD undef = .agg (zVN I) := by simpa using (show a.tmps.getD 21 undef = _ from hd ⟨7, .data⟩ (by simp) rfl)
   clear hd E1 E4
   unfold zVN at E20 E21
   go_simp
   refine ⟨_, rfl, ⟨hI.1.alloc _, hI.2.1.alloc _, hI.2.2.mod ((Mod.refl No W).alloc _) (fun _ _ x => x)⟩, StpB.alloc _ _ _ _ _, W.heap.size, rfl, Has.new W _ _, hI.1.size⟩
  ·have EL : a.eval (.tmp 19) = l := hd ⟨5, .data⟩ (by simp) rfl
   obtain ⟨b, EX, hb, hbn⟩ : ∃ b, a.eval (.tmp 22) = .slice (some ⟨b, 0, none⟩) 2 2 ∧ Has W b (zVN I ++ zVN I) 68 ∧ w.heap.size ≤ b := hd ⟨8, .data⟩ (by simp) rfl
   obtain ⟨xs, hown⟩ := hI.2.2
   refine wp_append_row2 _ _ 66 rfl 68 iE _ 3 24 Tryz.underlying66 e0 e1 e2 e3 rfl (by decide) l n xs EL hown _ 2 (zVN I ++ zVN I).toList EX (readsN hb) (by simp [zVN]) (fun u hu => zVN_one I u (by revert hu; simp only [zVN, Array.toList_append, List.mem_append]; intro hu; simpa only [or_self] using hu)) (by unfold maxLen; omega) (by omega) ?_
   intro v' w' ho' hg hs hst _
   refine ⟨v', rfl, ⟨?_, ?_, ?_⟩, StpB.app hown hg hst, ⟨_, ho'⟩, fun g hg' => ?_⟩
   ·exact hI.1.grown hg (fun k hk => .inl hk)
   ·exact hI.2.1.grown hg (fun e => hzl zb e.symm rfl)
   ·exact ⟨xs, hst⟩
   ·rcases hs g hg' with q | q
    ·exact .inl q
    ·exact .inr (Nat.le_trans hI.1.size q)
  ·clear hd
   refine wp_move_op _ rfl ?_
   exact ⟨_, rfl, hI, StpB.refl _ _ _ _, E1'⟩
  ·clear hd
   refine wp_load_mid _ _ rfl zb 0 E4 (zVN I).toList dEN (hI.2.1.range 0 _ (fun j v h => by rw [Nat.zero_add, ← Array.getElem?_toList]; exact h)) undEN (by kernel_rfl) (by kernel_rfl) ?_
   exact ⟨_, rfl, hI, StpB.refl _ _ _ _, rfl⟩
  ·clear hd
   refine wp_load_mid _ _ rfl zb 0 E4 (zVN I).toList dEN (hI.2.1.range 0 _ (fun j v h => by rw [Nat.zero_add, ← Array.getElem?_toList]; exact h)) undEN (by kernel_rfl) (by kernel_rfl) ?_
   exact ⟨_, rfl, hI, StpB.refl _ _ _ _, rfl⟩
  ·clear hd
   refine wp_load_mid _ _ rfl zb 0 E4 (zVN I).toList dEN (hI.2.1.range 0 _ (fun j v h => by rw [Nat.zero_add, ← Array.getElem?_toList]; exact h)) undEN (by kernel_rfl) (by kernel_rfl) ?_
   exact ⟨_, rfl, hI, StpB.refl _ _ _ _, rfl⟩
  ·have E25 : a.tmps[25]?.getD undef = .agg (zVN I) := by simpa using (show a.tmps.getD 25 undef = _ from hd ⟨11, .data⟩ (by simp) rfl)
   have E26 : a.tmps[26]?.getD undef = .agg (zVN I) := by simpa using (show a.tmps.getD 26 undef = _ from hd ⟨12, .data⟩ (by simp) rfl)
   have E27 : a.tmps[27]?.getD undef = .agg (zVN I) := by simpa using (show a.tmps.getD 27 undef = _ from hd ⟨13, .data⟩ (by simp) rfl)
   clear hd E1 E4
   unfold zVN at E25 E26 E27
   go_simp
   refine ⟨_, rfl, ⟨hI.1.alloc _, hI.2.1.alloc _, hI.2.2.mod ((Mod.refl No W).alloc _) (fun _ _ x => x)⟩, StpB.alloc _ _ _ _ _, W.heap.size, rfl, Has.new W _ _, hI.1.size⟩
  ·have EL : a.eval (.tmp 24) = l := hd ⟨10, .data⟩ (by simp) rfl
   obtain ⟨b, EX, hb, hbn⟩ : ∃ b, a.eval (.tmp 28) = .slice (some ⟨b, 0, none⟩) 3 3 ∧ Has W b (zVN I ++ zVN I ++ zVN I) 68 ∧ w.heap.size ≤ b := hd ⟨14, .data⟩ (by simp) rfl
   obtain ⟨xs, hown⟩ := hI.2.2
   refine wp_append_row2 _ _ 66 rfl 68 iE _ 3 24 Tryz.underlying66 e0 e1 e2 e3 rfl (by decide) l n xs EL hown _ 3 (zVN I ++ zVN I ++ zVN I).toList EX (readsN hb) (by simp [zVN]) (fun u hu => zVN_one I u (by revert hu; simp only [zVN, Array.toList_append, List.mem_append]; intro hu; simpa only [or_self] using hu)) (by unfold maxLen; omega) (by omega) ?_
   intro v' w' ho' hg hs hst _
   refine ⟨v', rfl, ⟨?_, ?_, ?_⟩, StpB.app hown hg hst, ⟨_, ho'⟩, fun g hg' => ?_⟩
   ·exact hI.1.grown hg (fun k hk => .inl hk)
   ·exact hI.2.1.grown hg (fun e => hzl zb e.symm rfl)
   ·exact ⟨xs, hst⟩
   ·rcases hs g hg' with q | q
    ·exact .inl q
    ·exact .inr (Nat.le_trans hI.1.size q)
  ·have EL : a.tmps[14]?.getD undef = l := by simpa using (show a.tmps.getD 14 undef = _ from hd ⟨0, .data⟩ (by simp) rfl)
   obtain ⟨f1, g1⟩ : Sl 68 3 W (a.tmps[18]?.getD undef) (n + 1) ∧ ∀ g, (a.tmps[18]?.getD undef).ownBlock = some g → l.ownBlock = some g ∨ w.heap.size ≤ g := by simpa using (show Sl 68 3 W (a.tmps.getD 18 undef) (n + 1) ∧ ∀ g, (a.tmps.getD 18 undef).ownBlock = some g → l.ownBlock = some g ∨ w.heap.size ≤ g from hd ⟨4, .data⟩ (by simp) rfl)
   obtain ⟨f2, g2⟩ : Sl 68 3 W (a.tmps[23]?.getD undef) (n + 2) ∧ ∀ g, (a.tmps[23]?.getD undef).ownBlock = some g → l.ownBlock = some g ∨ w.heap.size ≤ g := by simpa using (show Sl 68 3 W (a.tmps.getD 23 undef) (n + 2) ∧ ∀ g, (a.tmps.getD 23 undef).ownBlock = some g → l.ownBlock = some g ∨ w.heap.size ≤ g from hd ⟨9, .data⟩ (by simp) rfl)
   obtain ⟨f3, g3⟩ : Sl 68 3 W (a.tmps[29]?.getD undef) (n + 3) ∧ ∀ g, (a.tmps[29]?.getD undef).ownBlock = some g → l.ownBlock = some g ∨ w.heap.size ≤ g := by simpa using (show Sl 68 3 W (a.tmps.getD 29 undef) (n + 3) ∧ ∀ g, (a.tmps.getD 29 undef).ownBlock = some g → l.ownBlock = some g ∨ w.heap.size ≤ g from hd ⟨15, .data⟩ (by simp) rfl)
   obtain ⟨a0, c0, el⟩ := hI.2.2.slice
   obtain ⟨v1, E1'⟩ : ∃ v1, a.tmps[18]?.getD undef = v1 := ⟨_, rfl⟩
   obtain ⟨v2, E2'⟩ : ∃ v2, a.tmps[23]?.getD undef = v2 := ⟨_, rfl⟩
   obtain ⟨v3, E3'⟩ : ∃ v3, a.tmps[29]?.getD undef = v3 := ⟨_, rfl⟩
   rw [E1'] at f1 g1
   rw [E2'] at f2 g2
   rw [E3'] at f3 g3
   obtain ⟨a1, c1, e1'⟩ := f1.slice
   obtain ⟨a2, c2, e2'⟩ := f2.slice
   obtain ⟨a3, c3, e3'⟩ := f3.slice
   have F1 := f1
   have F2 := f2
   have F3 := f3
   have HII := hide hI
   have P1 := hide (⟨F1, fun g hg => ⟨Nat.ne_of_lt (F1.lt g hg), g1 g hg⟩⟩ : Sl 68 3 W v1 (n + 1) ∧ ∀ g, v1.ownBlock = some g → g ≠ W.heap.size ∧ (l.ownBlock = some g ∨ w.heap.size ≤ g))
   have P2 := hide (⟨F2, fun g hg => ⟨Nat.ne_of_lt (F2.lt g hg), g2 g hg⟩⟩ : Sl 68 3 W v2 (n + 2) ∧ ∀ g, v2.ownBlock = some g → g ≠ W.heap.size ∧ (l.ownBlock = some g ∨ w.heap.size ≤ g))
   have P3 := hide (⟨F3, fun g hg => ⟨Nat.ne_of_lt (F3.lt g hg), g3 g hg⟩⟩ : Sl 68 3 W v3 (n + 3) ∧ ∀ g, v3.ownBlock = some g → g ≠ W.heap.size ∧ (l.ownBlock = some g ∨ w.heap.size ≤ g))
   rw [el] at EL
   rw [e1'] at E1'
   rw [e2'] at E2'
   rw [e3'] at E3'
   have EL2 := hide el
   have HE1 := hide e1'
   have HE2 := hide e2'
   have HE3 := hide e3'
   clear el e1' e2' e3'
   clear f1 f2 f3 g1 g2 g3 F1 F2 F3 hI hd E1 E4 hll hz hl hzl
   go_simp
   have hI := unhide HII
   have mA : Mod No W (W.alloc (.cells #[.slice a0 n c0, .slice a1 (n + 1) c1, .slice a2 (n + 2) c2, .slice a3 (n + 3) c3] 66)) := (Mod.refl No W).alloc _
   refine ⟨_, rfl, ⟨hI.1.alloc _, hI.2.1.alloc _, hI.2.2.mod mA (fun _ _ x => x)⟩, StpB.alloc _ _ _ _ _, W.heap.size, v1, v2, v3, rfl, ?_, hI.1.size, ⟨(unhide P1).1.mod mA (fun _ _ x => x), (unhide P1).2⟩, ⟨(unhide P2).1.mod mA (fun _ _ x => x), (unhide P2).2⟩, ⟨(unhide P3).1.mod mA (fun _ _ x => x), (unhide P3).2⟩⟩
   rw [unhide EL2, unhide HE1, unhide HE2, unhide HE3]
   exact Has.new W _ _
  ·have HF17 : FAN w l n I 17 (a.eval (.tmp 30)) W := hd ⟨16, .data⟩ (by simp) rfl
   clear hd
   refine wp_assign_op _ rfl ?_
   exact ⟨_, rfl, hI, StpB.refl _ _ _ _, HF17⟩
 ·intro a W hfr hI hF
  obtain ⟨rb, v1, v2, v3, h1, h2⟩ := hF 17 (by decide)
  have h1 : a.tmps.getD 5 undef = .slice (some ⟨rb, 0, none⟩) 4 4 := h1
  have hl2 := hfr.lit
  rw [hl2]
  clear hl2
  simp only [List.filterMap_cons, List.filterMap_nil, List.foldl_cons, List.foldl_nil, List.setIfInBounds_toArray, List.set_cons_zero, List.set_cons_succ, h1]
  exact (unhide HEX) _ _ _ _ _ _ _ _ _ _ _ _ _ _ _ _ _ rb v1 v2 v3 W ⟨hI.1, hI.2.1, hI.2.2, h2⟩
abbrev BkJN (I : Int) (S : Nat → Prop) (w0 W : World) (zb rb : Nat) (hs : Array Value) (ms : Array Nat) (q i : Nat) : Prop := BkI 68 66 68 3 (zVN I).toList S w0 W zb rb hs ms q i
theorem overN {w0 w : World} {S : Nat → Prop} {zb rb q i m : Nat} {hs : Array Value} {ms : Array Nat} {I : Int} {g cap : Nat} (hB : BkJN I S w0 w zb rb hs ms q i) (hv : hs[q]? = some (.slice (some ⟨g, 0, none⟩) m cap)) (hm : ms[q]? = some m) (hi : i < m) (hq : q < 4) (Q0 : Exit → Act → World → Prop) (sl0 sl1 sl2 sl3 sl8 sl9 sl10 sl11 sl12 sl13 sl14 sl15 sl16 sl17 sl18 sl19 sl20 sl21 sl22 sl23 sl24 sl25 sl26 sl27 sl28 sl29 sl30 sl31 sl32 sl33 sl34 sl35 sl36 sl37 sl38 sl39 sl40 sl41 sl42 sl43 sl44 sl45 sl46 sl47 sl48 sl49 sl50 sl51 sl52 sl53 sl54 sl55 sl56 sl57 sl58 sl59 sl60 sl61 sl62 : Value)
  (hexit : ∀ (x46 x47 x48 x49 x50 x51 x52 : Value) (W : World), Hid (BkJN I S w0 W zb rb hs ms q (i + 1)) → Q0 .normal ⟨#[sl0, sl1, sl2, sl3, .pointer (some ⟨zb, 0, none⟩), .slice (some ⟨rb, 0, none⟩) 4 4, .int .i64 (q : Int), .int .i64 (i : Int), sl8, sl9, sl10, sl11, sl12, sl13, sl14, sl15, sl16, sl17, sl18, sl19, sl20, sl21, sl22, sl23, sl24, sl25, sl26, sl27, sl28, sl29, sl30, sl31, sl32, sl33, sl34, sl35, sl36, sl37, sl38, sl39, sl40, sl41, sl42, sl43, sl44, sl45, x46, x47, x48, x49, x50, x51, x52, sl53, sl54, sl55, sl56, sl57, sl58, sl59, sl60, sl61, sl62], []⟩ W) :
  Code.wp Tryz.prog (bkRegN 8) Q0 ⟨#[sl0, sl1, sl2, sl3, .pointer (some ⟨zb, 0, none⟩), .slice (some ⟨rb, 0, none⟩) 4 4, .int .i64 (q : Int), .int .i64 (i : Int), sl8, sl9, sl10, sl11, sl12, sl13, sl14, sl15, sl16, sl17, sl18, sl19, sl20, sl21, sl22, sl23, sl24, sl25, sl26, sl27, sl28, sl29, sl30, sl31, sl32, sl33, sl34, sl35, sl36, sl37, sl38, sl39, sl40, sl41, sl42, sl43, sl44, sl45, sl46, sl47, sl48, sl49, sl50, sl51, sl52, sl53, sl54, sl55, sl56, sl57, sl58, sl59, sl60, sl61, sl62], []⟩ w := by
 conv => arg 4; dsimp only
 conv => arg 2; whnf
 have HEX := hide hexit
 clear hexit
 refine wp_region_F (n := 63) (fun W => BkJN I S w0 W zb rb hs ms q i) (fun W W' => BkJN I S w0 W zb rb hs ms q (i + 1) → BkJN I S w0 W' zb rb hs ms q (i + 1)) (fun j v W => match j with
  | 0 => v = .slice (some ⟨rb, 0, none⟩) 4 4
  | 1 => v = .int .i64 (q : Int)
  | 2 => v = .pointer (some ⟨rb, q, none⟩)
  | 3 => v = .slice (some ⟨g, 0, none⟩) m cap
  | 4 => v = .int .i64 (i : Int)
  | 5 => v = .agg (zVN I)
  | 6 => v = .pointer (some ⟨g, i * 3, none⟩)
  | 7 => BkJN I S w0 W zb rb hs ms q (i + 1)
  | _ => True) (by kernel_rfl) rfl (by kernel_rfl) (fun j v W W' hs h => ?_) ?_ ?_ (hB.drewN 1)
 ·revert h
  repeat' split
  all_goals first | exact id | exact hs
 ·intro j o a W ho hfr hI hd
  have hj : j < 8 := (Array.getElem?_eq_some_iff.1 ho).1
  have E4 : a.eval (.tmp 4) = .pointer (some ⟨zb, 0, none⟩) := hfr.rest 4 (by kernel_rfl)
  have E5 : a.eval (.tmp 5) = .slice (some ⟨rb, 0, none⟩) 4 4 := hfr.rest 5 (by kernel_rfl)
  have E6 : a.eval (.tmp 6) = .int .i64 (q : Int) := hfr.rest 6 (by kernel_rfl)
  have E7 : a.eval (.tmp 7) = .int .i64 (i : Int) := hfr.rest 7 (by kernel_rfl)
  clear HEX hfr
  have hi18 : j = 0 ∨ j = 1 ∨ j = 2 ∨ j = 3 ∨ j = 4 ∨ j = 5 ∨ j = 6 ∨ j = 7 := by omega
  rcases hi18 with rfl | rfl | rfl | rfl | rfl | rfl | rfl | rfl
  all_goals
   replace ho := Option.some.inj (show some _ = some o from ho)
   subst ho
  ·clear hd
   refine wp_move_op _ rfl ?_
   exact ⟨_, rfl, hI, id, E5⟩
  ·clear hd
   refine wp_move_op _ rfl ?_
   exact ⟨_, rfl, hI, id, E6⟩
  ·have E46 : a.tmps[46]?.getD undef = .slice (some ⟨rb, 0, none⟩) 4 4 := by simpa using (show a.tmps.getD 46 undef = _ from hd ⟨0, .data⟩ (by simp) rfl)
   have E47 : a.tmps[47]?.getD undef = .int .i64 (q : Int) := by simpa using (show a.tmps.getD 47 undef = _ from hd ⟨1, .data⟩ (by simp) rfl)
   have q0 : (0 : Int) ≤ q := by omega
   have q4 : (q : Int) < 4 := by omega
   have HI := hide hI
   clear hd E4 E5 E6 E7 hB hI hv hm
   go_simp
   first | exact unhide HI | exact ⟨unhide HI, rfl⟩ | exact ⟨_, rfl, unhide HI, id, rfl⟩ | exact ⟨_, rfl, unhide HI, rfl⟩ | exact ⟨_, rfl, unhide HI⟩
  ·have E48 : a.tmps[48]?.getD undef = .pointer (some ⟨rb, q, none⟩) := by simpa using (show a.tmps.getD 48 undef = _ from hd ⟨2, .data⟩ (by simp) rfl)
   have c0 : W.cell? ⟨rb, q, none⟩ = some (.slice (some ⟨g, 0, none⟩) m cap) := (hI.rbox.cell q).trans hv
   have HI := hide hI
   clear hd E4 E5 E6 E7 hB hI hv hm
   go_simp
   first | exact unhide HI | exact ⟨unhide HI, rfl⟩ | exact ⟨_, rfl, unhide HI, id, rfl⟩ | exact ⟨_, rfl, unhide HI, rfl⟩ | exact ⟨_, rfl, unhide HI⟩
  ·clear hd
   refine wp_move_op _ rfl ?_
   exact ⟨_, rfl, hI, id, E7⟩
  ·clear hd
   refine wp_load_mid _ _ rfl zb 0 E4 (zVN I).toList dEN (hI.zbox.range 0 _ (fun j v h => by rw [Nat.zero_add]; simpa using h)) undEN (by kernel_rfl) (by kernel_rfl) ?_
   exact ⟨_, rfl, hI, id, rfl⟩
  ·have E49 : a.tmps[49]?.getD undef = .slice (some ⟨g, 0, none⟩) m cap := by simpa using (show a.tmps.getD 49 undef = _ from hd ⟨3, .data⟩ (by simp) rfl)
   have E50 : a.tmps[50]?.getD undef = .int .i64 (i : Int) := by simpa using (show a.tmps.getD 50 undef = _ from hd ⟨4, .data⟩ (by simp) rfl)
   have q0 : (0 : Int) ≤ i := by omega
   have q4 : (i : Int) < (m : Int) := by omega
   have HI := hide hI
   clear hd E4 E5 E6 E7 hB hI hv hm
   go_simp
   first | exact unhide HI | exact ⟨unhide HI, rfl⟩ | exact ⟨_, rfl, unhide HI, id, rfl⟩ | exact ⟨_, rfl, unhide HI, rfl⟩ | exact ⟨_, rfl, unhide HI⟩
  ·have E52 : a.eval (.tmp 52) = .pointer (some ⟨g, i * 3, none⟩) := hd ⟨6, .data⟩ (by simp) rfl
   have E51 : a.eval (.tmp 51) = .agg (zVN I) := hd ⟨5, .data⟩ (by simp) rfl
   obtain ⟨ht, hN⟩ := hI.put (zVN_len I) hv hm hi
   refine wp_store_mid _ _ _ rfl g (i * 3) (zVN I) E52 E51 ht (by kernel_rfl) (all_oneCell_toArray (zVN_one I)) ?_
   exact ⟨undef, rfl, hN.weak, fun _ => hN, hN⟩
 ·intro a W hfr hI hF
  have h7 := hF 7 (by decide)
  rw [hfr.lit]
  simp only [List.filterMap_cons, List.filterMap_nil, List.foldl_cons, List.foldl_nil, List.setIfInBounds_toArray, List.set_cons_zero, List.set_cons_succ]
  exact (unhide HEX) _ _ _ _ _ _ _ W h7
def playN (lv xv ov : Value) : Array Value := #[lv, ov, xv]
structure BkDN (w w' : World) (yb L : Nat) (lv xv ov l : Value) (xs : List Value) (xv' : Value) (rb : Nat) (hs : Array Value) : Prop where
 has : Has w' yb (playN lv xv' ov) 34
 row : w'.ownsRow 0 65 1 xv' (L + 1) (xs ++ [.slice (some ⟨rb, 0, none⟩) 4 4])
 box : Has w' rb hs 66
 size : hs.size = 4
 each : ∀ (j : Nat) (v : Value), hs[j]? = some v → ∃ m, Sl 68 3 w' v m ∧ Zd 3 (zVN L).toList w' v m ∧ m ≤ 1000000 ∧ ∀ g, v.ownBlock = some g → g ≠ rb ∧ g ≠ yb ∧ xv'.ownBlock ≠ some g ∧ (l.ownBlock = some g ∨ w.heap.size ≤ g)
 rb0 : w.heap.size ≤ rb ∧ xv'.ownBlock ≠ some rb
 own : ∀ g, xv'.ownBlock = some g → g ≠ yb ∧ (xv.ownBlock = some g ∨ w.heap.size ≤ g)
 mod : Mod (fun g => g = yb ∨ l.ownBlock = some g ∨ xv.ownBlock = some g) w w'
theorem bkdN {w w1 W w10 : World} {zb yb n L rb : Nat} {lv xv ov l v1 v2 v3 v10 : Value} {xs : List Value} {lc : Nat} {la : Option Addr} (hl0 : l = .slice la n lc) (hy : Has w yb (playN lv xv ov) 34) (hw1 : Mod No w w1) (hzb : zb < w1.heap.size) (hx : w.ownsRow 0 65 1 xv L xs)
  (hly : ∀ g, l.ownBlock = some g → g ≠ yb ∧ xv.ownBlock ≠ some g) (hxy : xv.ownBlock ≠ some yb) (hB : BkJN L (fun g => l.ownBlock = some g) w1 W zb rb #[l, v1, v2, v3] #[n, n + 1, n + 2, n + 3] 4 0) (hll : ∀ g, l.ownBlock = some g → g < w.heap.size) (hrb : w1.heap.size ≤ rb) (hn : n + 3 ≤ 1000000)
  (ho : w10.ownsRow 0 65 1 v10 (L + 1) (xs ++ [.slice (some ⟨rb, 0, none⟩) 4 4])) (hg : (W.alloc (.cells #[.slice (some ⟨rb, 0, none⟩) 4 4] 65)).grownBy w10 xv.ownBlock) (hs : Stays (W.alloc (.cells #[.slice (some ⟨rb, 0, none⟩) 4 4] 65)) xv v10) :
  BkDN w (w10.setCell ⟨yb, 2, none⟩ v10) yb L lv xv ov l xs v10 rb #[l, v1, v2, v3] := by
 have hyl := hy.lt
 have hxl := fun k hk => owns_lt hx k hk
 have hm1 := hw1.size
 have hm2 := hB.mod.size
 have hrl := hB.rbox.lt
 have m3 : Mod (fun g => xv.ownBlock = some g) W w10 := ((Mod.refl _ W).alloc _).grown hg (fun k hk => .inl hk)
 have m4 : Mod (fun g => xv.ownBlock = some g ∨ g = yb) W (w10.setCell ⟨yb, 2, none⟩ v10) := (m3.mono (fun _ _ x => .inl x)).trans ((Mod.refl _ _).setCell (p := ⟨yb, 2, none⟩) (.inl (.inr rfl)) _)
 have hyW : Has W yb (playN lv xv ov) 34 := hB.mod.has (hw1.has hy (fun x => x)) (fun e => (hly yb e).1 rfl)
 have hy10 : Has w10 yb (playN lv xv ov) 34 := m3.has hyW hxy
 have hrbx : xv.ownBlock ≠ some rb := fun e => by have := hxl rb e; omega
 have hown : ∀ g, v10.ownBlock = some g → g ≠ yb ∧ (xv.ownBlock = some g ∨ W.heap.size < g) := fun g hg' => by
  rcases hs g hg' with q | q
  ·exact ⟨fun e => hxy (by rw [← e]; exact q), .inl q⟩
  ·rw [World.size_alloc] at q
   exact ⟨by omega, .inr (by omega)⟩
 refine ⟨?_, owns_setCell_ne ho (a := ⟨yb, 2, none⟩) (fun e => (hown yb e).1 rfl) _, m4.has hB.rbox ?_, rfl, fun j v hv => ?_, ⟨by omega, fun e => ?_⟩, fun g hg' => ⟨(hown g hg').1, (hown g hg').2.imp id (fun q => by omega)⟩, ?_⟩
 ·exact hy10.set 2 v10
 ·rintro (e | e)
  ·exact hrbx e
  ·omega
 ·have hj : j < 4 := (Array.getElem?_eq_some_iff.1 hv).1
  have hmm : ∃ m, (#[n, n + 1, n + 2, n + 3] : Array Nat)[j]? = some m := ⟨_, Array.getElem?_eq_getElem (by simpa using hj)⟩
  obtain ⟨m, hm⟩ := hmm
  obtain ⟨s1, s2⟩ := hB.sl j v m hv hm
  have hz := hB.full j v m (by omega) hv hm
  have far : ∀ g, v.ownBlock = some g → ¬ (xv.ownBlock = some g ∨ g = yb) := fun g hg' e => by
   obtain ⟨_, _, q⟩ := s2 g hg'
   rcases e with e | e
   ·rcases q with q | q
    ·exact (hly g q).2 e
    ·have := hxl g e; omega
   ·rcases q with q | q
    ·exact (hly g q).1 e
    ·omega
  have hmb : m ≤ 1000000 := by
   have hj4 : j = 0 ∨ j = 1 ∨ j = 2 ∨ j = 3 := by omega
   rcases hj4 with rfl | rfl | rfl | rfl
   ·obtain rfl := Option.some.inj (show some n = some m from hm); omega
   ·obtain rfl := Option.some.inj (show some (n + 1) = some m from hm); omega
   ·obtain rfl := Option.some.inj (show some (n + 2) = some m from hm); omega
   ·obtain rfl := Option.some.inj (show some (n + 3) = some m from hm); omega
  refine ⟨m, s1.mod m4 far, hz.mod m4 (fun g hg' => ⟨s1.lt g hg', far g hg'⟩), hmb, fun g hg' => ⟨(s2 g hg').2.1, fun e => far g hg' (.inr e), fun e => ?_, (s2 g hg').2.2.imp id (fun q => by omega)⟩⟩
  rcases (hown g e).2 with q | q
  ·exact far g hg' (.inl q)
  ·have := s1.lt g hg'; omega
 ·rcases (hown rb e).2 with q | q
  ·exact hrbx q
  ·omega
 ·have m5 := (hw1.trans (S := No) (Mod.refl _ _)).mono (S' := fun g => g = yb ∨ l.ownBlock = some g ∨ xv.ownBlock = some g) (fun _ _ x => x.elim)
  exact (m5.trans (hB.mod.mono (fun _ _ x => .inr (.inl x)))).trans (m4.mono (fun _ _ x => x.elim (fun y => .inr (.inr y)) .inl))
theorem bkN_any {w : World} {yb n lc L : Nat} {la : Option Addr} {lv xv ov : Value} {xs : List Value} (hy : Has w yb (playN lv xv ov) 34) (hx : w.ownsRow 0 65 1 xv L xs) (hL : L ≤ 1099511627776) (hl : Sl 68 3 w (.slice la n lc) n) (hn : n + 3 ≤ 1000000)
  (hly : ∀ g, (Value.slice la n lc).ownBlock = some g → g ≠ yb ∧ xv.ownBlock ≠ some g) (hxy : xv.ownBlock ≠ some yb) :
  Calls Tryz.prog 42 #[.pointer (some ⟨yb, 1, none⟩), .slice la n lc] w fun e w' => e = .returned (.tuple #[]) ∧ ∃ xv' rb hs, BkDN w w' yb L lv xv ov (.slice la n lc) xs xv' rb hs := by
 obtain ⟨ax, cx, rfl⟩ := slice_of_owns hx
 have y1 : w.cell? ⟨yb, 2, none⟩ = some (.slice ax L cx) := hy.cell 2
 have yl := hy.lt
 have Z1 := hide (Has.new w (zVN L) 68)
 have hm1 : Mod No w (w.alloc (.cells (zVN L) 68)) := (Mod.refl _ w).alloc _
 have M1 := hide hm1
 have L1 := hide (hl.mod hm1 (fun _ _ x => x))
 have HLL := hide hl.lt
 have HY := hide hy
 have HX := hide hx
 have HLY := hide hly
 have HXY := hide hxy
 have ZB := hide (show w.heap.size < (w.alloc (.cells (zVN L) 68)).heap.size from by simp)
 obtain ⟨l, hl0⟩ : ∃ l, l = Value.slice la n lc := ⟨_, rfl⟩
 have HL0 := hide hl0
 rw [← hl0] at L1 HLL HLY
 unfold playN at hy
 clear hy hx hl hly hxy hm1
 have HL := hide hL
 go_enter Tryz.func42, Tryz.ntmps42
 rw [← hl0]
 clear hl0
 go_upto_region 1 with fail
 have e1 : (w.alloc (.cells #[.int .i64 (-9), .int .i64 0, .int .i64 (L : Int)] 68)) = w.alloc (.cells (zVN L) 68) := rfl
 rw [e1]
 clear e1
 generalize w.alloc (.cells (zVN L) 68) = w1 at *
 generalize hzb : w.heap.size = zb at *
 have HZB := hide hzb
 clear y1 yl hzb
 refine appsN (unhide Z1) (unhide L1) hn (fun g hg => Nat.ne_of_lt ((unhide HLL) g hg)) _ _ _ _ _ _ _ _ _ _ _ _ _ _ _ _ _ _ _ _ _ _ _ _ _ _ _ _ _ _ _ _ _ _ _ _ _ _ _ _ _ _ _ _ _ _ _ _ _ _ _ _ _ _ _ _ _ _ _ _ _ _ ?_
 intro x14 x15 x16 x17 x18 x19 x20 x21 x22 x23 x24 x25 x26 x27 x28 x29 x30 rb v1 v2 v3 W HA
 obtain ⟨m1, z1, l1, r1, rn, p1, p2, p3⟩ := unhide HA
 have LLW := hide (fun g hg => Nat.lt_trans ((unhide HLL) g hg) (unhide ZB) : ∀ g, l.ownBlock = some g → g < w1.heap.size)
 have B0 := hide (show BkJN L (fun g => l.ownBlock = some g) w1 W zb rb #[l, v1, v2, v3] #[n, n + 1, n + 2, n + 3] 0 0 from ⟨m1, z1, r1, fun j v m hv hm => by
  have hj : j < 4 := (Array.getElem?_eq_some_iff.1 hv).1
  have hzb := unhide ZB
  have key : ∀ (u : Value) (mm : Nat), Sl 68 3 W u mm → (∀ g, u.ownBlock = some g → g ≠ rb ∧ (l.ownBlock = some g ∨ w1.heap.size ≤ g)) → Sl 68 3 W u mm ∧ ∀ g, u.ownBlock = some g → g ≠ zb ∧ g ≠ rb ∧ (l.ownBlock = some g ∨ w1.heap.size ≤ g) := fun u mm h1 h2 => ⟨h1, fun g hg => ⟨fun e => by
   rcases (h2 g hg).2 with q | q
   ·have := (unhide HLL) g q; omega
   ·omega, (h2 g hg).1, (h2 g hg).2⟩⟩
  have hj4 : j = 0 ∨ j = 1 ∨ j = 2 ∨ j = 3 := by omega
  rcases hj4 with rfl | rfl | rfl | rfl
  ·obtain rfl := Option.some.inj (show some l = some v from hv)
   obtain rfl := Option.some.inj (show some n = some m from hm)
   exact key _ _ l1 (fun g hg => ⟨fun e => by have := (unhide LLW) g hg; omega, .inl hg⟩)
  ·obtain rfl := Option.some.inj (show some v1 = some v from hv)
   obtain rfl := Option.some.inj (show some (n + 1) = some m from hm)
   exact key _ _ p1.1 p1.2
  ·obtain rfl := Option.some.inj (show some v2 = some v from hv)
   obtain rfl := Option.some.inj (show some (n + 2) = some m from hm)
   exact key _ _ p2.1 p2.2
  ·obtain rfl := Option.some.inj (show some v3 = some v from hv)
   obtain rfl := Option.some.inj (show some (n + 3) = some m from hm)
   exact key _ _ p3.1 p3.2, fun j v m hj => absurd hj (Nat.not_lt_zero _), fun v _ => Zd.zero⟩)
 have HRN := hide rn
 clear m1 z1 l1 r1 rn p1 p2 p3 HA L1 Z1
 have HN := hide hn
 clear hn hL
 go_wp2_with fail
 go_loopw [6] (fun s6 wr => ∃ q : Nat, s6 = .int .i64 (q : Int) ∧ q ≤ 4 ∧ Hid (BkJN L (fun g => l.ownBlock = some g) w1 wr zb rb #[l, v1, v2, v3] #[n, n + 1, n + 2, n + 3] q 0)) (fun s _ => 4 - (intOf s).toNat)
 case atStart => exact ⟨0, rfl, by omega, B0⟩
 case round =>
  obtain ⟨q, rfl, hq, B1⟩ := hrel
  clear B0
  by_cases hq4 : q < 4
  ·have hqi : (q : Int) < 4 := by omega
   have hq0 : (0 : Int) ≤ q := by omega
   have hq1 : IntKind.i64.wrap ((q : Int) + 1) = ((q + 1 : Nat) : Int) := by rw [wrap_id _ (by omega) (by omega)]; rfl
   obtain ⟨h, hh⟩ : ∃ h, (#[l, v1, v2, v3] : Array Value)[q]? = some h := ⟨_, Array.getElem?_eq_getElem (by simpa using hq4)⟩
   obtain ⟨m, hm⟩ : ∃ m, (#[n, n + 1, n + 2, n + 3] : Array Nat)[q]? = some m := ⟨_, Array.getElem?_eq_getElem (by simpa using hq4)⟩
   have hmb : m ≤ 1000000 := by
    have := unhide HN
    have hj4 : q = 0 ∨ q = 1 ∨ q = 2 ∨ q = 3 := by omega
    rcases hj4 with rfl | rfl | rfl | rfl
    ·obtain rfl := Option.some.inj (show some n = some m from hm); omega
    ·obtain rfl := Option.some.inj (show some (n + 1) = some m from hm); omega
    ·obtain rfl := Option.some.inj (show some (n + 2) = some m from hm); omega
    ·obtain rfl := Option.some.inj (show some (n + 3) = some m from hm); omega
   obtain ⟨ah, ch, rfl⟩ := ((unhide B1).sl q h m hh hm).1.slice
   have HH := hide hh
   have HM := hide hm
   clear hh hm
   go_upto_region 5 with fail
   go_upto_block 2 with fail
   go_wp2_with fail
   go_loopw [7] (fun s7 wr => ∃ i : Nat, s7 = .int .i64 (i : Int) ∧ i ≤ m ∧ Hid (BkJN L (fun g => l.ownBlock = some g) w1 wr zb rb #[l, v1, v2, v3] #[n, n + 1, n + 2, n + 3] q i)) (fun s _ => m - (intOf s).toNat)
   case atStart => exact ⟨0, rfl, by omega, B1⟩
   case round =>
    obtain ⟨i, rfl, hi, B2⟩ := hrel
    have c0 : wr.cell? ⟨rb, q, none⟩ = some (.slice ah m ch) := ((unhide B2).rbox.cell q).trans (unhide HH)
    have cl := (unhide B2).rbox.lt
    by_cases him : i < m
    ·have hii : (i : Int) < (m : Int) := by omega
     have hi0 : (0 : Int) ≤ i := by omega
     have hi1 : IntKind.i64.wrap ((i : Int) + 1) = ((i + 1 : Nat) : Int) := by rw [wrap_id _ (by omega) (by omega)]; rfl
     have SB := hide (((unhide B2).sl q _ m (unhide HH) (unhide HM)).1.block (by omega))
     go_upto_region 8 with fail
     obtain ⟨g, cap, cur, eh, _⟩ := unhide SB
     injection eh with eh1 _ eh3
     subst eh1 eh3
     refine overN (unhide B2) (unhide HH) (unhide HM) him hq4 _ _ _ _ _ _ _ _ _ _ _ _ _ _ _ _ _ _ _ _ _ _ _ _ _ _ _ _ _ _ _ _ _ _ _ _ _ _ _ _ _ _ _ _ _ _ _ _ _ _ _ _ _ _ _ _ _ _ _ _ ?_
     intro x46 x47 x48 x49 x50 x51 x52 W3 B3
     clear c0 cl SB
     go_wp2
     exact ⟨⟨i + 1, rfl, by omega, B3⟩, by simp [intOf]; omega⟩
    ·have hii : ¬ (i : Int) < (m : Int) := by omega
     obtain rfl : i = m := by omega
     have B3 := hide ((unhide B2).next (unhide HM))
     go_wp2
     exact ⟨⟨q + 1, rfl, by omega, B3⟩, by simp [intOf]; omega⟩
  ·have hqi : ¬ (q : Int) < 4 := by omega
   obtain rfl : q = 4 := by omega
   have HYW := hide ((unhide B1).mod.has ((unhide M1).has (unhide HY) (fun x => x)) (fun e => ((unhide HLY) yb e).1 rfl))
   have HXW := hide ((unhide B1).mod.owns ((unhide M1).owns (unhide HX) (fun _ _ x => x)) (fun k hk e => ((unhide HLY) k e).2 hk))
   have y0 : wr.cell? ⟨yb, 2, none⟩ = some (.slice ax L cx) := (unhide HYW).cell 2
   have yl := (unhide HYW).lt
   have mA : Mod No wr (wr.alloc (.cells #[.slice (some ⟨rb, 0, none⟩) 4 4] 65)) := (Mod.refl _ _).alloc _
   have HO9 := hide (mA.owns (unhide HXW) (fun _ _ x => x))
   have HY9 := hide (mA.has (unhide HYW) (fun x => x))
   have HR9 := hide (show Reads (wr.alloc (.cells #[.slice (some ⟨rb, 0, none⟩) 4 4] 65)) (.slice (some ⟨wr.heap.size, 0, none⟩) 1 1) 1 [.slice (some ⟨rb, 0, none⟩) 4 4] from .inr ⟨⟨wr.heap.size, 0, none⟩, 1, rfl, fun j u hu => by
    rw [Addr.add_mid, Nat.zero_add, (Has.new wr #[.slice (some ⟨rb, 0, none⟩) 4 4] 65).cell, ← Array.getElem?_toList]
    exact hu⟩)
   have HP1 := hide (show ∀ u ∈ [Value.slice (some ⟨rb, 0, none⟩) 4 4], u.oneCell' = true from fun u hu => by simp at hu; subst hu; rfl)
   obtain ⟨ip, p0, p1, p2, p3⟩ := info_parts infoRN
   have hL := unhide HL
   clear mA HYW HXW
   go_wp2_with (at_builtin; refine wpList_append_row rfl (.tmp 57) (.tmp 59) 30 rfl 65 ip _ 1 24 Tryz.underlying30 p0 p1 p2 p3 rfl (by decide) (.slice ax L cx) L xs (by simp [Act.eval]) (by exact unhide HO9) (.slice (some ⟨wr.heap.size, 0, none⟩) 1 1) 1 [.slice (some ⟨rb, 0, none⟩) 4 4] (by simp [Act.eval]) (by exact unhide HR9) rfl (unhide HP1) (by unfold maxLen; omega) (by omega) ?_; intro v10 w10 ho10 hg10 hs10; obtain ⟨a10, c10, rfl⟩ := slice_of_owns ho10; have hy10 := Has.grown (unhide HY9) hg10 (fun e => (unhide HXY) e.symm); have y10 := hy10.cell 2; have yl10 := hy10.lt; have yf10 := hy10.frozen)
   have FIN := hide (bkdN (unhide HL0) (unhide HY) (unhide M1) (unhide ZB) (unhide HX) (unhide HLY) (unhide HXY) (unhide B1) (fun g hg => by rw [unhide HZB]; exact (unhide HLL) g hg) (unhide HRN) (unhide HN) ho10 hg10 hs10)
   clear ho10 hg10 hs10 hy10 HO9 HR9 HY9 HP1 B1
   go_wp2
   go_end0
   exact ⟨rfl, _, _, _, unhide FIN⟩
def hdrN (b : Nat) : Value := .slice (some ⟨b, 0, none⟩) 4 4
structure BkXN (w : World) (F : Nat → Prop) (xv : Value) (ls : List Nat) : Prop where
 row : w.ownsRow 0 65 1 xv ls.length (ls.map hdrN)
 far : ∀ g, xv.ownBlock = some g → ¬ F g
 each : ∀ i (h : i < ls.length), ¬ F ls[i] ∧ xv.ownBlock ≠ some ls[i] ∧ ∃ hs : Array Value, Has w ls[i] hs 66 ∧ hs.size = 4 ∧ ∀ (j : Nat) (v : Value), hs[j]? = some v → ∃ m, Sl 68 3 w v m ∧ Zd 3 (zVN i).toList w v m ∧ m ≤ 1000000 ∧ ∀ g, v.ownBlock = some g → ¬ F g ∧ xv.ownBlock ≠ some g
theorem BkXN.nil (w : World) (F : Nat → Prop) : BkXN w F (.slice none 0 0) [] := ⟨World.ownsRow_nil _ _ _ _, fun g hg => by simp [Value.ownBlock] at hg, fun i h => absurd h (Nat.not_lt_zero _)⟩
theorem BkXN.mod {w w' : World} {F F' : Nat → Prop} {xv : Value} {ls : List Nat} (h : BkXN w F xv ls) (hm : Mod F w w') (hF : ∀ k, k < w.heap.size → F' k → F k) : BkXN w' F' xv ls := by
 have hx := fun g hg => owns_lt h.row g hg
 refine ⟨hm.owns h.row h.far, fun g hg e => h.far g hg (hF g (hx g hg) e), fun i hi => ?_⟩
 obtain ⟨h1, h2, hs, h3, h4, h5⟩ := h.each i hi
 refine ⟨fun e => h1 (hF _ h3.lt e), h2, hs, hm.has h3 h1, h4, fun j v hv => ?_⟩
 obtain ⟨m, q1, q2, q3, q4⟩ := h5 j v hv
 exact ⟨m, q1.mod hm (fun g hg => (q4 g hg).1), q2.mod hm (fun g hg => ⟨q1.lt g hg, (q4 g hg).1⟩), q3, fun g hg => ⟨fun e => (q4 g hg).1 (hF g (q1.lt g hg) e), (q4 g hg).2⟩⟩
theorem BkXN.at {w : World} {F : Nat → Prop} {xv : Value} {ls : List Nat} (h : BkXN w F xv ls) {i : Nat} (hi : i < ls.length) : ∃ ab cap rb, xv = .slice (some ⟨ab, 0, none⟩) ls.length cap ∧ ab < w.heap.size ∧ ls[i]? = some rb ∧ w.cell? ⟨ab, i, none⟩ = some (.slice (some ⟨rb, 0, none⟩) 4 4) := by
 have hr := h.row
 obtain ⟨h0, h1 | ⟨g, cap, cur, hv, _⟩⟩ := h.row
 ·omega
 ·refine ⟨g, cap, ls[i], hv, owns_lt h.row g (by rw [hv]; rfl), List.getElem?_eq_getElem hi, ?_⟩
  have := hr.cells (by rw [hv]; rfl) i (hdrN ls[i]) (by rw [List.getElem?_map, List.getElem?_eq_getElem hi]; rfl)
  rw [Addr.add_mid, Nat.zero_add] at this
  exact this
theorem BkXN.head {w : World} {F : Nat → Prop} {xv : Value} {ls : List Nat} (h : BkXN w F xv ls) {i q rb : Nat} (hrb : ls[i]? = some rb) (hq : q < 4) : ∃ a m c, m ≤ 1000000 ∧ rb < w.heap.size ∧ w.cell? ⟨rb, q, none⟩ = some (.slice a m c) ∧ ∀ j, j < m → ∃ g, a = some ⟨g, 0, none⟩ ∧ g < w.heap.size ∧ w.rangeAt g (j * 3) (zVN i).toList := by
 obtain ⟨hi, e⟩ := List.getElem?_eq_some_iff.1 hrb
 obtain ⟨_, _, hs, h3, h4, h5⟩ := h.each i hi
 rw [e] at h3
 obtain ⟨v, hv⟩ : ∃ v, hs[q]? = some v := ⟨_, Array.getElem?_eq_getElem (by omega)⟩
 obtain ⟨m, q1, q2, q3, _⟩ := h5 q v hv
 obtain ⟨a, c, rfl⟩ := q1.slice
 refine ⟨a, m, c, q3, h3.lt, (h3.cell q).trans hv, fun j hj => ?_⟩
 obtain ⟨g, cap, cur, e, hh, _⟩ := q1.block (by omega)
 injection e with e _ _
 exact ⟨g, e, hh.lt, q2 g (by rw [e]; rfl) j hj⟩
end Go.Proofs.YthhibagcpjeihaaGreat
