import Derived.Test.YthhibagcpjeihaaGreatHLaw13ToRFacts2
import Derived.Test.YthhibagcpjeihaaGreatHPage1ToBook1
import Derived.Test.YthhibagcpjeihaaGreatHRef24ToRef29
import Derived.Test.YthhibagcpjeihaaGreatHRef10ToRef12
namespace Go.Proofs.YthhibagcpjeihaaGreat
open Go.RowKit
open M
set_option linter.unusedVariables false
set_option linter.unusedSimpArgs false
set_option maxRecDepth 100000
set_option maxHeartbeats 8000000
theorem maskv_dep {ops : Array Oper} {j k : Nat} {o : Oper} {a : Act} (ho : ops[j]? = some o) (hk : o.after.any (fun e => e.on == k && Region.binds .any e) = true) : maskv ops j a k = slotv ops k a := by
 unfold maskv
 rw [ho]
 simp only
 rw [if_pos hk]
def pagV (u : Value) (R : PageR) : Array Value := #[u, .int .i64 R.r, .int .i64 R.c, .int .i64 R.ep, .bool R.more]
def ROK (w : World) (R : PageR) (W : World) (u : Value) : Prop := W.ownsRow 0 63 6 u R.seats.length (R.seats.flatMap seaL) ∧ ∀ k, u.ownBlock = some k → w.heap.size ≤ k
structure StpQ (w : World) (R : PageR) (W W' : World) : Prop where
 has : ∀ b cs T', T' ≠ 146 → Has W b cs T' → Has W' b cs T'
 pg : ∀ b cs, Has W b cs 146 → cs.size = 5 → ∃ cs', Has W' b cs' 146 ∧ cs'.size = 5 ∧ (cs' = cs ∨ ∃ u, cs' = pagV u R ∧ ROK w R W' u)
theorem StpQ.mod {w : World} {R : PageR} {W W' : World} (h : Mod No W W') : StpQ w R W W' := ⟨fun _ _ _ _ q => h.has q (fun x => x), fun _ _ q hs => ⟨_, h.has q (fun x => x), hs, .inl rfl⟩⟩
theorem ROK.stp {w : World} {R : PageR} {W W' : World} {u : Value} (h : ROK w R W u) (hs : StpQ w R W W') : ROK w R W' u := by
 refine ⟨?_, h.2⟩
 obtain ⟨q, h1 | ⟨g, cap, cur, hv, hb, hh, r⟩⟩ := h.1
 ·exact ⟨q, .inl h1⟩
 ·exact ⟨q, .inr ⟨g, cap, cur, hv, hb, hs.has _ _ _ (by decide) hh, r⟩⟩
def FQ (w : World) (R : PageR) (ob fo xb : Nat) (n r c e size : Int) (i : Nat) (v : Value) (s : Nat → Value) (W : World) : Prop :=
 match i with
 | 0 | 1 => v = .pointer (some ⟨ob, 0, none⟩)
 | 2 => v = .pointer (some ⟨ob, fo, none⟩)
 | 3 => v = .pointer (some ⟨xb, 0, none⟩)
 | 4 => v = .int .i64 n
 | 5 => v = .agg #[.int .i64 r, .int .i64 c, .int .i64 e]
 | 6 => v = .int .i64 size
 | 7 | 8 => ∃ u, v = .tuple #[.agg (pagV u R), .int .i64 R.err] ∧ ROK w R W u
 | 9 => ∃ u, v = .agg (pagV u R) ∧ ROK w R W u
 | 10 | 13 => v = .int .i64 R.err
 | 11 => ∃ b cs, v = .pointer (some ⟨b, 0, none⟩) ∧ Has W b cs 146 ∧ cs.size = 5 ∧ w.heap.size ≤ b
 | 12 => ∃ b, s 11 = .pointer (some ⟨b, 0, none⟩) ∧ w.heap.size ≤ b ∧ ∃ cs, Has W b cs 146 ∧ cs.size = 5 ∧ ∃ u, cs = pagV u R ∧ ROK w R W u
 | _ => True
theorem FQ.stp {w : World} {R : PageR} {ob fo xb : Nat} {n r c e size : Int} (i : Nat) (v : Value) (s : Nat → Value) (W W' : World) (hs : StpQ w R W W') (h : FQ w R ob fo xb n r c e size i v s W) : FQ w R ob fo xb n r c e size i v s W' := by
 unfold FQ at h ⊢
 split at h
 all_goals first
  | exact h
  |(obtain ⟨u, h1, h2⟩ := h; exact ⟨u, h1, h2.stp hs⟩)
  |(obtain ⟨b, cs, h1, h2, h3, h4⟩ := h; obtain ⟨cs', q1, q2, q3⟩ := hs.pg b cs h2 h3; exact ⟨b, cs', h1, q1, q2, h4⟩)
  |(obtain ⟨b, h1, h2, cs, h3, h4, u, h5, h6⟩ := h
    obtain ⟨cs', q1, q2, q3⟩ := hs.pg b cs h3 h4
    refine ⟨b, h1, h2, cs', q1, q2, ?_⟩
    rcases q3 with rfl | q3
    ·exact ⟨u, h5, h6.stp hs⟩
    ·exact q3)
noncomputable def dCur : TypeDesc := (Tryz.prog.underlying 43).getD (.slice 0)
theorem undCur : Tryz.prog.underlying 43 = some dCur := by kernel_rfl
noncomputable def pgReg (n : Nat) : Code := regionNo (Tryz.f38.body.getD .skip) n
theorem pgr1 {w : World} {ob xb cb : Nat} {n r c e size : Int} {R : PageR} (hc1 : ∀ W, Mod No w W → W.cell? ⟨ob, 1, none⟩ = some (.pointer (some ⟨xb, 0, none⟩))) (hcur : Has w cb #[.int .i64 r, .int .i64 c, .int .i64 e] 43)
  (hcall : ∀ W, Mod No w W → Calls Tryz.prog 63 #[.pointer (some ⟨xb, 0, none⟩), .int .i64 n, .agg #[.int .i64 r, .int .i64 c, .int .i64 e], .int .i64 size] W fun e' w' => Told W w' e' R) (Q0 : Exit → Act → World → Prop) (sl0 sl3 sl5 sl6 sl7 sl9 sl10 sl11 sl12 sl13 sl14 sl15 sl16 sl17 sl18 sl19 sl20 sl21 sl22 sl23 sl24 sl25 sl26 sl27 sl28 sl29 sl30 sl31 sl32 sl33 sl34 sl35 sl36 sl37 sl38 sl39 sl40 sl41 sl42 sl43 sl44 sl45 sl46 sl47 sl48 sl49 sl50 sl51 sl52 sl53 sl54 sl55 sl56 sl57 sl58 sl59 : Value)
  (hexit : ∀ (x17 x18 x19 x20 x21 x22 x23 x24 x16 x25 x26 : Value) (b : Nat) (u : Value) (W : World), Hid (Mod No w W ∧ Has W b (pagV u R) 146 ∧ ROK w R W u ∧ w.heap.size ≤ b) → Q0 .normal ⟨#[sl0, .pointer (some ⟨ob, 0, none⟩), .int .i64 n, sl3, .int .i64 size, sl5, sl6, sl7, .pointer (some ⟨cb, 0, none⟩), sl9, sl10, .pointer (some ⟨b, 0, none⟩), .int .i64 R.err, sl13, sl14, sl15, x16, x17, x18, x19, x20, x21, x22, x23, x24, x25, x26, sl27, sl28, sl29, sl30, sl31, sl32, sl33, sl34, sl35, sl36, sl37, sl38, sl39, sl40, sl41, sl42, sl43, sl44, sl45, sl46, sl47, sl48, sl49, sl50, sl51, sl52, sl53, sl54, sl55, sl56, sl57, sl58, sl59], []⟩ W) :
  Code.wp Tryz.prog (pgReg 1) Q0 ⟨#[sl0, .pointer (some ⟨ob, 0, none⟩), .int .i64 n, sl3, .int .i64 size, sl5, sl6, sl7, .pointer (some ⟨cb, 0, none⟩), sl9, sl10, sl11, sl12, sl13, sl14, sl15, sl16, sl17, sl18, sl19, sl20, sl21, sl22, sl23, sl24, sl25, sl26, sl27, sl28, sl29, sl30, sl31, sl32, sl33, sl34, sl35, sl36, sl37, sl38, sl39, sl40, sl41, sl42, sl43, sl44, sl45, sl46, sl47, sl48, sl49, sl50, sl51, sl52, sl53, sl54, sl55, sl56, sl57, sl58, sl59], []⟩ w := by
 conv => arg 4; dsimp only
 conv => arg 2; whnf
 have HEX := hide hexit
 have HC1 := hide hc1
 have HCUR := hide hcur
 have HCALL := hide hcall
 clear hexit hc1 hcur hcall
 refine wp_region_M (n := 60) (fun W => Mod No w W) (StpQ w R) (FQ w R ob 1 xb n r c e size) (by kernel_rfl) rfl (by kernel_rfl) (fun i v s W W' hs h => h.stp i v s W W' hs) ?_ ?_ (Mod.refl No w).drew
 ·intro i o a W ho hfr hI hd
  have hi : i < 14 := (Array.getElem?_eq_some_iff.1 ho).1
  have E1 : a.eval (.tmp 1) = .pointer (some ⟨ob, 0, none⟩) := hfr.rest 1 (by kernel_rfl)
  have E2 : a.eval (.tmp 2) = .int .i64 n := hfr.rest 2 (by kernel_rfl)
  have E4 : a.eval (.tmp 4) = .int .i64 size := hfr.rest 4 (by kernel_rfl)
  have E8 : a.eval (.tmp 8) = .pointer (some ⟨cb, 0, none⟩) := hfr.rest 8 (by kernel_rfl)
  clear HEX hfr
  have hcases : i = 0 ∨ i = 1 ∨ i = 2 ∨ i = 3 ∨ i = 4 ∨ i = 5 ∨ i = 6 ∨ i = 7 ∨ i = 8 ∨ i = 9 ∨ i = 10 ∨ i = 11 ∨ i = 12 ∨ i = 13 := by omega
  rcases hcases with rfl | rfl | rfl | rfl | rfl | rfl | rfl | rfl | rfl | rfl | rfl | rfl | rfl | rfl
  all_goals
   replace ho := Option.some.inj (show some _ = some o from ho)
   subst ho
  ·refine wp_move_op _ rfl ?_
   exact ⟨_, rfl, hI, StpQ.mod (Mod.refl _ _), E1⟩
  ·have E17 : a.tmps[17]?.getD undef = .pointer (some ⟨ob, 0, none⟩) := by simpa using (show a.tmps.getD 17 undef = _ from hd ⟨0, .data⟩ (by simp) rfl)
   have HI := hide hI
   clear hd hI E1 E2 E4 E8 HC1 HCUR HCALL
   go_simp
   first | exact unhide HI | exact ⟨_, rfl, unhide HI, StpQ.mod (Mod.refl _ _), rfl⟩ | exact ⟨unhide HI, StpQ.mod (Mod.refl _ _), rfl⟩ | exact ⟨unhide HI, StpQ.mod (Mod.refl _ _)⟩
  ·have E18 : a.tmps[18]?.getD undef = .pointer (some ⟨ob, 0, none⟩) := by simpa using (show a.tmps.getD 18 undef = _ from hd ⟨1, .data⟩ (by simp) rfl)
   have HI := hide hI
   clear hd hI E1 E2 E4 E8 HC1 HCUR HCALL
   go_simp
   first | exact unhide HI | exact ⟨_, rfl, unhide HI, StpQ.mod (Mod.refl _ _), rfl⟩ | exact ⟨unhide HI, StpQ.mod (Mod.refl _ _), rfl⟩ | exact ⟨unhide HI, StpQ.mod (Mod.refl _ _)⟩
  ·have E19 : a.tmps[19]?.getD undef = .pointer (some ⟨ob, 1, none⟩) := by simpa using (show a.tmps.getD 19 undef = _ from hd ⟨2, .data⟩ (by simp) rfl)
   have c0 := (unhide HC1) W hI
   have HI := hide hI
   clear hd hI E1 E2 E4 E8 HC1 HCUR HCALL
   go_simp
   first | exact unhide HI | exact ⟨_, rfl, unhide HI, StpQ.mod (Mod.refl _ _), rfl⟩ | exact ⟨unhide HI, StpQ.mod (Mod.refl _ _), rfl⟩ | exact ⟨unhide HI, StpQ.mod (Mod.refl _ _)⟩
  ·refine wp_move_op _ rfl ?_
   exact ⟨_, rfl, hI, StpQ.mod (Mod.refl _ _), E2⟩
  ·refine wp_load_mid _ _ rfl cb 0 E8 [.int .i64 r, .int .i64 c, .int .i64 e] dCur ((hI.has (unhide HCUR) (fun x => x)).range 0 _ (fun j v h => by rw [Nat.zero_add]; simpa using h)) undCur (by kernel_rfl) (by kernel_rfl) ?_
   exact ⟨_, rfl, hI, StpQ.mod (Mod.refl _ _), rfl⟩
  ·refine wp_move_op _ rfl ?_
   exact ⟨_, rfl, hI, StpQ.mod (Mod.refl _ _), E4⟩
  ·have q0 : a.eval (.tmp 20) = .pointer (some ⟨xb, 0, none⟩) := hd ⟨3, .data⟩ (by simp) rfl
   have q1 : a.eval (.tmp 21) = .int .i64 n := hd ⟨4, .data⟩ (by simp) rfl
   have q2 : a.eval (.tmp 22) = .agg #[.int .i64 r, .int .i64 c, .int .i64 e] := hd ⟨5, .data⟩ (by simp) rfl
   have q3 : a.eval (.tmp 23) = .int .i64 size := hd ⟨6, .data⟩ (by simp) rfl
   refine wp_call_op 63 _ _ rfl #[.pointer (some ⟨xb, 0, none⟩), .int .i64 n, .agg #[.int .i64 r, .int .i64 c, .int .i64 e], .int .i64 size] (by simp [q0, q1, q2, q3]) (fun W => by kernel_rfl) ((unhide HCALL) W hI) ?_
   rintro e' w' ⟨⟨u, rfl, hu, hn⟩, hm⟩
   exact ⟨_, rfl, _, rfl, hI.trans hm, StpQ.mod hm, u, rfl, hu, fun k hk => Nat.le_trans hI.size (hn k hk)⟩
  ·have q0 : ∃ u, a.eval (.tmp 24) = .tuple #[.agg (pagV u R), .int .i64 R.err] ∧ ROK w R W u := hd ⟨7, .data⟩ (by simp) rfl
   refine wp_move_op _ rfl ?_
   exact ⟨_, rfl, hI, StpQ.mod (Mod.refl _ _), q0⟩
  ·obtain ⟨u, q0, q1⟩ : ∃ u, a.tmps.getD 16 undef = .tuple #[.agg (pagV u R), .int .i64 R.err] ∧ ROK w R W u := hd ⟨8, .data⟩ (by simp) rfl
   have q0 : a.tmps[16]?.getD undef = .tuple #[.agg (pagV u R), .int .i64 R.err] := by simpa using q0
   have HI := hide hI
   have Q1 := hide q1
   clear hd hI E1 E2 E4 E8 HC1 HCUR HCALL q1
   go_simp
   exact ⟨_, rfl, unhide HI, StpQ.mod (Mod.refl _ _), u, rfl, unhide Q1⟩
  ·obtain ⟨u, q0, q1⟩ : ∃ u, a.tmps.getD 16 undef = .tuple #[.agg (pagV u R), .int .i64 R.err] ∧ ROK w R W u := hd ⟨8, .data⟩ (by simp) rfl
   have q0 : a.tmps[16]?.getD undef = .tuple #[.agg (pagV u R), .int .i64 R.err] := by simpa using q0
   have HI := hide hI
   clear hd hI E1 E2 E4 E8 HC1 HCUR HCALL q1
   go_simp
   first | exact unhide HI | exact ⟨_, rfl, unhide HI, StpQ.mod (Mod.refl _ _), rfl⟩ | exact ⟨unhide HI, StpQ.mod (Mod.refl _ _), rfl⟩ | exact ⟨unhide HI, StpQ.mod (Mod.refl _ _)⟩
  ·have mA : Mod No W (W.alloc (.cells zeroPg 146)) := (Mod.refl No W).alloc _
   have HI := hide (hI.trans mA)
   have SS := hide (StpQ.mod (w := w) (R := R) mA)
   have FF := hide (show FQ w R ob 1 xb n r c e size 11 (.pointer (some ⟨W.heap.size, 0, none⟩)) (fun _ => undef) (W.alloc (.cells zeroPg 146)) from ⟨W.heap.size, zeroPg, rfl, Has.new W _ _, rfl, hI.size⟩)
   clear hd hI E1 E2 E4 E8 HC1 HCUR HCALL mA
   unfold zeroPg at HI SS FF
   go_simp
   exact ⟨_, rfl, unhide HI, unhide SS, unhide FF⟩
  ·obtain ⟨b, cs, q0, q1, q2, q3⟩ : ∃ b cs, a.eval (.tmp 11) = .pointer (some ⟨b, 0, none⟩) ∧ Has W b cs 146 ∧ cs.size = 5 ∧ w.heap.size ≤ b := hd ⟨11, .data⟩ (by simp) rfl
   obtain ⟨u, p0, p1⟩ : ∃ u, a.eval (.tmp 25) = .agg (pagV u R) ∧ ROK w R W u := hd ⟨9, .data⟩ (by simp) rfl
   obtain ⟨au, cu, rfl⟩ := slice_of_owns p1.1
   refine wp_store_mid _ _ _ rfl b 0 (pagV (.slice au R.seats.length cu) R) q0 p0 (q1.there 0 5 (by omega)) (by kernel_rfl) (by simp [pagV, Value.oneCell']) ?_
   have hN : Has (W.setCells b 0 (pagV (.slice au R.seats.length cu) R).toList) b (pagV (.slice au R.seats.length cu) R) 146 := by
    have := Has.setCells (pagV (.slice au R.seats.length cu) R).toList 0 W _ q1
    rwa [setAll_whole _ _ (by rw [q2]; rfl)] at this
   have hM : Mod (fun k => k = b) W (W.setCells b 0 (pagV (.slice au R.seats.length cu) R).toList) := Mod.setCells (S := fun k => k = b) (.inl rfl) _ 0 W (Mod.refl _ _)
   have hS : StpQ w R W (W.setCells b 0 (pagV (.slice au R.seats.length cu) R).toList) := by
    have hhas : ∀ b' cs T', T' ≠ 146 → Has W b' cs T' → Has (W.setCells b 0 (pagV (.slice au R.seats.length cu) R).toList) b' cs T' := fun b' cs T' hT h => hM.has h (h.ne q1 hT)
    have hR : ROK w R (W.setCells b 0 (pagV (.slice au R.seats.length cu) R).toList) (.slice au R.seats.length cu) := by
     refine ⟨?_, p1.2⟩
     obtain ⟨q, h1 | ⟨g, cap, cur, hv, hb, hh, r⟩⟩ := p1.1
     ·exact ⟨q, .inl h1⟩
     ·exact ⟨q, .inr ⟨g, cap, cur, hv, hb, hhas _ _ _ (by decide) hh, r⟩⟩
    refine ⟨hhas, fun b' cs' h hs => ?_⟩
    by_cases e : b' = b
    ·subst e
     exact ⟨_, hN, rfl, .inr ⟨_, rfl, hR⟩⟩
    ·exact ⟨cs', hM.has h e, hs, .inl rfl⟩
   refine ⟨undef, rfl, hI.trans' hM (fun k hk hl => by omega), hS, b, ?_, q3, _, hN, rfl, _, rfl, p1.stp hS⟩
   exact (maskv_dep (k := 11) rfl (by kernel_rfl)).trans q0
  ·have q0 : a.eval (.tmp 26) = .int .i64 R.err := hd ⟨10, .data⟩ (by simp) rfl
   refine wp_assign_op _ rfl ?_
   exact ⟨_, rfl, hI, StpQ.mod (Mod.refl _ _), q0⟩
 ·intro a W hfr hI hF
  obtain ⟨b, h1, h2, cs, h3, h4, u, rfl, h6⟩ := hF 12 (by decide)
  have h1 : a.tmps.getD 11 undef = .pointer (some ⟨b, 0, none⟩) := (maskv_dep (k := 11) rfl (by kernel_rfl)).symm.trans h1
  have h13 : a.tmps.getD 12 undef = .int .i64 R.err := hF 13 (by decide)
  have hl2 := hfr.lit
  rw [hl2]
  clear hl2
  simp only [List.filterMap_cons, List.filterMap_nil, List.foldl_cons, List.foldl_nil, List.setIfInBounds_toArray, List.set_cons_zero, List.set_cons_succ, h1, h13]
  exact (unhide HEX) _ _ _ _ _ _ _ _ _ _ _ b u W ⟨hI, h3, h6, h2⟩
theorem pgr2 {w : World} {ob xb cb : Nat} {n r c e size : Int} {R : PageR} (hc1 : ∀ W, Mod No w W → W.cell? ⟨ob, 2, none⟩ = some (.pointer (some ⟨xb, 0, none⟩))) (hcur : Has w cb #[.int .i64 r, .int .i64 c, .int .i64 e] 43)
  (hcall : ∀ W, Mod No w W → Calls Tryz.prog 64 #[.pointer (some ⟨xb, 0, none⟩), .int .i64 n, .agg #[.int .i64 r, .int .i64 c, .int .i64 e], .int .i64 size] W fun e' w' => Told W w' e' R) (Q0 : Exit → Act → World → Prop) (sl0 sl3 sl5 sl6 sl7 sl9 sl10 sl11 sl12 sl13 sl14 sl15 sl16 sl17 sl18 sl19 sl20 sl21 sl22 sl23 sl24 sl25 sl26 sl27 sl28 sl29 sl30 sl31 sl32 sl33 sl34 sl35 sl36 sl37 sl38 sl39 sl40 sl41 sl42 sl43 sl44 sl45 sl46 sl47 sl48 sl49 sl50 sl51 sl52 sl53 sl54 sl55 sl56 sl57 sl58 sl59 : Value)
  (hexit : ∀ (x28 x29 x30 x31 x32 x33 x34 x35 x27 x36 x37 : Value) (b : Nat) (u : Value) (W : World), Hid (Mod No w W ∧ Has W b (pagV u R) 146 ∧ ROK w R W u ∧ w.heap.size ≤ b) → Q0 .normal ⟨#[sl0, .pointer (some ⟨ob, 0, none⟩), .int .i64 n, sl3, .int .i64 size, sl5, sl6, sl7, .pointer (some ⟨cb, 0, none⟩), sl9, sl10, sl11, sl12, .pointer (some ⟨b, 0, none⟩), .int .i64 R.err, sl15, sl16, sl17, sl18, sl19, sl20, sl21, sl22, sl23, sl24, sl25, sl26, x27, x28, x29, x30, x31, x32, x33, x34, x35, x36, x37, sl38, sl39, sl40, sl41, sl42, sl43, sl44, sl45, sl46, sl47, sl48, sl49, sl50, sl51, sl52, sl53, sl54, sl55, sl56, sl57, sl58, sl59], []⟩ W) :
  Code.wp Tryz.prog (pgReg 2) Q0 ⟨#[sl0, .pointer (some ⟨ob, 0, none⟩), .int .i64 n, sl3, .int .i64 size, sl5, sl6, sl7, .pointer (some ⟨cb, 0, none⟩), sl9, sl10, sl11, sl12, sl13, sl14, sl15, sl16, sl17, sl18, sl19, sl20, sl21, sl22, sl23, sl24, sl25, sl26, sl27, sl28, sl29, sl30, sl31, sl32, sl33, sl34, sl35, sl36, sl37, sl38, sl39, sl40, sl41, sl42, sl43, sl44, sl45, sl46, sl47, sl48, sl49, sl50, sl51, sl52, sl53, sl54, sl55, sl56, sl57, sl58, sl59], []⟩ w := by
 conv => arg 4; dsimp only
 conv => arg 2; whnf
 have HEX := hide hexit
 have HC1 := hide hc1
 have HCUR := hide hcur
 have HCALL := hide hcall
 clear hexit hc1 hcur hcall
 refine wp_region_M (n := 60) (fun W => Mod No w W) (StpQ w R) (FQ w R ob 2 xb n r c e size) (by kernel_rfl) rfl (by kernel_rfl) (fun i v s W W' hs h => h.stp i v s W W' hs) ?_ ?_ (Mod.refl No w).drew
 ·intro i o a W ho hfr hI hd
  have hi : i < 14 := (Array.getElem?_eq_some_iff.1 ho).1
  have E1 : a.eval (.tmp 1) = .pointer (some ⟨ob, 0, none⟩) := hfr.rest 1 (by kernel_rfl)
  have E2 : a.eval (.tmp 2) = .int .i64 n := hfr.rest 2 (by kernel_rfl)
  have E4 : a.eval (.tmp 4) = .int .i64 size := hfr.rest 4 (by kernel_rfl)
  have E8 : a.eval (.tmp 8) = .pointer (some ⟨cb, 0, none⟩) := hfr.rest 8 (by kernel_rfl)
  clear HEX hfr
  have hcases : i = 0 ∨ i = 1 ∨ i = 2 ∨ i = 3 ∨ i = 4 ∨ i = 5 ∨ i = 6 ∨ i = 7 ∨ i = 8 ∨ i = 9 ∨ i = 10 ∨ i = 11 ∨ i = 12 ∨ i = 13 := by omega
  rcases hcases with rfl | rfl | rfl | rfl | rfl | rfl | rfl | rfl | rfl | rfl | rfl | rfl | rfl | rfl
  all_goals
   replace ho := Option.some.inj (show some _ = some o from ho)
   subst ho
  ·refine wp_move_op _ rfl ?_
   exact ⟨_, rfl, hI, StpQ.mod (Mod.refl _ _), E1⟩
  ·have E28 : a.tmps[28]?.getD undef = .pointer (some ⟨ob, 0, none⟩) := by simpa using (show a.tmps.getD 28 undef = _ from hd ⟨0, .data⟩ (by simp) rfl)
   have HI := hide hI
   clear hd hI E1 E2 E4 E8 HC1 HCUR HCALL
   go_simp
   first | exact unhide HI | exact ⟨_, rfl, unhide HI, StpQ.mod (Mod.refl _ _), rfl⟩ | exact ⟨unhide HI, StpQ.mod (Mod.refl _ _), rfl⟩ | exact ⟨unhide HI, StpQ.mod (Mod.refl _ _)⟩
  ·have E29 : a.tmps[29]?.getD undef = .pointer (some ⟨ob, 0, none⟩) := by simpa using (show a.tmps.getD 29 undef = _ from hd ⟨1, .data⟩ (by simp) rfl)
   have HI := hide hI
   clear hd hI E1 E2 E4 E8 HC1 HCUR HCALL
   go_simp
   first | exact unhide HI | exact ⟨_, rfl, unhide HI, StpQ.mod (Mod.refl _ _), rfl⟩ | exact ⟨unhide HI, StpQ.mod (Mod.refl _ _), rfl⟩ | exact ⟨unhide HI, StpQ.mod (Mod.refl _ _)⟩
  ·have E30 : a.tmps[30]?.getD undef = .pointer (some ⟨ob, 2, none⟩) := by simpa using (show a.tmps.getD 30 undef = _ from hd ⟨2, .data⟩ (by simp) rfl)
   have c0 := (unhide HC1) W hI
   have HI := hide hI
   clear hd hI E1 E2 E4 E8 HC1 HCUR HCALL
   go_simp
   first | exact unhide HI | exact ⟨_, rfl, unhide HI, StpQ.mod (Mod.refl _ _), rfl⟩ | exact ⟨unhide HI, StpQ.mod (Mod.refl _ _), rfl⟩ | exact ⟨unhide HI, StpQ.mod (Mod.refl _ _)⟩
  ·refine wp_move_op _ rfl ?_
   exact ⟨_, rfl, hI, StpQ.mod (Mod.refl _ _), E2⟩
  ·refine wp_load_mid _ _ rfl cb 0 E8 [.int .i64 r, .int .i64 c, .int .i64 e] dCur ((hI.has (unhide HCUR) (fun x => x)).range 0 _ (fun j v h => by rw [Nat.zero_add]; simpa using h)) undCur (by kernel_rfl) (by kernel_rfl) ?_
   exact ⟨_, rfl, hI, StpQ.mod (Mod.refl _ _), rfl⟩
  ·refine wp_move_op _ rfl ?_
   exact ⟨_, rfl, hI, StpQ.mod (Mod.refl _ _), E4⟩
  ·have q0 : a.eval (.tmp 31) = .pointer (some ⟨xb, 0, none⟩) := hd ⟨3, .data⟩ (by simp) rfl
   have q1 : a.eval (.tmp 32) = .int .i64 n := hd ⟨4, .data⟩ (by simp) rfl
   have q2 : a.eval (.tmp 33) = .agg #[.int .i64 r, .int .i64 c, .int .i64 e] := hd ⟨5, .data⟩ (by simp) rfl
   have q3 : a.eval (.tmp 34) = .int .i64 size := hd ⟨6, .data⟩ (by simp) rfl
   refine wp_call_op 64 _ _ rfl #[.pointer (some ⟨xb, 0, none⟩), .int .i64 n, .agg #[.int .i64 r, .int .i64 c, .int .i64 e], .int .i64 size] (by simp [q0, q1, q2, q3]) (fun W => by kernel_rfl) ((unhide HCALL) W hI) ?_
   rintro e' w' ⟨⟨u, rfl, hu, hn⟩, hm⟩
   exact ⟨_, rfl, _, rfl, hI.trans hm, StpQ.mod hm, u, rfl, hu, fun k hk => Nat.le_trans hI.size (hn k hk)⟩
  ·have q0 : ∃ u, a.eval (.tmp 35) = .tuple #[.agg (pagV u R), .int .i64 R.err] ∧ ROK w R W u := hd ⟨7, .data⟩ (by simp) rfl
   refine wp_move_op _ rfl ?_
   exact ⟨_, rfl, hI, StpQ.mod (Mod.refl _ _), q0⟩
  ·obtain ⟨u, q0, q1⟩ : ∃ u, a.tmps.getD 27 undef = .tuple #[.agg (pagV u R), .int .i64 R.err] ∧ ROK w R W u := hd ⟨8, .data⟩ (by simp) rfl
   have q0 : a.tmps[27]?.getD undef = .tuple #[.agg (pagV u R), .int .i64 R.err] := by simpa using q0
   have HI := hide hI
   have Q1 := hide q1
   clear hd hI E1 E2 E4 E8 HC1 HCUR HCALL q1
   go_simp
   exact ⟨_, rfl, unhide HI, StpQ.mod (Mod.refl _ _), u, rfl, unhide Q1⟩
  ·obtain ⟨u, q0, q1⟩ : ∃ u, a.tmps.getD 27 undef = .tuple #[.agg (pagV u R), .int .i64 R.err] ∧ ROK w R W u := hd ⟨8, .data⟩ (by simp) rfl
   have q0 : a.tmps[27]?.getD undef = .tuple #[.agg (pagV u R), .int .i64 R.err] := by simpa using q0
   have HI := hide hI
   clear hd hI E1 E2 E4 E8 HC1 HCUR HCALL q1
   go_simp
   first | exact unhide HI | exact ⟨_, rfl, unhide HI, StpQ.mod (Mod.refl _ _), rfl⟩ | exact ⟨unhide HI, StpQ.mod (Mod.refl _ _), rfl⟩ | exact ⟨unhide HI, StpQ.mod (Mod.refl _ _)⟩
  ·have mA : Mod No W (W.alloc (.cells zeroPg 146)) := (Mod.refl No W).alloc _
   have HI := hide (hI.trans mA)
   have SS := hide (StpQ.mod (w := w) (R := R) mA)
   have FF := hide (show FQ w R ob 2 xb n r c e size 11 (.pointer (some ⟨W.heap.size, 0, none⟩)) (fun _ => undef) (W.alloc (.cells zeroPg 146)) from ⟨W.heap.size, zeroPg, rfl, Has.new W _ _, rfl, hI.size⟩)
   clear hd hI E1 E2 E4 E8 HC1 HCUR HCALL mA
   unfold zeroPg at HI SS FF
   go_simp
   exact ⟨_, rfl, unhide HI, unhide SS, unhide FF⟩
  ·obtain ⟨b, cs, q0, q1, q2, q3⟩ : ∃ b cs, a.eval (.tmp 13) = .pointer (some ⟨b, 0, none⟩) ∧ Has W b cs 146 ∧ cs.size = 5 ∧ w.heap.size ≤ b := hd ⟨11, .data⟩ (by simp) rfl
   obtain ⟨u, p0, p1⟩ : ∃ u, a.eval (.tmp 36) = .agg (pagV u R) ∧ ROK w R W u := hd ⟨9, .data⟩ (by simp) rfl
   obtain ⟨au, cu, rfl⟩ := slice_of_owns p1.1
   refine wp_store_mid _ _ _ rfl b 0 (pagV (.slice au R.seats.length cu) R) q0 p0 (q1.there 0 5 (by omega)) (by kernel_rfl) (by simp [pagV, Value.oneCell']) ?_
   have hN : Has (W.setCells b 0 (pagV (.slice au R.seats.length cu) R).toList) b (pagV (.slice au R.seats.length cu) R) 146 := by
    have := Has.setCells (pagV (.slice au R.seats.length cu) R).toList 0 W _ q1
    rwa [setAll_whole _ _ (by rw [q2]; rfl)] at this
   have hM : Mod (fun k => k = b) W (W.setCells b 0 (pagV (.slice au R.seats.length cu) R).toList) := Mod.setCells (S := fun k => k = b) (.inl rfl) _ 0 W (Mod.refl _ _)
   have hS : StpQ w R W (W.setCells b 0 (pagV (.slice au R.seats.length cu) R).toList) := by
    have hhas : ∀ b' cs T', T' ≠ 146 → Has W b' cs T' → Has (W.setCells b 0 (pagV (.slice au R.seats.length cu) R).toList) b' cs T' := fun b' cs T' hT h => hM.has h (h.ne q1 hT)
    have hR : ROK w R (W.setCells b 0 (pagV (.slice au R.seats.length cu) R).toList) (.slice au R.seats.length cu) := by
     refine ⟨?_, p1.2⟩
     obtain ⟨q, h1 | ⟨g, cap, cur, hv, hb, hh, r⟩⟩ := p1.1
     ·exact ⟨q, .inl h1⟩
     ·exact ⟨q, .inr ⟨g, cap, cur, hv, hb, hhas _ _ _ (by decide) hh, r⟩⟩
    refine ⟨hhas, fun b' cs' h hs => ?_⟩
    by_cases e : b' = b
    ·subst e
     exact ⟨_, hN, rfl, .inr ⟨_, rfl, hR⟩⟩
    ·exact ⟨cs', hM.has h e, hs, .inl rfl⟩
   refine ⟨undef, rfl, hI.trans' hM (fun k hk hl => by omega), hS, b, ?_, q3, _, hN, rfl, _, rfl, p1.stp hS⟩
   exact (maskv_dep (k := 11) rfl (by kernel_rfl)).trans q0
  ·have q0 : a.eval (.tmp 37) = .int .i64 R.err := hd ⟨10, .data⟩ (by simp) rfl
   refine wp_assign_op _ rfl ?_
   exact ⟨_, rfl, hI, StpQ.mod (Mod.refl _ _), q0⟩
 ·intro a W hfr hI hF
  obtain ⟨b, h1, h2, cs, h3, h4, u, rfl, h6⟩ := hF 12 (by decide)
  have h1 : a.tmps.getD 13 undef = .pointer (some ⟨b, 0, none⟩) := (maskv_dep (k := 11) rfl (by kernel_rfl)).symm.trans h1
  have h13 : a.tmps.getD 14 undef = .int .i64 R.err := hF 13 (by decide)
  have hl2 := hfr.lit
  rw [hl2]
  clear hl2
  simp only [List.filterMap_cons, List.filterMap_nil, List.foldl_cons, List.foldl_nil, List.setIfInBounds_toArray, List.set_cons_zero, List.set_cons_succ, h1, h13]
  exact (unhide HEX) _ _ _ _ _ _ _ _ _ _ _ b u W ⟨hI, h3, h6, h2⟩
theorem FlR.box {w : World} {b : Nat} {x : FR} (hb : Has w b (friV x) 134) (hr : RowS w x.g x.cap x.f.seats) (hwf : Wf x.f.pla x.f.seats) (hne : b ≠ x.g) : FlR w b 0 x.g x.cap x.f.pla x.f.seats := by
 refine ⟨hr, Nat.le_trans (wf_len hwf) (by omega), hne, hb.cell 8, fun j hj => ?_⟩
 rw [hb.cell]
 match j, hj with | 0, _ => rfl | 1, _ => rfl | 2, _ => rfl | 3, _ => rfl
structure SpgI (w wx : World) (x : FR) (pb : Nat) (D : List Sea) (r c : Int) (more : Bool) (v : Value) (i j : Nat) : Prop where
 mod : Mod No w wx
 res : Has wx (w.heap.size + 1) zeroPg 146
 box : Has wx (w.heap.size + 1 + 1) (friV x) 134
 page : Has wx pb #[v, .int .i64 (lastAt r c (D.take j)).1, .int .i64 (lastAt r c (D.take j)).2, .int .i64 x.f.ep, .bool more] 146
 row : wx.ownsRow 0 63 6 v i ((D.take i).flatMap seaL)
 new : ∀ k, v.ownBlock = some k → w.heap.size ≤ k ∧ k ≠ pb ∧ k ≠ w.heap.size + 1 ∧ k ≠ w.heap.size + 1 + 1
 pbn : w.heap.size ≤ pb ∧ pb ≠ w.heap.size + 1 ∧ pb ≠ w.heap.size + 1 + 1
theorem SpgI.still {w wx wy : World} {x : FR} {pb : Nat} {D : List Sea} {r c : Int} {more : Bool} {v : Value} {i j : Nat} (h : SpgI w wx x pb D r c more v i j) (hm : Mod No wx wy) : SpgI w wy x pb D r c more v i j :=
 ⟨h.mod.trans hm, hm.has h.res (fun x => x), hm.has h.box (fun x => x), hm.has h.page (fun x => x), hm.owns h.row (fun _ _ x => x), h.new, h.pbn⟩
theorem SpgI.start {w wx : World} {x : FR} {D : List Sea} {r c : Int} {more : Bool} (hm : Mod No w wx) (hr : Has wx (w.heap.size + 1) zeroPg 146) (hb : Has wx (w.heap.size + 1 + 1) (friV x) 134) :
  SpgI w (wx.alloc (.cells #[.slice none 0 0, .int .i64 r, .int .i64 c, .int .i64 x.f.ep, .bool more] 146)) x wx.heap.size D r c more (.slice none 0 0) 0 0 :=
 ⟨hm.alloc _, hr.alloc _, hb.alloc _, Has.new wx _ _, World.ownsRow_nil _ _ _ _, fun k hk => by simp [Value.ownBlock] at hk, hm.size, by have := hr.lt; omega, by have := hb.lt; omega⟩
theorem SpgI.end_ {w wx : World} {x : FR} {pb : Nat} {D : List Sea} {r c : Int} {more : Bool} {v : Value} {i : Nat} (h : SpgI w wx x pb D r c more v (i + 1) i) (hi : i < D.length) :
  SpgI w ((wx.setCell ⟨pb, 1, none⟩ (.int .i64 D[i].row)).setCell ⟨pb, 2, none⟩ (.int .i64 D[i].col)) x pb D r c more v (i + 1) (i + 1) := by
 have hm2 : Mod (fun k => k = pb) wx ((wx.setCell ⟨pb, 1, none⟩ (.int .i64 D[i].row)).setCell ⟨pb, 2, none⟩ (.int .i64 D[i].col)) := ((Mod.refl _ wx).at 1 _).at 2 _
 refine ⟨h.mod.trans' hm2 (fun k hk hl => by have := h.pbn.1; omega), hm2.has h.res (fun e => h.pbn.2.1 e.symm), hm2.has h.box (fun e => h.pbn.2.2 e.symm), ?_, hm2.owns h.row (fun k hk e => (h.new k hk).2.1 e), h.new, h.pbn⟩
 rw [lastAt_succ r c D i hi]
 exact (h.page.set 1 _).set 2 _
theorem SpgI.told {w wx : World} {x : FR} {pb : Nat} {D : List Sea} {r c : Int} {more : Bool} {a : Option Addr} {cp : Nat} (h : SpgI w wx x pb D r c more (.slice a D.length cp) D.length D.length) :
  Told w (((((wx.setCell ⟨w.heap.size + 1, 0, none⟩ (.slice a D.length cp)).setCell ⟨w.heap.size + 1, 1, none⟩ (.int .i64 (lastAt r c D).1)).setCell ⟨w.heap.size + 1, 2, none⟩ (.int .i64 (lastAt r c D).2)).setCell ⟨w.heap.size + 1, 3, none⟩ (.int .i64 x.f.ep)).setCell ⟨w.heap.size + 1, 4, none⟩ (.bool more))
   (.returned (.tuple #[.agg #[.slice a D.length cp, .int .i64 (lastAt r c D).1, .int .i64 (lastAt r c D).2, .int .i64 x.f.ep, .bool more], .int .i64 0])) ⟨D, (lastAt r c D).1, (lastAt r c D).2, x.f.ep, more, 0⟩ := by
 have hp : ∀ o, No (⟨w.heap.size + 1, o, none⟩ : Addr).block ∨ w.heap.size ≤ (⟨w.heap.size + 1, o, none⟩ : Addr).block := fun o => .inr (by simp)
 have hrow := h.row
 rw [List.take_length] at hrow
 refine ⟨⟨_, rfl, ?_, fun k hk => (h.new k hk).1⟩, ((((h.mod.setCell (hp 0) _).setCell (hp 1) _).setCell (hp 2) _).setCell (hp 3) _).setCell (hp 4) _⟩
 exact ((((Mod.refl (fun k => k = w.heap.size + 1) wx).at 0 _).at 1 _).at 2 _ |>.at 3 _ |>.at 4 _).owns hrow (fun k hk e => (h.new k hk).2.2.1 e)
end Go.Proofs.YthhibagcpjeihaaGreat
