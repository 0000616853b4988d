import Derived.Test.YthhibagcpjeihaaGreatHPage2ToRef41
import Derived.Test.YthhibagcpjeihaaGreatHRef31ToRef34
import Derived.Test.YthhibagcpjeihaaGreatHLaw13ToRFacts2
import Derived.Test.YthhibagcpjeihaaGreatHPage1ToBook1
import Derived.Handy
namespace Go.Proofs.YthhibagcpjeihaaGreat
open Go.RowKit
open M
set_option linter.unusedVariables false
set_option linter.unusedSimpArgs false
set_option maxRecDepth 100000
set_option maxHeartbeats 16000000
noncomputable def pgsLoop (n : Nat) : Code := ((loopsOf (Tryz.f64.body.getD .skip))[n]?).getD .skip
noncomputable def dSeat : TypeDesc := (Tryz.prog.underlying 63).getD (.slice 0)
theorem undSeat : Tryz.prog.underlying 63 = some dSeat := by kernel_rfl
theorem SpgI.app {w W W' : World} {x : FR} {pb : Nat} {D : List Sea} {r c : Int} {more : Bool} {v : Value} {i j : Nat} (h : SpgI w W x pb D r c more v i j) (hm : Mod (fun k => v.ownBlock = some k) W W') (hst : W'.ownsRow 0 63 6 v i ((D.take i).flatMap seaL)) : SpgI w W' x pb D r c more v i j :=
 ⟨h.mod.trans' hm (fun k hk hl => by have := (h.new k hk).1; omega), hm.has h.res (fun e => (h.new _ e).2.2.1 rfl), hm.has h.box (fun e => (h.new _ e).2.2.2 rfl), hm.has h.page (fun e => (h.new _ e).2.1 rfl), hst, h.new, h.pbn⟩
theorem SpgI.put2 {w W : World} {x : FR} {pb : Nat} {D : List Sea} {r c : Int} {more : Bool} {v v' : Value} {i : Nat} (h : SpgI w W x pb D r c more v i i) (hi : i < D.length)
  (ho : W.ownsRow 0 63 6 v' (i + 1) (((D.take i).flatMap seaL) ++ seaL D[i])) (hn : ∀ k, v'.ownBlock = some k → w.heap.size ≤ k ∧ k ≠ pb ∧ k ≠ w.heap.size + 1 ∧ k ≠ w.heap.size + 1 + 1) : SpgI w (W.setCell ⟨pb, 0, none⟩ v') x pb D r c more v' (i + 1) i := by
 have hm : Mod (fun k => k = pb) W (W.setCell ⟨pb, 0, none⟩ v') := (Mod.refl (fun k => k = pb) W).setCell (p := ⟨pb, 0, none⟩) (.inl rfl) _
 refine ⟨h.mod.trans' hm (fun k hk hl => by have := h.pbn.1; omega), hm.has h.res (fun e => h.pbn.2.1 e.symm), hm.has h.box (fun e => h.pbn.2.2 e.symm), h.page.set 0 v', ?_, hn, h.pbn⟩
 have : (D.take (i + 1)).flatMap seaL = (D.take i).flatMap seaL ++ seaL D[i] := by rw [take_succ D i hi, List.flatMap_append]; simp
 rw [this]
 exact hm.owns ho (fun k hk => (hn k hk).2.1)
def FP (w : World) (x : FR) (pb p q : Nat) (D : List Sea) (sd : Sea) (l : Value) (i : Nat) (v : Value) (W : World) : Prop :=
 match i with
 | 0 | 9 => v = .pointer (some ⟨pb, 0, none⟩)
 | 1 => v = l
 | 2 => v = .pointer (some ⟨w.heap.size + 1 + 1, 8, none⟩)
 | 3 => v = .slice (some ⟨x.g, 0, none⟩) x.f.seats.length x.cap
 | 4 => v = .int .i64 (p : Int)
 | 5 => v = .pointer (some ⟨x.g, p * 6, none⟩)
 | 6 => v = .agg (seaV sd)
 | 7 => ∃ b, v = .slice (some ⟨b, 0, none⟩) 1 1 ∧ Has W b (seaV sd) 63 ∧ l.ownBlock ≠ some b
 | 8 => W.ownsRow 0 63 6 v (q + 1) (((D.take q).flatMap seaL) ++ seaL sd) ∧ ∀ k, v.ownBlock = some k → w.heap.size ≤ k ∧ k ≠ pb ∧ k ≠ w.heap.size + 1 ∧ k ≠ w.heap.size + 1 + 1
 | _ => True
structure StpP (q : Nat) (D : List Sea) (sd : Sea) (l : Value) (W W' : World) : Prop where
 has : ∀ b cs T', Has W b cs T' → l.ownBlock ≠ some b → Has W' b cs T'
 row : ∀ u, W.ownsRow 0 63 6 u (q + 1) (((D.take q).flatMap seaL) ++ seaL sd) → W'.ownsRow 0 63 6 u (q + 1) (((D.take q).flatMap seaL) ++ seaL sd)
theorem StpP.refl (q : Nat) (D : List Sea) (sd : Sea) (l : Value) (W : World) : StpP q D sd l W W := ⟨fun _ _ _ h _ => h, fun _ h => h⟩
theorem FP.stp {w : World} {x : FR} {pb p q : Nat} {D : List Sea} {sd : Sea} {l : Value} (i : Nat) (v : Value) (W W' : World) (hs : StpP q D sd l W W') (h : FP w x pb p q D sd l i v W) : FP w x pb p q D sd l i v W' := by
 unfold FP at h ⊢
 split at h
 all_goals first
  | exact h
  |(obtain ⟨b, h1, h2, h3⟩ := h; exact ⟨b, h1, hs.has _ _ _ h2 h3, h3⟩)
  | exact ⟨hs.row _ h.1, h.2⟩
theorem spg_walk {w w0 : World} {x : FR} {pb first : Nat} {D : List Sea} {r c E F : Int} {more : Bool} (hrs : Hid (RowS w x.g x.cap x.f.seats)) (hG : Hid (∀ j (hj : j < D.length), ∃ hi : first + j < x.f.seats.length, x.f.seats[first + j] = D[j]))
  (h120 : Hid (first + D.length ≤ 120)) (hE : Hid (E = (first : Int) + (D.length : Int))) (hF : Hid (F = (first : Int))) (Q0 : Exit → Act → World → Prop)
  (hI : Hid (SpgI w w0 x pb D r c more (.slice none 0 0) 0 0)) (sl0 sl1 sl2 sl3 sl4 sl5 sl6 sl7 sl8 sl9 sl10 sl12 sl13 sl14 sl18 sl19 sl20 sl21 sl22 sl23 sl24 sl25 sl26 sl27 sl28 sl29 sl30 sl31 sl32 sl33 sl34 sl35 sl36 sl37 sl38 sl39 sl40 sl41 sl42 sl43 sl44 sl45 sl46 sl47 sl48 sl49 sl50 sl51 sl52 sl53 sl54 sl55 sl56 sl57 sl58 sl59 sl60 sl61 sl62 sl63 sl64 sl65 sl66 sl67 sl68 sl69 sl70 sl71 sl72 sl73 sl74 sl75 sl76 sl77 sl78 sl79 sl80 sl81 sl82 sl83 sl84 sl85 sl86 sl87 sl88 sl89 sl90 sl91 sl92 sl93 sl94 sl95 sl96 sl97 sl98 sl99 sl100 sl101 sl102 sl103 sl104 sl105 sl106 sl107 sl108 sl109 sl110 sl111 sl112 sl113 sl114 sl115 sl116 sl117 sl118 sl119 sl120 sl121 sl122 sl123 sl124 sl125 sl126 sl127 : Value)
  (hexit : ∀ (x17 x104 x105 x106 x107 x108 x109 x110 x111 x112 x113 x114 x115 x116 x117 x118 x119 x120 x121 x122 x123 x124 x125 x126 : Value) (a : Option Addr) (cp : Nat) (wx : World), Hid (SpgI w wx x pb D r c more (.slice a D.length cp) D.length D.length) → Q0 (.exit 1) ⟨#[sl0, sl1, sl2, sl3, sl4, sl5, sl6, sl7, sl8, sl9, sl10, .pointer (some ⟨w.heap.size + 1 + 1, 0, none⟩), sl12, sl13, sl14, .int .i64 E, .pointer (some ⟨pb, 0, none⟩), x17, sl18, sl19, sl20, sl21, sl22, sl23, sl24, sl25, sl26, sl27, sl28, sl29, sl30, sl31, sl32, sl33, sl34, sl35, sl36, sl37, sl38, sl39, sl40, sl41, sl42, sl43, sl44, sl45, sl46, sl47, sl48, sl49, sl50, sl51, sl52, sl53, sl54, sl55, sl56, sl57, sl58, sl59, sl60, sl61, sl62, sl63, sl64, sl65, sl66, sl67, sl68, sl69, sl70, sl71, sl72, sl73, sl74, sl75, sl76, sl77, sl78, sl79, sl80, sl81, sl82, sl83, sl84, sl85, sl86, sl87, sl88, sl89, sl90, sl91, sl92, sl93, sl94, sl95, sl96, sl97, sl98, sl99, sl100, sl101, sl102, sl103, x104, x105, x106, x107, x108, x109, x110, x111, x112, x113, x114, x115, x116, x117, x118, x119, x120, x121, x122, x123, x124, x125, x126, sl127], []⟩ wx) :
  Code.wp Tryz.prog (pgsLoop 0) Q0 ⟨#[sl0, sl1, sl2, sl3, sl4, sl5, sl6, sl7, sl8, sl9, sl10, .pointer (some ⟨w.heap.size + 1 + 1, 0, none⟩), sl12, sl13, sl14, .int .i64 E, .pointer (some ⟨pb, 0, none⟩), .int .i64 F, sl18, sl19, sl20, sl21, sl22, sl23, sl24, sl25, sl26, sl27, sl28, sl29, sl30, sl31, sl32, sl33, sl34, sl35, sl36, sl37, sl38, sl39, sl40, sl41, sl42, sl43, sl44, sl45, sl46, sl47, sl48, sl49, sl50, sl51, sl52, sl53, sl54, sl55, sl56, sl57, sl58, sl59, sl60, sl61, sl62, sl63, sl64, sl65, sl66, sl67, sl68, sl69, sl70, sl71, sl72, sl73, sl74, sl75, sl76, sl77, sl78, sl79, sl80, sl81, sl82, sl83, sl84, sl85, sl86, sl87, sl88, sl89, sl90, sl91, sl92, sl93, sl94, sl95, sl96, sl97, sl98, sl99, sl100, sl101, sl102, sl103, sl104, sl105, sl106, sl107, sl108, sl109, sl110, sl111, sl112, sl113, sl114, sl115, sl116, sl117, sl118, sl119, sl120, sl121, sl122, sl123, sl124, sl125, sl126, sl127], []⟩ w0 := by
 conv => arg 4; dsimp only
 conv => arg 2; whnf
 obtain ⟨i114, q0, q1, q2, q3⟩ := info_parts info114
 have eF : F = (first : Int) := unhide hF
 subst eF
 have RS := hrs
 have HG := hG
 have HEX := hide hexit
 clear hrs hG hexit
 go_loopw [17] (fun s wx => ∃ (q p : Nat) (v : Value), Hid (p = first + q) ∧ s = .int .i64 (p : Int) ∧ q ≤ D.length ∧ Hid (SpgI w wx x pb D r c more v q q)) (fun s _ => first + D.length - (intOf s).toNat)
 case atStart => exact ⟨0, first, .slice none 0 0, by simp [Hid], rfl, Nat.zero_le _, hI⟩
 case round =>
  obtain ⟨q, p, v, hpq, rfl, hq, I⟩ := hrel
  have hd120 := unhide h120
  clear hI
  by_cases hlt : q < D.length
  ·have hlt1 : (p : Int) < E := by have := unhide hE; have := unhide hpq; omega
   have hlt2 : p < first + D.length := by have := unhide hpq; omega
   have hp120 : p < 120 := by omega
   obtain ⟨hpl, hgp⟩ : ∃ h : p < x.f.seats.length, x.f.seats[p] = D[q] := by have e := unhide hpq; subst e; exact (unhide HG) _ hlt
   have hpi : (p : Int) < (x.f.seats.length : Int) := by omega
   have hp0 : (0 : Int) ≤ p := by omega
   have hp1 : IntKind.i64.wrap ((p : Int) + 1) = ((p + 1 : Nat) : Int) := by rw [wrap_id _ (by omega) (by omega)]; rfl
   have R1 := (unhide RS).mod (unhide I).mod (fun x => x)
   have c0 := R1.row p hpl
   have c1 := R1.col p hpl
   have c2 := R1.st p hpl
   have c3 := R1.pa p hpl
   have c4 := R1.cl p hpl
   have c5 := R1.un p hpl
   rw [hgp] at c0 c1 c2 c3 c4 c5
   obtain ⟨a2, cc2, rfl⟩ := slice_of_owns (unhide I).row
   have HEND := hide fun (wz : World) (v : Value) (h : SpgI w wz x pb D r c more v (q + 1) q) => h.end_ hlt
   have HPUT := hide fun (W : World) (v' : Value) (h : SpgI w W x pb D r c more (.slice a2 q cc2) q q) => h.put2 (v' := v') hlt
   have hqn : q + 1 ≤ 120 := by omega
   have hsz := (unhide I).mod.size
   have hpb := (unhide I).page.lt
   have hrb := (unhide I).res.lt
   have hbb := (unhide I).box.lt
   have hrow := (unhide I).row
   have R8 : ∀ W, SpgI w W x pb D r c more (.slice a2 q cc2) q q → W.rangeAt x.g (p * 6) (seaV D[q]).toList := fun W hW j v hv => by
    have RW := (unhide RS).mod hW.mod (fun x => x)
    have hj : j < 6 := by have := (List.getElem?_eq_some_iff.1 hv).1; simpa [seaV] using this
    rw [RW.cell p hpl j hj, hgp, ← Array.getElem?_toList]
    exact hv
   have HGP := hide hgp
   generalize hsd : D[q] = sd at *
   have HSD := hide hsd
   have HR8 := hide R8
   have ABS := hide hE
   clear R1 hgp hsd hlt2 h120 c0 c1 c2 c3 c4 c5 R8
   go_upto_region 23 with fail
   refine wp_region_L (n := 128) 10 (fun W => SpgI w W x pb D r c more (.slice a2 q cc2) q q) (StpP q D sd (.slice a2 q cc2)) (FP w x pb p q D sd (.slice a2 q cc2)) (by kernel_rfl) rfl (by kernel_rfl) (by kernel_rfl) (fun i v W W' hs h => h.stp i v W W' hs) ?_ ?_ ((unhide I).still (Mod.refl No wr).drew)
   ·intro i o a W hne ho hfr hI hd
    have hi : i < 11 := (Array.getElem?_eq_some_iff.1 ho).1
    have E11 : a.tmps[11]?.getD undef = .pointer (some ⟨w.heap.size + 1 + 1, 0, none⟩) := by simpa using hfr.rest 11 (by kernel_rfl)
    have E16 : a.tmps[16]?.getD undef = .pointer (some ⟨pb, 0, none⟩) := by simpa using hfr.rest 16 (by kernel_rfl)
    have E17 : a.eval (.tmp 17) = .int .i64 (p : Int) := hfr.rest 17 (by kernel_rfl)
    clear HEX hfr
    have hcases : i = 0 ∨ i = 1 ∨ i = 2 ∨ i = 3 ∨ i = 4 ∨ i = 5 ∨ i = 6 ∨ i = 7 ∨ i = 8 ∨ i = 9 := by omega
    rcases hcases with rfl | rfl | rfl | rfl | rfl | rfl | rfl | rfl | rfl | rfl
    all_goals
     replace ho := Option.some.inj (show some _ = some o from ho)
     subst ho
    ·have HI := hide hI
     clear hd hI HEND HPUT HR8 I RS HG E17 E11
     go_simp
     first | exact unhide HI | exact ⟨_, rfl, unhide HI, StpP.refl _ _ _ _ _, rfl⟩ | exact ⟨unhide HI, StpP.refl _ _ _ _ _, rfl⟩ | exact ⟨unhide HI, StpP.refl _ _ _ _ _⟩
    ·have E109 : a.tmps[109]?.getD undef = .pointer (some ⟨pb, 0, none⟩) := by simpa using (show a.tmps.getD 109 undef = _ from hd ⟨0, .data⟩ (by simp) rfl)
     have c0 : W.cell? ⟨pb, 0, none⟩ = some (.slice a2 q cc2) := hI.page.cell 0
     have HI := hide hI
     clear hd hI HEND HPUT HR8 I RS HG E17 E11 E16
     go_simp
     first | exact unhide HI | exact ⟨_, rfl, unhide HI, StpP.refl _ _ _ _ _, rfl⟩ | exact ⟨unhide HI, StpP.refl _ _ _ _ _, rfl⟩ | exact ⟨unhide HI, StpP.refl _ _ _ _ _⟩
    ·have HI := hide hI
     clear hd hI HEND HPUT HR8 I RS HG E17 E16
     go_simp
     first | exact unhide HI | exact ⟨_, rfl, unhide HI, StpP.refl _ _ _ _ _, rfl⟩ | exact ⟨unhide HI, StpP.refl _ _ _ _ _, rfl⟩ | exact ⟨unhide HI, StpP.refl _ _ _ _ _⟩
    ·have E111 : a.tmps[111]?.getD undef = .pointer (some ⟨w.heap.size + 1 + 1, 8, none⟩) := by simpa using (show a.tmps.getD 111 undef = _ from hd ⟨2, .data⟩ (by simp) rfl)
     have c0 : W.cell? ⟨w.heap.size + 1 + 1, 8, none⟩ = some (.slice (some ⟨x.g, 0, none⟩) x.f.seats.length x.cap) := hI.box.cell 8
     have HI := hide hI
     clear hd hI HEND HPUT HR8 I RS HG E17 E16 E11
     go_simp
     first | exact unhide HI | exact ⟨_, rfl, unhide HI, StpP.refl _ _ _ _ _, rfl⟩ | exact ⟨unhide HI, StpP.refl _ _ _ _ _, rfl⟩ | exact ⟨unhide HI, StpP.refl _ _ _ _ _⟩
    ·clear hd
     refine wp_move_op _ rfl ?_
     exact ⟨_, rfl, hI, StpP.refl _ _ _ _ _, E17⟩
    ·have E112 : a.tmps[112]?.getD undef = .slice (some ⟨x.g, 0, none⟩) x.f.seats.length x.cap := by simpa using (show a.tmps.getD 112 undef = _ from hd ⟨3, .data⟩ (by simp) rfl)
     have E113 : a.tmps[113]?.getD undef = .int .i64 (p : Int) := by simpa using (show a.tmps.getD 113 undef = _ from hd ⟨4, .data⟩ (by simp) rfl)
     have HI := hide hI
     clear hd hI HEND HPUT HR8 I RS HG E17 E16 E11
     go_simp
     first | exact unhide HI | exact ⟨_, rfl, unhide HI, StpP.refl _ _ _ _ _, rfl⟩ | exact ⟨unhide HI, StpP.refl _ _ _ _ _, rfl⟩ | exact ⟨unhide HI, StpP.refl _ _ _ _ _⟩
    ·have E114 : a.eval (.tmp 114) = .pointer (some ⟨x.g, p * 6, none⟩) := hd ⟨5, .data⟩ (by simp) rfl
     clear hd
     refine wp_load_mid _ _ rfl x.g (p * 6) E114 (seaV sd).toList dSeat ((unhide HR8) W hI) undSeat (by kernel_rfl) (by kernel_rfl) ?_
     exact ⟨_, rfl, hI, StpP.refl _ _ _ _ _, by simp [FP]⟩
    ·have E115 : a.tmps[115]?.getD undef = .agg (seaV sd) := by simpa using (show a.tmps.getD 115 undef = _ from hd ⟨6, .data⟩ (by simp) rfl)
     have HI := hide hI
     have mA : Mod No W (W.alloc (.cells (seaV sd) 63)) := (Mod.refl No W).alloc _
     have SS := hide (⟨fun _ _ _ h _ => h.alloc _, fun _ h => mA.owns h (fun _ _ x => x)⟩ : StpP q D sd (.slice a2 q cc2) W (W.alloc (.cells (seaV sd) 63)))
     have II := hide (hI.still mA)
     have FF := hide (show FP w x pb p q D sd (.slice a2 q cc2) 7 (.slice (some ⟨W.heap.size, 0, none⟩) 1 1) (W.alloc (.cells (seaV sd) 63)) from ⟨W.heap.size, rfl, Has.new W _ _, fun e => by have := owns_lt hI.row _ e; omega⟩)
     clear hd hI HEND HPUT HR8 I RS HG E17 E16 E11 mA hrow HI
     unfold seaV at E115 SS II FF
     go_simp
     exact ⟨_, rfl, unhide II, unhide SS, unhide FF⟩
    ·have E110 : a.eval (.tmp 110) = .slice a2 q cc2 := hd ⟨1, .data⟩ (by simp) rfl
     obtain ⟨b, E116, hb, hbn⟩ : ∃ b, a.eval (.tmp 116) = .slice (some ⟨b, 0, none⟩) 1 1 ∧ Has W b (seaV sd) 63 ∧ (Value.slice a2 q cc2).ownBlock ≠ some b := hd ⟨7, .data⟩ (by simp) rfl
     have hown := hI.row
     have hRd : Reads W (.slice (some ⟨b, 0, none⟩) 1 1) 1 (seaL sd) := .inr ⟨⟨b, 0, none⟩, 1, rfl, fun j u hu => by
      rw [Addr.add_mid, Nat.zero_add, hb.cell, ← Array.getElem?_toList]
      exact hu⟩
     refine wp_append_row2 _ _ 61 rfl 63 i114 _ 6 48 Tryz.underlying61 q0 q1 q2 q3 rfl (by decide) (.slice a2 q cc2) q _ E110 hown _ 1 (seaL sd) E116 hRd rfl (by intro u hu; simp [seaL, seaV] at hu; rcases hu with rfl | rfl | rfl | rfl | rfl | rfl <;> rfl) (by unfold maxLen; omega) (by omega) ?_
     intro v' w' ho' hg hs hst hin
     have hm : Mod (fun k => (Value.slice a2 q cc2).ownBlock = some k) W w' := (Mod.refl _ W).grown hg (fun k hk => .inl hk)
     refine ⟨v', rfl, hI.app hm hst, ⟨fun b cs T' h hb => h.grown hg (fun e => hb e.symm), fun u hu => owns_again (by decide) (by omega) hown ho' hg hin hst hu⟩, ho', fun k hk => ?_⟩
     rcases hs k hk with e | e
     ·exact hI.new k e
     ·have s1 := hI.mod.size
      have s2 := hI.page.lt
      have s3 := hI.res.lt
      have s4 := hI.box.lt
      exact ⟨by omega, by omega, by omega, by omega⟩
    ·have HI := hide hI
     clear hd hI HEND HPUT HR8 I RS HG E17 E11
     go_simp
     first | exact unhide HI | exact ⟨_, rfl, unhide HI, StpP.refl _ _ _ _ _, rfl⟩ | exact ⟨unhide HI, StpP.refl _ _ _ _ _, rfl⟩ | exact ⟨unhide HI, StpP.refl _ _ _ _ _⟩
   ·intro o a W ho hfr hI hF
    replace ho := Option.some.inj (show some _ = some o from ho)
    subst ho
    obtain ⟨f8, f9⟩ := hF 8 (by decide) (by decide)
    have e118 : a.tmps.getD 118 undef = .pointer (some ⟨pb, 0, none⟩) := hF 9 (by decide) (by decide)
    have f8 : W.ownsRow 0 63 6 (a.tmps.getD 117 undef) (q + 1) (((D.take q).flatMap seaL) ++ seaL sd) := f8
    have f9 : ∀ k, (a.tmps.getD 117 undef).ownBlock = some k → w.heap.size ≤ k ∧ k ≠ pb ∧ k ≠ w.heap.size + 1 ∧ k ≠ w.heap.size + 1 + 1 := f9
    obtain ⟨v6, e117⟩ : ∃ v6, a.tmps.getD 117 undef = v6 := ⟨_, rfl⟩
    rw [e117] at f8 f9
    obtain ⟨a6, c6, rfl⟩ := slice_of_owns f8
    have I6 := hide ((unhide HPUT) W _ hI f8 f9)
    have hl2 := hfr.lit
    rw [hl2]
    clear hl2
    simp only [List.filterMap_cons, List.filterMap_nil, List.foldl_cons, List.foldl_nil, List.setIfInBounds_toArray, List.set_cons_zero, List.set_cons_succ, e117, e118]
    have z0 : W.cell? ⟨pb, 0, none⟩ = some (.slice a2 q cc2) := hI.page.cell 0
    have zf := hI.page.frozen
    have zl := hI.page.lt
    have RS6 := (unhide RS).mod (unhide I6).mod (fun x => x)
    have e0 := RS6.row p hpl
    have e1 := RS6.col p hpl
    rw [unhide HGP] at e0 e1
    have b86 : (W.setCell ⟨pb, 0, none⟩ (.slice a6 (q + 1) c6)).cell? ⟨w.heap.size + 1 + 1, 8, none⟩ = some (.slice (some ⟨x.g, 0, none⟩) x.f.seats.length x.cap) := (unhide I6).box.cell 8
    have bl86 := (unhide I6).box.lt
    have pf7 := (unhide I6).page.frozen
    have pc71 : (W.setCell ⟨pb, 0, none⟩ (.slice a6 (q + 1) c6)).cell? ⟨pb, 1, none⟩ = some (.int .i64 (lastAt r c (D.take q)).1) := (unhide I6).page.cell 1
    have pc72 : (W.setCell ⟨pb, 0, none⟩ (.slice a6 (q + 1) c6)).cell? ⟨pb, 2, none⟩ = some (.int .i64 (lastAt r c (D.take q)).2) := (unhide I6).page.cell 2
    have pl7 := (unhide I6).page.lt
    have FIN := hide ((unhide HEND) _ _ (unhide I6))
    clear RS6 I6 HPUT HEND I HGP HG RS HSD HR8 f8 f9 hI hF e117 e118 hfr hrow
    go_simp
    generalize W.setCell ⟨pb, 0, none⟩ (.slice a6 (q + 1) c6) = w7b at *
    go_wp2
    exact ⟨⟨q + 1, p + 1, _, by have := unhide hpq; show p + 1 = first + (q + 1); omega, rfl, by omega, FIN⟩, by have := unhide hpq; simp [intOf]; omega⟩
  ·have hnlt1 : ¬ (p : Int) < E := by have := unhide hE; have := unhide hpq; omega
   obtain rfl : q = D.length := by omega
   obtain ⟨a2, cc2, rfl⟩ := slice_of_owns (unhide I).row
   have hpe : p = first + D.length := unhide hpq
   clear hpq
   go_wp2
   subst hpe
   exact (unhide HEX) _ _ _ _ _ _ _ _ _ _ _ _ _ _ _ _ _ _ _ _ _ _ _ _ _ _ _ I
theorem wseats_yes {w : World} {ow : Nat → Nat} {wb gf cap : Nat} {xs : List FR} {now : Int} (h : WorR w ow wb (.slice (some ⟨gf, 0, none⟩) xs.length cap) xs now) (n r c e size : Int) (i : Nat) (hi : i < xs.length) (hn : findN xs n = i) :
  Calls Tryz.prog 64 #[.pointer (some ⟨wb, 0, none⟩), .int .i64 n, .agg #[.int .i64 r, .int .i64 c, .int .i64 e], .int .i64 size] w fun e' w' => Told w w' e' (pageK (xs[i].f.pla.at xs[i].f.ep) xs[i].f.seats r c e size) := by
 have M0 : Mod No w ((w.alloc (.cells #[.int .i64 r, .int .i64 c, .int .i64 e] 43)).alloc (.cells #[.slice none 0 0, .int .i64 0, .int .i64 0, .int .i64 0, .bool false] 146)) := ((Mod.refl _ w).alloc _).alloc _
 have h1 := h.mod M0 (fun _ _ x => x)
 have hf0 := h1.find n
 rw [hn] at hf0
 have HF := hide hf0
 clear hf0
 obtain ⟨og, rf⟩ := h1.parts rfl (by omega)
 obtain ⟨rs, os, wf⟩ := h.seats i hi
 have hc := h1.has.cell
 have fc : ∀ j, j < 10 → ((w.alloc (.cells #[.int .i64 r, .int .i64 c, .int .i64 e] 43)).alloc (.cells #[.slice none 0 0, .int .i64 0, .int .i64 0, .int .i64 0, .bool false] 146)).cell? ⟨gf, i * 10 + j, none⟩ = (friV xs[i])[j]? := fun j hj => rf.cell i hi j hj
 have hgl : xs[i].g < w.heap.size := rs.lt
 have R0 := Has.new (w.alloc (.cells #[.int .i64 r, .int .i64 c, .int .i64 e] 43)) zeroPg 146
 rw [World.size_alloc] at R0
 have C0 := (Has.new w #[.int .i64 r, .int .i64 c, .int .i64 e] 43).alloc (.cells zeroPg 146)
 have x30 := Has.new ((w.alloc (.cells #[.int .i64 r, .int .i64 c, .int .i64 e] 43)).alloc (.cells zeroPg 146)) (friV xs[i]) 134
 rw [World.size_alloc, World.size_alloc] at x30
 have M3 := hide (M0.alloc (.cells (friV xs[i]) 134))
 have R3 := hide (R0.alloc (.cells (friV xs[i]) 134))
 have C3 := hide (C0.alloc (.cells (friV xs[i]) 134))
 have X3 := hide x30
 clear x30
 have RS := hide rs
 have WF := hide wf
 have hl120 : xs[i].f.seats.length ≤ 120 := wf_len wf
 have h0 : ¬ (i : Int) < 0 := by omega
 clear h h1 rf rs os wf og M0 R0 C0
 generalize xs[i] = x at *
 have HNE := hide (show w.heap.size + 1 + 1 ≠ x.g by omega)
 have g0 := fc 0 (by omega)
 have g1 := fc 1 (by omega)
 have g2 := fc 2 (by omega)
 have g3 := fc 3 (by omega)
 have g4 := fc 4 (by omega)
 have g5 := fc 5 (by omega)
 have g6 := fc 6 (by omega)
 have g7 := fc 7 (by omega)
 have g8 := fc 8 (by omega)
 have g9 := fc 9 (by omega)
 simp only [Nat.add_zero] at g0
 have e0 : (friV x)[0]? = some (.int .i64 x.f.num) := rfl
 have e1 : (friV x)[1]? = some (.int .i64 x.f.pla.rows) := rfl
 have e2 : (friV x)[2]? = some (.int .i64 x.f.pla.cols) := rfl
 have e3 : (friV x)[3]? = some (.int .i64 x.f.pla.front) := rfl
 have e4 : (friV x)[4]? = some (.int .i64 x.f.pla.l0) := rfl
 have e5 : (friV x)[5]? = some (.int .i64 x.f.pla.l1) := rfl
 have e6 : (friV x)[6]? = some (.int .i64 x.f.pla.l2) := rfl
 have e7 : (friV x)[7]? = some (.int .i64 x.f.pla.l3) := rfl
 have e8 : (friV x)[8]? = some (.slice (some ⟨x.g, 0, none⟩) x.f.seats.length x.cap) := rfl
 have e9 : (friV x)[9]? = some (.int .i64 x.f.ep) := rfl
 rw [e0] at g0; rw [e1] at g1; rw [e2] at g2; rw [e3] at g3; rw [e4] at g4; rw [e5] at g5; rw [e6] at g6; rw [e7] at g7; rw [e8] at g8; rw [e9] at g9
 clear fc e0 e1 e2 e3 e4 e5 e6 e7 e8 e9 hn
 have h1 : (i : Int) < (xs.length : Int) := by omega
 replace M3 := hide (show Mod No w (((w.alloc (.cells #[.int .i64 r, .int .i64 c, .int .i64 e] 43)).alloc (.cells zeroPg 146)).alloc (.cells (friV x) 134)) from unhide M3)
 unfold friV zeroPg at M3 R3 C3 X3
 go_enter Tryz.func64, Tryz.ntmps64
 go_wp2_with fail
 refine (unhide HF).mono ?_
 rintro e w1 ⟨rfl, rfl⟩
 go_upto_region 6 with fail
 clear g0 g1 g2 g3 g4 g5 g6 g7 g8 g9 hc HF
 generalize (((w.alloc (.cells #[.int .i64 r, .int .i64 c, .int .i64 e] 43)).alloc (.cells #[.slice none 0 0, .int .i64 0, .int .i64 0, .int .i64 0, .bool false] 146)).alloc (.cells #[.int .i64 x.f.num, .int .i64 x.f.pla.rows, .int .i64 x.f.pla.cols, .int .i64 x.f.pla.front, .int .i64 x.f.pla.l0, .int .i64 x.f.pla.l1, .int .i64 x.f.pla.l2, .int .i64 x.f.pla.l3, .slice (some ⟨x.g, 0, none⟩) x.f.seats.length x.cap, .int .i64 x.f.ep] 134)) = w3 at *
 have b0 : w3.cell? ⟨w.heap.size, 0, none⟩ = some (.int .i64 r) := (unhide C3).cell 0
 have b1 : w3.cell? ⟨w.heap.size, 1, none⟩ = some (.int .i64 c) := (unhide C3).cell 1
 have b2 : w3.cell? ⟨w.heap.size, 2, none⟩ = some (.int .i64 e) := (unhide C3).cell 2
 have bl := (unhide C3).lt
 go_cut [13] (fun s wx => s = .bool (isZ r c e) ∧ wx = w3)
 case first =>
  by_cases hr : r = 0
  ·subst hr
   by_cases hc0 : c = 0
   ·subst hc0
    go_wp2
    go_meet
    exact ⟨by simp [isZ], rfl⟩
   ·have hcb : (c == 0) = false := by simp [hc0]
    go_wp2
    go_meet
    exact ⟨by simp [isZ, hc0], rfl⟩
  ·have hrb : (r == 0) = false := by simp [hr]
   go_wp2
   go_meet
   exact ⟨by simp [isZ, hr], rfl⟩
 case rest =>
  obtain ⟨rfl, rfl⟩ := hcut
  apply_assumption
  have FL := hide fun (W : World) (hW : Mod No wc W) => FlR.box (hW.has (unhide X3) (fun x => x)) ((unhide RS).mod ((unhide M3).trans hW) (fun x => x)) (unhide WF) (unhide HNE)
  obtain ⟨kk, hkk⟩ : ∃ kk : Int, kk = if x.f.pla.has r c = true then ((x.f.pla.idx r c : Nat) : Int) else -1 := ⟨_, rfl⟩
  have HSE := hide (show Calls Tryz.prog 85 #[.pointer (some ⟨w.heap.size + 1 + 1, 0, none⟩), .agg #[.int .i64 r, .int .i64 c]] wc fun e w' => e = .returned (.int .i64 kk) ∧ Mod No wc w' from by
   rw [hkk]
   cases hh : x.f.pla.has r c with
   | true => rw [if_pos rfl]; exact rseat_has ((unhide FL) wc (Mod.refl _ _)) (unhide WF) r c hh
   | false => rw [if_neg (by simp)]; exact rseat_no ((unhide FL) wc (Mod.refl _ _)) (unhide WF) r c hh)
  have HKK := hide hkk
  clear hkk FL
  go_wp2_with fail
  refine (unhide HSE).mono ?_
  rintro e5 w5 ⟨rfl, m5⟩
  have M5 := hide ((unhide M3).trans m5)
  have R5 := hide (m5.has (unhide R3) (fun x => x))
  have C5 := hide (m5.has (unhide C3) (fun x => x))
  have X5 := hide (m5.has (unhide X3) (fun x => x))
  clear HSE m5 M3 R3 C3 X3 b0 b1 b2 bl
  have b0 : w5.cell? ⟨w.heap.size, 0, none⟩ = some (.int .i64 r) := (unhide C5).cell 0
  have b1 : w5.cell? ⟨w.heap.size, 1, none⟩ = some (.int .i64 c) := (unhide C5).cell 1
  have b2 : w5.cell? ⟨w.heap.size, 2, none⟩ = some (.int .i64 e) := (unhide C5).cell 2
  have bl := (unhide C5).lt
  have x3 : w5.cell? ⟨w.heap.size + 1 + 1, 8, none⟩ = some (.slice (some ⟨x.g, 0, none⟩) x.f.seats.length x.cap) := (unhide X5).cell 8
  have x9 : w5.cell? ⟨w.heap.size + 1 + 1, 9, none⟩ = some (.int .i64 x.f.ep) := (unhide X5).cell 9
  have xl := (unhide X5).lt
  have d0 : w5.cell? ⟨w.heap.size + 1, 0, none⟩ = some (.slice none 0 0) := (unhide R5).cell 0
  have d1 : w5.cell? ⟨w.heap.size + 1, 1, none⟩ = some (.int .i64 0) := (unhide R5).cell 1
  have d2 : w5.cell? ⟨w.heap.size + 1, 2, none⟩ = some (.int .i64 0) := (unhide R5).cell 2
  have d3 : w5.cell? ⟨w.heap.size + 1, 3, none⟩ = some (.int .i64 0) := (unhide R5).cell 3
  have d4 : w5.cell? ⟨w.heap.size + 1, 4, none⟩ = some (.bool false) := (unhide R5).cell 4
  have df := (unhide R5).frozen
  have dl := (unhide R5).lt
  have hp : ∀ o, No (⟨w.heap.size + 1, o, none⟩ : Addr).block ∨ w.heap.size ≤ (⟨w.heap.size + 1, o, none⟩ : Addr).block := fun o => .inr (by show w.heap.size ≤ w.heap.size + 1; omega)
  have REF := hide fun (er : Int) => (show Told w (((((w5.setCell ⟨w.heap.size + 1, 0, none⟩ (.slice none 0 0)).setCell ⟨w.heap.size + 1, 1, none⟩ (.int .i64 0)).setCell ⟨w.heap.size + 1, 2, none⟩ (.int .i64 0)).setCell ⟨w.heap.size + 1, 3, none⟩ (.int .i64 0)).setCell ⟨w.heap.size + 1, 4, none⟩ (.bool false)) (.returned (.tuple #[.agg #[.slice none 0 0, .int .i64 0, .int .i64 0, .int .i64 0, .bool false], .int .i64 er])) ⟨[], 0, 0, 0, false, er⟩ from
   ⟨⟨.slice none 0 0, rfl, World.ownsRow_nil _ _ _ _, fun k hk => by simp [Value.ownBlock] at hk⟩, (((((unhide M5).setCell (hp 0) _).setCell (hp 1) _).setCell (hp 2) _).setCell (hp 3) _).setCell (hp 4) _⟩)
  clear hp
  by_cases hs1 : size < 1
  ·have hK : pageK (x.f.pla.at x.f.ep) x.f.seats r c e size = ⟨[], 0, 0, 0, false, 12⟩ := by unfold pageK; rw [if_pos (.inl hs1)]
   have HK := hide hK
   clear hK C5 X5 R5 M5 WF RS
   go_wp2
   refine bodyPost_ret (by simp [results, Tryz.results64, go_sem, d0, d1, d2, d3, d4]; try rfl) rfl ?_
   rw [unhide HK]
   exact (unhide REF) 12
  by_cases hs2 : size > 30
  ·have hK : pageK (x.f.pla.at x.f.ep) x.f.seats r c e size = ⟨[], 0, 0, 0, false, 12⟩ := by unfold pageK; rw [if_pos (.inr hs2)]
   have HK := hide hK
   clear hK C5 X5 R5 M5 WF RS
   go_wp2
   refine bodyPost_ret (by simp [results, Tryz.results64, go_sem, d0, d1, d2, d3, d4]; try rfl) rfl ?_
   rw [unhide HK]
   exact (unhide REF) 12
  have HB := hide (show (behindK (x.f.pla.at x.f.ep) r c e) = if isZ r c e = true then (0, 0) else if e ≠ x.f.ep then (0, 13) else if x.f.pla.has r c = false then (0, 5) else ((x.f.pla.idx r c : Int) + 1, 0) from by
   unfold behindK isZ
   by_cases hz : r = 0 ∧ c = 0 ∧ e = 0
   ·obtain ⟨rfl, rfl, rfl⟩ := hz
    rfl
   ·have hzz : ((r == 0 && c == 0) && e == 0) = false := by simp; omega
    rw [if_neg hz, hzz]
    simp only [Bool.false_eq_true, if_false]
    rfl)
  generalize hz : isZ r c e = zz at *
  have HZ := hide hz
  clear hz
  have refuse : True := trivial
  cases zz with
  | false =>
   by_cases hep : e = x.f.ep
   case neg =>
    have hK : pageK (x.f.pla.at x.f.ep) x.f.seats r c e size = ⟨[], 0, 0, 0, false, 13⟩ := by
     have hb : behindK (x.f.pla.at x.f.ep) r c e = (0, 13) := by rw [unhide HB, if_neg (by simp), if_pos hep]
     unfold pageK
     rw [if_neg (by omega), hb, if_pos (show (13 : Int) ≠ 0 by decide)]
    have HK := hide hK
    clear hK C5 X5 R5 M5 WF RS HB
    go_wp2
    refine bodyPost_ret (by simp [results, Tryz.results64, go_sem, d0, d1, d2, d3, d4]; try rfl) rfl ?_
    rw [unhide HK]
    exact (unhide REF) 13
   cases hh : x.f.pla.has r c with
   | false =>
    have hk1 : kk = -1 := by rw [unhide HKK, hh]; rfl
    have hK : pageK (x.f.pla.at x.f.ep) x.f.seats r c e size = ⟨[], 0, 0, 0, false, 5⟩ := by
     have hb : behindK (x.f.pla.at x.f.ep) r c e = (0, 5) := by rw [unhide HB, if_neg (by simp), if_neg (by simpa using hep), if_pos hh]
     unfold pageK
     rw [if_neg (by omega), hb, if_pos (show (5 : Int) ≠ 0 by decide)]
    have HK := hide hK
    subst hk1
    clear hK C5 X5 R5 M5 WF RS HB HKK
    go_wp2
    refine bodyPost_ret (by simp [results, Tryz.results64, go_sem, d0, d1, d2, d3, d4]; try rfl) rfl ?_
    rw [unhide HK]
    exact (unhide REF) 5
   | true =>
    have hb : behindK (x.f.pla.at x.f.ep) r c e = ((((x.f.pla.idx r c + 1) : Nat) : Int), 0) := by rw [unhide HB, if_neg (by simp), if_neg (by simpa using hep), if_neg (by rw [hh]; simp)]; simp
    have hfl : (x.f.pla.idx r c + 1) ≤ x.f.seats.length := by have := Fli.wf.idx_lt (unhide WF) hh; exact this
    obtain ⟨first, hfst⟩ : ∃ first : Nat, first = (x.f.pla.idx r c + 1) := ⟨_, rfl⟩
    rw [← hfst] at hb hfl
    obtain ⟨D, hD⟩ : ∃ D, D = (x.f.seats.drop first).take size.toNat := ⟨_, rfl⟩
    have hDl : D.length = min size.toNat (x.f.seats.length - first) := by rw [hD, List.length_take, List.length_drop]
    have HG := hide (show ∀ j (hj : j < D.length), ∃ hi : first + j < x.f.seats.length, x.f.seats[first + j] = D[j] from fun j hj => by
     subst hD
     have : first + j < x.f.seats.length := by omega
     refine ⟨this, ?_⟩
     simp only [List.getElem_take, List.getElem_drop])
    have HK := hide (show pageK (x.f.pla.at x.f.ep) x.f.seats r c e size = ⟨D, (lastAt r c D).1, (lastAt r c D).2, x.f.ep, decide ((first : Int) + (D.length : Int) < (x.f.seats.length : Int)), 0⟩ from by
     subst hD
     unfold pageK
     rw [if_neg (by omega), hb, if_neg (show ¬ ((0 : Int) ≠ 0) by decide), PageR.mk.injEq]
     exact ⟨rfl, rfl, rfl, rfl, decide_eq_decide.2 (by simp only [Int.toNat_natCast]; omega), rfl⟩)
    have hwe : IntKind.i64.wrap ((first : Int) + size) = (first : Int) + size := wrap_fit _ (by omega) (by omega)
    have hk1 : IntKind.i64.wrap (kk + 1) = (first : Int) := by
     have hk2 : kk = ((x.f.pla.idx r c : Nat) : Int) := by rw [unhide HKK, hh]; rfl
     rw [hk2, wrap_fit _ (by omega) (by omega)]; omega
    have hk3 : ¬ kk < 0 := by rw [unhide HKK, hh]; simp
    clear hfst hb HB HKK REF hh
    have TAIL := hide (show ((first : Int) + size > (x.f.seats.length : Int) → (x.f.seats.length : Int) = (first : Int) + (D.length : Int)) ∧ (¬ (first : Int) + size > (x.f.seats.length : Int) → (first : Int) + size = (first : Int) + (D.length : Int)) from ⟨fun q => by omega, fun q => by omega⟩)
    have HD120 := hide (show first + D.length ≤ 120 from by omega)
    have HE1 := hide (show (first : Int) + (D.length : Int) = ((first : Nat) : Int) + (D.length : Int) from by omega)
    have HF1 := hide (show (first : Int) = ((first : Nat) : Int) from by omega)
    clear hDl hfl hD
    go_upto_region 17 with fail
    by_cases hgt : (first : Int) + size > (x.f.seats.length : Int)
    all_goals
     (first | (have hE := (unhide TAIL).1 hgt) | (have hE := (unhide TAIL).2 (by omega)))
     clear TAIL
     go_upto_region 19 with fail
     try rw [hE]
     clear hE hgt hwe
     have I0 := hide (SpgI.start (D := D) (r := r) (c := c) (more := decide ((first : Int) + (D.length : Int) < (x.f.seats.length : Int))) (unhide M5) (unhide R5) (unhide X5))
     have RS5 := hide ((unhide RS).mod (unhide M5) (fun x => x))
     go_upto_region 20 with fail
     generalize decide ((first : Int) + (D.length : Int) < (x.f.seats.length : Int)) = more at *
     generalize (w5.alloc (.cells #[.slice none 0 0, .int .i64 r, .int .i64 c, .int .i64 x.f.ep, .bool more] 146)) = w7 at *
     generalize w5.heap.size = pb at *
     clear M5 R5 C5 X5 RS5 b0 b1 b2 bl x3 x9 xl d0 d1 d2 d3 d4 df dl WF
     go_upto_block 1 with fail
     refine wp_block ?_
     refine spg_walk RS HG HD120 (hide (by first | rfl | simp)) (hide (by first | rfl | simp)) _ I0 _ _ _ _ _ _ _ _ _ _ _ _ _ _ _ _ _ _ _ _ _ _ _ _ _ _ _ _ _ _ _ _ _ _ _ _ _ _ _ _ _ _ _ _ _ _ _ _ _ _ _ _ _ _ _ _ _ _ _ _ _ _ _ _ _ _ _ _ _ _ _ _ _ _ _ _ _ _ _ _ _ _ _ _ _ _ _ _ _ _ _ _ _ _ _ _ _ _ _ _ _ _ _ _ _ _ _ _ _ _ _ _ _ _ _ _ _ _ _ _ _ _ _ _ ?_
     intro x17 x104 x105 x106 x107 x108 x109 x110 x111 x112 x113 x114 x115 x116 x117 x118 x119 x120 x121 x122 x123 x124 x125 x126 a2 cc2 wr I
     have hpage := (unhide I).page
     rw [List.take_length] at hpage
     have pc := hpage.cell
     have pl := hpage.lt
     have d0 : wr.cell? ⟨w.heap.size + 1, 0, none⟩ = some (.slice none 0 0) := (unhide I).res.cell 0
     have d1 : wr.cell? ⟨w.heap.size + 1, 1, none⟩ = some (.int .i64 0) := (unhide I).res.cell 1
     have d2 : wr.cell? ⟨w.heap.size + 1, 2, none⟩ = some (.int .i64 0) := (unhide I).res.cell 2
     have d3 : wr.cell? ⟨w.heap.size + 1, 3, none⟩ = some (.int .i64 0) := (unhide I).res.cell 3
     have d4 : wr.cell? ⟨w.heap.size + 1, 4, none⟩ = some (.bool false) := (unhide I).res.cell 4
     have df := (unhide I).res.frozen
     have dl := (unhide I).res.lt
     clear hpage I0
     go_wp2
     refine bodyPost_ret (by simp [results, Tryz.results64, go_sem, d0, d1, d2, d3, d4]; try rfl) rfl ?_
     rw [unhide HK]
     exact SpgI.told (unhide I)
  | true =>
   have hb : behindK (x.f.pla.at x.f.ep) r c e = (((0 : Nat) : Int), 0) := by rw [unhide HB, if_pos rfl]; rfl
   have hfl : 0 ≤ x.f.seats.length := Nat.zero_le _
   obtain ⟨D, hD⟩ : ∃ D, D = (x.f.seats.drop 0).take size.toNat := ⟨_, rfl⟩
   have hDl : D.length = min size.toNat (x.f.seats.length - 0) := by rw [hD, List.length_take, List.length_drop]
   have HG := hide (show ∀ j (hj : j < D.length), ∃ hi : 0 + j < x.f.seats.length, x.f.seats[0 + j] = D[j] from fun j hj => by
    subst hD
    have : 0 + j < x.f.seats.length := by omega
    refine ⟨this, ?_⟩
    simp only [List.getElem_take, List.getElem_drop])
   have HK := hide (show pageK (x.f.pla.at x.f.ep) x.f.seats r c e size = ⟨D, (lastAt r c D).1, (lastAt r c D).2, x.f.ep, decide (D.length < x.f.seats.length), 0⟩ from by
    subst hD
    unfold pageK
    rw [if_neg (by omega), hb, if_neg (show ¬ ((0 : Int) ≠ 0) by decide), PageR.mk.injEq]
    exact ⟨rfl, rfl, rfl, rfl, decide_eq_decide.2 (by simp only [Int.toNat_natCast]; omega), rfl⟩)
   have hwe : IntKind.i64.wrap (size) = size := wrap_fit _ (by omega) (by omega)
   clear hb HB HKK REF
   have TAIL := hide (show (size > (x.f.seats.length : Int) → (x.f.seats.length : Int) = (D.length : Int)) ∧ (¬ size > (x.f.seats.length : Int) → size = (D.length : Int)) from ⟨fun q => by omega, fun q => by omega⟩)
   have HD120 := hide (show 0 + D.length ≤ 120 from by omega)
   have HE1 := hide (show (D.length : Int) = ((0 : Nat) : Int) + (D.length : Int) from by omega)
   have HF1 := hide (show (0 : Int) = ((0 : Nat) : Int) from by omega)
   clear hDl hfl hD
   go_upto_region 17 with fail
   by_cases hgt : size > (x.f.seats.length : Int)
   all_goals
    (first | (have hE := (unhide TAIL).1 hgt) | (have hE := (unhide TAIL).2 (by omega)))
    clear TAIL
    go_upto_region 19 with fail
    try rw [hE]
    clear hE hgt hwe
    have I0 := hide (SpgI.start (D := D) (r := r) (c := c) (more := decide (D.length < x.f.seats.length)) (unhide M5) (unhide R5) (unhide X5))
    have RS5 := hide ((unhide RS).mod (unhide M5) (fun x => x))
    go_upto_region 20 with fail
    generalize decide (D.length < x.f.seats.length) = more at *
    generalize (w5.alloc (.cells #[.slice none 0 0, .int .i64 r, .int .i64 c, .int .i64 x.f.ep, .bool more] 146)) = w7 at *
    generalize w5.heap.size = pb at *
    clear M5 R5 C5 X5 RS5 b0 b1 b2 bl x3 x9 xl d0 d1 d2 d3 d4 df dl WF
    go_upto_block 1 with fail
    refine wp_block ?_
    refine spg_walk RS HG HD120 (hide (by first | rfl | simp)) (hide (by first | rfl | simp)) _ I0 _ _ _ _ _ _ _ _ _ _ _ _ _ _ _ _ _ _ _ _ _ _ _ _ _ _ _ _ _ _ _ _ _ _ _ _ _ _ _ _ _ _ _ _ _ _ _ _ _ _ _ _ _ _ _ _ _ _ _ _ _ _ _ _ _ _ _ _ _ _ _ _ _ _ _ _ _ _ _ _ _ _ _ _ _ _ _ _ _ _ _ _ _ _ _ _ _ _ _ _ _ _ _ _ _ _ _ _ _ _ _ _ _ _ _ _ _ _ _ _ _ _ _ _ ?_
    intro x17 x104 x105 x106 x107 x108 x109 x110 x111 x112 x113 x114 x115 x116 x117 x118 x119 x120 x121 x122 x123 x124 x125 x126 a2 cc2 wr I
    have hpage := (unhide I).page
    rw [List.take_length] at hpage
    have pc := hpage.cell
    have pl := hpage.lt
    have d0 : wr.cell? ⟨w.heap.size + 1, 0, none⟩ = some (.slice none 0 0) := (unhide I).res.cell 0
    have d1 : wr.cell? ⟨w.heap.size + 1, 1, none⟩ = some (.int .i64 0) := (unhide I).res.cell 1
    have d2 : wr.cell? ⟨w.heap.size + 1, 2, none⟩ = some (.int .i64 0) := (unhide I).res.cell 2
    have d3 : wr.cell? ⟨w.heap.size + 1, 3, none⟩ = some (.int .i64 0) := (unhide I).res.cell 3
    have d4 : wr.cell? ⟨w.heap.size + 1, 4, none⟩ = some (.bool false) := (unhide I).res.cell 4
    have df := (unhide I).res.frozen
    have dl := (unhide I).res.lt
    clear hpage I0
    go_wp2
    refine bodyPost_ret (by simp [results, Tryz.results64, go_sem, d0, d1, d2, d3, d4]; try rfl) rfl ?_
    rw [unhide HK]
    exact SpgI.told (unhide I)
set_option maxHeartbeats 8000000
def zVS (I : Int) : Array Value := #[.int .i64 0, .int .i64 0, .int .i64 9, .int .i64 I, .int .i64 0, .int .i64 0]
theorem infoES : (Tryz.prog.info? 63).map (fun i => (i.zero, i.size, i.bytes)) = some (some (.agg #[.int .i64 0, .int .i64 0, .int .i64 0, .int .i64 0, .int .i64 0, .int .i64 0]), 6, 48) := by kernel_rfl
noncomputable def dES : TypeDesc := (Tryz.prog.underlying 63).getD (.slice 0)
theorem undES : Tryz.prog.underlying 63 = some dES := by kernel_rfl
theorem infoRS : (Tryz.prog.info? 60).map (fun i => (i.zero, i.size, i.bytes)) = some (some (.slice none 0 0), 1, 24) := by kernel_rfl
def FAS (w0 : World) (l : Value) (n : Nat) (I : Int) (i : Nat) (v : Value) (W : World) : Prop :=
 match i with
 | 0 | 1 | 5 | 10 => v = l
 | 2 | 6 | 7 | 11 | 12 | 13 => v = .agg (zVS I)
 | 3 => ∃ b, v = .slice (some ⟨b, 0, none⟩) 1 1 ∧ Has W b (zVS I) 63 ∧ w0.heap.size ≤ b
 | 8 => ∃ b, v = .slice (some ⟨b, 0, none⟩) 2 2 ∧ Has W b (zVS I ++ zVS I) 63 ∧ w0.heap.size ≤ b
 | 14 => ∃ b, v = .slice (some ⟨b, 0, none⟩) 3 3 ∧ Has W b (zVS I ++ zVS I ++ zVS I) 63 ∧ w0.heap.size ≤ b
 | 4 => Sl 63 6 W v (n + 1) ∧ ∀ g, v.ownBlock = some g → l.ownBlock = some g ∨ w0.heap.size ≤ g
 | 9 => Sl 63 6 W v (n + 2) ∧ ∀ g, v.ownBlock = some g → l.ownBlock = some g ∨ w0.heap.size ≤ g
 | 15 => Sl 63 6 W v (n + 3) ∧ ∀ g, v.ownBlock = some g → l.ownBlock = some g ∨ w0.heap.size ≤ g
 | 16 | 17 => ∃ b v1 v2 v3, v = .slice (some ⟨b, 0, none⟩) 4 4 ∧ Has W b #[l, v1, v2, v3] 61 ∧ w0.heap.size ≤ b ∧ (Sl 63 6 W v1 (n + 1) ∧ ∀ g, v1.ownBlock = some g → g ≠ b ∧ (l.ownBlock = some g ∨ w0.heap.size ≤ g)) ∧ (Sl 63 6 W v2 (n + 2) ∧ ∀ g, v2.ownBlock = some g → g ≠ b ∧ (l.ownBlock = some g ∨ w0.heap.size ≤ g)) ∧ (Sl 63 6 W v3 (n + 3) ∧ ∀ g, v3.ownBlock = some g → g ≠ b ∧ (l.ownBlock = some g ∨ w0.heap.size ≤ g))
 | _ => True
theorem FAS.stp {w0 : World} {l : Value} {n : Nat} {I : Int} (hl : ∀ g, l.ownBlock = some g → g < w0.heap.size) (i : Nat) (v : Value) (W W' : World) (hs : StpB 63 6 l.ownBlock W W') (h : FAS w0 l n I i v W) : FAS w0 l n I i v W' := by
 have hne : ∀ b, w0.heap.size ≤ b → some b ≠ l.ownBlock := fun b hb e => by have := hl b e.symm; omega
 unfold FAS at h ⊢
 split at h
 all_goals first
  | exact h
  |(obtain ⟨b, h1, h2, h3⟩ := h; exact ⟨b, h1, hs.has _ _ _ h2 (hne b h3), h3⟩)
  |(exact ⟨hs.sl _ _ h.1, h.2⟩)
  |(obtain ⟨b, v1, v2, v3, h1, h2, h3, h4, h5, h6⟩ := h; exact ⟨b, v1, v2, v3, h1, hs.has _ _ _ h2 (hne b h3), h3, ⟨hs.sl _ _ h4.1, h4.2⟩, ⟨hs.sl _ _ h5.1, h5.2⟩, ⟨hs.sl _ _ h6.1, h6.2⟩⟩)
theorem zVS_len (I : Int) : (zVS I).toList.length = 6 := rfl
theorem zVS_one (I : Int) : ∀ u ∈ (zVS I).toList, u.oneCell' = true := by
 intro u hu
 simp [zVS] at hu
 rcases hu with rfl | rfl | rfl | rfl | rfl | rfl <;> rfl
theorem readsS {W : World} {b m : Nat} {cs : Array Value} (h : Has W b cs 63) : Reads W (.slice (some ⟨b, 0, none⟩) m m) m cs.toList :=
 .inr ⟨⟨b, 0, none⟩, m, rfl, fun j u hu => by
  rw [Addr.add_mid, Nat.zero_add, h.cell, ← Array.getElem?_toList]
  exact hu⟩
end Go.Proofs.YthhibagcpjeihaaGreat
