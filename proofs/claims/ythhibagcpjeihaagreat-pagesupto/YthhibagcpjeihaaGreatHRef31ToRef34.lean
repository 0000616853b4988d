import Derived.Test.YthhibagcpjeihaaGreatHRef26ToRef30
import Derived.Handy
import Derived.Test.YthhibagcpjeihaaGreatHSwap2ToSwap4
import Derived.Deep.CutBlock
import Derived.Deep.DeepCutAuto
namespace Go.Proofs.YthhibagcpjeihaaGreat
open Go.RowKit
open M
set_option linter.unusedVariables false
set_option linter.unusedSimpArgs false
set_option maxRecDepth 100000
set_option maxHeartbeats 8000000
def loopsOf : Code → List Code
 | .loop c => .loop c :: loopsOf c
 | .seq a b => loopsOf a ++ loopsOf b
 | .block _ c => loopsOf c
 | .scope c => loopsOf c
 | .cond _ a b => loopsOf a ++ loopsOf b
 | _ => []
noncomputable def swapLoop (n : Nat) : Code := ((loopsOf (Tryz.f54.body.getD .skip))[n]?).getD .skip
theorem stay_walk {p Q : Pla} {l : List Sea} {w w0 : World} {gf fo g0 cap0 nb g cap : Nat} {num ep : Int} (hf : FlR w gf fo g0 cap0 p l) (hwf : Wf p l) (h1 : Q.sized = true) (h2 : Q.limited = true) (Q0 : Exit → Act → World → Prop)
  (hI : Hid (StI w w0 nb g cap Q num ep l (.slice none 0 0) 0)) (sl1 sl2 sl3 sl4 sl5 sl9 sl10 sl11 sl12 sl13 sl14 sl15 sl16 sl17 sl18 sl19 sl20 sl21 sl22 sl23 sl24 sl25 sl26 sl27 sl28 sl29 sl30 sl31 sl32 sl33 sl34 sl35 sl36 sl37 sl38 sl39 sl40 sl41 sl42 sl43 sl44 sl45 sl46 sl47 sl48 sl49 sl50 sl51 sl52 sl53 sl54 sl55 sl56 sl57 sl58 sl59 sl60 sl61 sl62 sl63 sl64 sl65 sl66 sl67 sl68 sl69 sl70 sl71 sl72 sl73 sl74 sl75 sl76 sl77 sl78 sl79 sl80 sl81 sl82 sl83 sl84 sl85 sl86 sl87 sl88 sl89 sl90 sl91 sl92 sl93 sl94 sl95 sl96 sl97 sl98 sl99 sl100 sl101 sl102 sl103 sl104 sl105 sl106 sl107 sl108 sl109 sl110 sl111 sl112 sl113 sl114 sl115 sl116 sl117 sl118 sl119 sl120 sl121 sl122 : Value)
  (hexit : ∀ (x8 x9 x10 x52 x53 x54 x55 x56 x57 x58 x59 x60 x61 x62 x63 x64 x65 x66 x67 x68 x69 x70 x71 x72 x73 x74 x75 x76 x77 x78 x79 x80 x81 x82 x83 x84 : Value) (a : Option Addr) (cp : Nat) (wx : World), Hid (StI w wx nb g cap Q num ep l (.slice a (nHome Q l l.length) cp) l.length) → Q0 (.exit 0) ⟨#[.pointer (some ⟨gf, fo, none⟩), sl1, sl2, sl3, sl4, sl5, .pointer (some ⟨nb, 0, none⟩), .slice a (nHome Q l l.length) cp, x8, x9, x10, sl11, sl12, sl13, sl14, sl15, sl16, sl17, sl18, sl19, sl20, sl21, sl22, sl23, sl24, sl25, sl26, sl27, sl28, sl29, sl30, sl31, sl32, sl33, sl34, sl35, sl36, sl37, sl38, sl39, sl40, sl41, sl42, sl43, sl44, sl45, sl46, sl47, sl48, sl49, sl50, sl51, x52, x53, x54, x55, x56, x57, x58, x59, x60, x61, x62, x63, x64, x65, x66, x67, x68, x69, x70, x71, x72, x73, x74, x75, x76, x77, x78, x79, x80, x81, x82, x83, x84, sl85, sl86, sl87, sl88, sl89, sl90, sl91, sl92, sl93, sl94, sl95, sl96, sl97, sl98, sl99, sl100, sl101, sl102, sl103, sl104, sl105, sl106, sl107, sl108, sl109, sl110, sl111, sl112, sl113, sl114, sl115, sl116, sl117, sl118, sl119, sl120, sl121, sl122], []⟩ wx) :
  Code.wp Tryz.prog (swapLoop 0) Q0 ⟨#[.pointer (some ⟨gf, fo, none⟩), sl1, sl2, sl3, sl4, sl5, .pointer (some ⟨nb, 0, none⟩), .slice none 0 0, .int .i64 0, sl9, sl10, sl11, sl12, sl13, sl14, sl15, sl16, sl17, sl18, sl19, sl20, sl21, sl22, sl23, sl24, sl25, sl26, sl27, sl28, sl29, sl30, sl31, sl32, sl33, sl34, sl35, sl36, sl37, sl38, sl39, sl40, sl41, sl42, sl43, sl44, sl45, sl46, sl47, sl48, sl49, sl50, sl51, sl52, sl53, sl54, sl55, sl56, sl57, sl58, sl59, sl60, sl61, sl62, sl63, sl64, sl65, sl66, sl67, sl68, sl69, sl70, sl71, sl72, sl73, sl74, sl75, sl76, sl77, sl78, sl79, sl80, sl81, sl82, sl83, sl84, sl85, sl86, sl87, sl88, sl89, sl90, sl91, sl92, sl93, sl94, sl95, sl96, sl97, sl98, sl99, sl100, sl101, sl102, sl103, sl104, sl105, sl106, sl107, sl108, sl109, sl110, sl111, sl112, sl113, sl114, sl115, sl116, sl117, sl118, sl119, sl120, sl121, sl122], []⟩ w0 := by
 conv => arg 4; dsimp only
 conv => arg 2; whnf
 have HF := hide hf
 have HWF := hide hwf
 have H1 := hide h1
 have H2 := hide h2
 have hl1 : l.length ≤ 120 := wf_len hwf
 obtain ⟨i114, q0, q1, q2, q3⟩ := info_parts info114
 clear hf hwf h1 h2
 go_loopw [7, 8] (fun s7 s8 wr => ∃ (i : Nat) (a : Option Addr) (cp : Nat), s8 = .int .i64 i ∧ i ≤ l.length ∧ s7 = .slice a (nHome Q l i) cp ∧ Hid (StI w wr nb g cap Q num ep l (.slice a (nHome Q l i) cp) i)) (fun _ s8 _ => l.length - (intOf s8).toNat)
 case atStart => exact ⟨0, none, 0, rfl, by omega, rfl, hI⟩
 case round =>
  obtain ⟨i, a, cp, rfl, hi, rfl, I1⟩ := hrel
  clear hI
  have ff := (unhide HF).mod (unhide I1).n.mod
  have fs := ff.slice
  by_cases hil : i < l.length
  ·have hii : (i : Int) < (l.length : Int) := by omega
   have h0i : (0 : Int) ≤ i := by omega
   have hi1 : IntKind.i64.wrap ((i : Int) + 1) = ((i + 1 : Nat) : Int) := by rw [wrap_id _ (by omega) (by omega)]; rfl
   have c0 := ff.row.row i hil
   have c1 := ff.row.col i hil
   have c2 := ff.row.st i hil
   have c3 := ff.row.pa i hil
   have c4 := ff.row.cl i hil
   have c5 := ff.row.un i hil
   obtain ⟨s, hs⟩ : ∃ s, l[i] = s := ⟨_, rfl⟩
   rw [hs] at c0 c1 c2 c3 c4 c5
   have M1 := hide ((Mod.refl No wr).alloc (.cells #[.int .i64 s.row, .int .i64 s.col, .int .i64 s.st, .int .i64 s.pa, .int .i64 s.cl, .int .i64 s.un] 63))
   have B1 := hide (Has.new wr #[.int .i64 s.row, .int .i64 s.col, .int .i64 s.st, .int .i64 s.pa, .int .i64 s.cl, .int .i64 s.un] 63)
   have HS := hide hs
   cases hh : Q.has s.row s.col with
   | true =>
    have HSEAT := hide fun W (hW : Mod No wr W) => rseat_has ((unhide I1).n.still hW).flR ((unhide I1).n.wf) s.row s.col hh
    obtain ⟨hj, _⟩ := stay_put (unhide HWF) (unhide H1) (unhide H2) i hil (by rw [hs]; exact hh)
    rw [hs] at hj
    have HLAY := hide fun W (hW : Mod No wr W) => ((unhide I1).still hW).lay (unhide HWF) (unhide H1) (unhide H2) hil (by rw [hs]; exact hh) s hs
    have HN := hide fun W (hW : Mod No wr W) => ((unhide I1).n.still hW)
    have hlen : (stay Q (l.take i)).length = nStay Q l i := rfl
    have hj2 : (Q.idx s.row s.col : Int) < (nStay Q l i : Nat) := by rw [← hlen]; omega
    have hle : nStay Q l i ≤ 120 := wf_len (unhide I1).n.wf
    have hj0 : (0 : Int) ≤ (Q.idx s.row s.col : Nat) := by omega
    generalize Q.idx s.row s.col = j at *
    have HJ := hide hj
    have HNH := hide (nHome_same (Q := Q) hil (by rw [hs, hh]; simp))
    clear hs hh hj hlen
    have HII := hide I1
    clear ff
    go_wp2_with fail
    refine ((unhide HSEAT) _ (unhide M1)).mono ?_
    rintro e w2 ⟨rfl, m2⟩
    have M2 := hide ((unhide M1).trans m2)
    have B2 := hide (m2.has (unhide B1) (fun x => x))
    clear c0 c1 c2 c3 c4 c5 fs m2
    generalize wr.heap.size = sb at *
    have b2 := (unhide B2).cell
    have lb2 := (unhide B2).lt
    have n2 := (unhide HN) w2 (unhide M2)
    have nc : w2.cell? ⟨nb, 8, none⟩ = some (.slice (some ⟨g, 0, none⟩) (nStay Q l i) cap) := n2.has.cell 8
    have nf := n2.row.froz
    have d0 := n2.row.row j (unhide HJ)
    have d1 := n2.row.col j (unhide HJ)
    have d2 := n2.row.st j (unhide HJ)
    have d3 := n2.row.pa j (unhide HJ)
    have d4 := n2.row.cl j (unhide HJ)
    have d5 := n2.row.un j (unhide HJ)
    generalize (stay Q (l.take i))[j]'(unhide HJ) = x at *
    have nl := n2.row.lt
    clear n2 HSEAT HN B1 M1
    have HLAY2 := hide ((unhide HLAY) w2 (unhide M2))
    clear HLAY M2
    go_wp2
    exact ⟨⟨i + 1, a, cp, rfl, by omega, by rw [unhide HNH], by rw [unhide HNH]; exact unhide HLAY2⟩, by simp [intOf]; omega⟩
   | false =>
    have HSEAT := hide fun W (hW : Mod No wr W) => rseat_no ((unhide I1).n.still hW).flR ((unhide I1).n.wf) s.row s.col hh
    clear ff
    by_cases h0 : s.st = 0
    ·have HNH := hide (nHome_same (Q := Q) hil (by rw [hs, h0]; simp))
     have HPASS := hide fun W (hW : Mod No wr W) => ((unhide I1).still hW).pass hil (by rw [hs]; exact hh) (by rw [hs]; exact h0)
     have hd : (s.st != 0) = false := by simp [h0]
     clear hs hh h0
     go_wp2_with fail
     refine ((unhide HSEAT) _ (unhide M1)).mono ?_
     rintro e w2 ⟨rfl, m2⟩
     have M2 := hide ((unhide M1).trans m2)
     have B2 := hide (m2.has (unhide B1) (fun x => x))
     clear c0 c1 c2 c3 c4 c5 fs m2
     generalize wr.heap.size = sb at *
     have b2 := (unhide B2).cell
     have P2 := hide ((unhide HPASS) _ (unhide M2))
     clear HSEAT HPASS B1 M1
     go_wp2
     exact ⟨⟨i + 1, a, cp, rfl, by omega, by rw [unhide HNH], by rw [unhide HNH]; exact unhide P2⟩, by simp [intOf]; omega⟩
    ·have HNH := hide (nHome_more (Q := Q) hil (by rw [hs, hh]; exact ⟨h0, by simp⟩))
     have hnl : nHome Q l i ≤ 120 := Nat.le_trans (nHome_le Q l i) hl1
     have HLEAVE := hide fun (w2 w3 : World) (v' : Value) (hm : Mod No wr w2) => (unhide I1).leave (w2 := w2) (w3 := w3) (v' := v') hil (by rw [hs]; exact hh) (by rw [hs]; exact h0) hm (.cells #[.int .i64 s.row, .int .i64 s.col, .int .i64 s.st, .int .i64 s.pa, .int .i64 s.cl, .int .i64 s.un] 63)
     rw [hs] at HLEAVE
     have hd : (s.st != 0) = true := by simp [h0]
     have HHOME := hide fun W (hW : Mod No wr W) => hW.owns (unhide I1).home (fun _ _ x => x)
     clear hs hh h0
     go_wp2_with fail
     refine ((unhide HSEAT) _ (unhide M1)).mono ?_
     rintro e w2 ⟨rfl, m2⟩
     have M2 := hide ((unhide M1).trans m2)
     have B2 := hide (m2.has (unhide B1) (fun x => x))
     clear c0 c1 c2 c3 c4 c5 fs m2
     generalize wr.heap.size = sb at *
     have b2 := (unhide B2).cell
     have HL2 := hide fun (w3 : World) (v' : Value) => (unhide HLEAVE) w2 w3 v' (unhide M2)
     have HO := hide ((unhide HHOME) _ ((unhide M2).alloc (.cells #[.int .i64 s.row, .int .i64 s.col, .int .i64 s.st, .int .i64 s.pa, .int .i64 s.cl, .int .i64 s.un] 63)))
     have HRD := hide (show Reads (w2.alloc (.cells #[.int .i64 s.row, .int .i64 s.col, .int .i64 s.st, .int .i64 s.pa, .int .i64 s.cl, .int .i64 s.un] 63)) (.slice (some ⟨w2.heap.size, 0, none⟩) 1 1) 1 (seaL s) from
      .inr ⟨⟨w2.heap.size, 0, none⟩, 1, rfl, fun j u hu => by
       rw [Addr.add_mid, Nat.zero_add, (Has.new w2 #[.int .i64 s.row, .int .i64 s.col, .int .i64 s.st, .int .i64 s.pa, .int .i64 s.cl, .int .i64 s.un] 63).cell, ← Array.getElem?_toList]
       exact hu⟩)
     clear HSEAT HLEAVE HHOME B1 M1
     go_wp2_with (at_builtin; refine wpList_append_row rfl (.tmp 81) (.tmp 83) 61 rfl 63 i114 _ 6 48 Tryz.underlying61 q0 q1 q2 q3 rfl (by decide) (.slice a (nHome Q l i) cp) (nHome Q l i) _ (by simp [Act.eval]) (by exact unhide HO) (.slice (some ⟨w2.heap.size, 0, none⟩) 1 1) 1 (seaL s) (by simp [Act.eval]) (by exact unhide HRD) rfl (by intro u hu; simp [seaL, seaV] at hu; rcases hu with rfl | rfl | rfl | rfl | rfl | rfl <;> rfl) (by unfold maxLen; omega) (by omega) ?_; intro v' w3 ho3 hg3 hs3; obtain ⟨a3, c3, rfl⟩ := slice_of_owns ho3; have L3 := hide ((unhide HL2) w3 _ ho3 hg3 hs3); clear ho3 hg3 hs3)
     exact ⟨⟨i + 1, a3, c3, rfl, by omega, by rw [unhide HNH], by rw [unhide HNH]; exact unhide L3⟩, by simp [intOf]; omega⟩
  ·have hii : ¬ (i : Int) < (l.length : Int) := by omega
   obtain rfl : i = l.length := by omega
   clear ff
   go_wp2
theorem rowS_some {w : World} {a : Option Addr} {cp : Nat} {l : List Sea} (h : w.ownsRow 0 63 6 (.slice a l.length cp) l.length (l.flatMap seaL)) (hp : 0 < l.length) : ∃ g, a = some ⟨g, 0, none⟩ ∧ RowS w g cp l := by
 obtain ⟨_, h1 | ⟨g, cap, cur, hv, _⟩⟩ := id h
 ·omega
 ·injection hv with e1 e2 e3
  subst e1 e3
  exact ⟨g, rfl, (rowS_of h).2⟩
structure ReN (w wr : World) (nb g cap : Nat) (Q : Pla) (num ep : Int) (acc0 hs : List Sea) (v : Value) (n : Nat) : Prop where
 fli : NewF w wr nb g cap Q num ep (accN acc0 hs n)
 re : Reseat Q (accN acc0 hs n) (hs.length - n)
 home : wr.ownsRow 0 63 6 v hs.length (hs.flatMap seaL)
 own : ∀ k, v.ownBlock = some k → w.heap.size ≤ k ∧ k ≠ nb ∧ k ≠ g
theorem ReN.still {w wr w2 : World} {nb g cap : Nat} {Q : Pla} {num ep : Int} {acc0 hs : List Sea} {v : Value} {n : Nat} (h : ReN w wr nb g cap Q num ep acc0 hs v n) (hm : Mod No wr w2) : ReN w w2 nb g cap Q num ep acc0 hs v n :=
 ⟨h.fli.still hm, h.re, hm.owns h.home (fun _ _ x => x), h.own⟩
theorem ReN.free {w wr : World} {nb g cap : Nat} {Q : Pla} {num ep : Int} {acc0 hs : List Sea} {v : Value} {n : Nat} (h : ReN w wr nb g cap Q num ep acc0 hs v n) (hn : n < hs.length) : firstFree (accN acc0 hs n) < (accN acc0 hs n).length :=
 firstFree_lt (n := hs.length - n - 1) (by rw [show hs.length - n - 1 + 1 = hs.length - n by omega]; exact h.re)
theorem ReN.next {w wr : World} {nb g cap : Nat} {Q : Pla} {num ep : Int} {acc0 hs : List Sea} {v : Value} {n : Nat} (h : ReN w wr nb g cap Q num ep acc0 hs v n) (hw : ∀ s ∈ hs, s.wf ∧ s.st ≠ 0) (hn : n < hs.length) (s : Sea) (hs0 : hs[n] = s) (k : Nat) (hk : firstFree (accN acc0 hs n) = k) (hkl : k < (accN acc0 hs n).length) (x : Sea) (hx : (accN acc0 hs n)[k] = x) :
  ReN w ((((((((wr.setCell ⟨g, k * 6, none⟩ (.int .i64 s.row)).setCell ⟨g, k * 6 + 1, none⟩ (.int .i64 s.col)).setCell ⟨g, k * 6 + 2, none⟩ (.int .i64 s.st)).setCell ⟨g, k * 6 + 3, none⟩ (.int .i64 s.pa)).setCell ⟨g, k * 6 + 4, none⟩ (.int .i64 s.cl)).setCell ⟨g, k * 6 + 5, none⟩ (.int .i64 s.un)).setCell ⟨g, k * 6, none⟩ (.int .i64 x.row)).setCell ⟨g, k * 6 + 1, none⟩ (.int .i64 x.col)) nb g cap Q num ep acc0 hs v (n + 1) := by
 subst hk hx hs0
 have hs' := hw _ (List.getElem_mem hn)
 have hre : Reseat Q (accN acc0 hs n) ((hs.length - (n + 1)) + 1) := by rw [show hs.length - (n + 1) + 1 = hs.length - n by omega]; exact h.re
 have hstep := Reseat.step hre hs'.1 hs'.2
 have e2 : accN acc0 hs (n + 1) = reseatStep (accN acc0 hs n) hs[n] := by
  unfold accN
  rw [fold_take hn]
 have e1 : accN acc0 hs (n + 1) = (accN acc0 hs n).set (firstFree (accN acc0 hs n)) (Sea.at hs[n] (accN acc0 hs n)[firstFree (accN acc0 hs n)]) := by
  rw [e2]
  unfold reseatStep
  rw [List.getD_eq_getElem?_getD, List.getElem?_eq_getElem hkl]
  rfl
 rw [← e2] at hstep
 have hfli := h.fli
 generalize hacc : accN acc0 hs n = acc at *
 have hr := (hfli.row.put6 (firstFree acc) hkl hs[n])
 have hr2 := (hr.put hkl 0 (by omega) (.int .i64 acc[firstFree acc].row) ⟨acc[firstFree acc].row, hs[n].col, hs[n].st, hs[n].pa, hs[n].cl, hs[n].un⟩ rfl).put hkl 1 (by omega) (.int .i64 acc[firstFree acc].col) (Sea.at hs[n] acc[firstFree acc]) rfl
 have hm := (((Mod.refl (fun k => k = g) wr).put6 rfl (firstFree acc) (.int .i64 hs[n].row) (.int .i64 hs[n].col) (.int .i64 hs[n].st) (.int .i64 hs[n].pa) (.int .i64 hs[n].cl) (.int .i64 hs[n].un)).setCell (p := ⟨g, firstFree acc * 6, none⟩) (.inl rfl) (.int .i64 acc[firstFree acc].row)).setCell (p := ⟨g, firstFree acc * 6 + 1, none⟩) (.inl rfl) (.int .i64 acc[firstFree acc].col)
 refine ⟨⟨?_, ?_, hstep.wf, hfli.ne, hfli.new, hfli.mod.trans' hm (fun k hk hl => by have := hfli.new.2; omega)⟩, hstep, hm.owns h.home (fun k hk e => (h.own k hk).2.2 e), h.own⟩
 ·have := hm.has hfli.has hfli.ne
  rw [e1, List.length_set]
  exact this
 ·rw [e1]
  exact hr2
theorem free_walk {w w0 : World} {nb g cap n : Nat} {Q : Pla} {num ep : Int} {acc0 hs : List Sea} {v : Value} (hn : n < hs.length) (Q0 : Exit → Act → World → Prop)
  (hI : Hid (ReN w w0 nb g cap Q num ep acc0 hs v n)) (sl0 sl1 sl2 sl3 sl4 sl5 sl7 sl8 sl9 sl10 sl11 sl13 sl14 sl15 sl16 sl17 sl18 sl19 sl20 sl21 sl22 sl23 sl24 sl25 sl26 sl27 sl28 sl29 sl30 sl31 sl32 sl33 sl34 sl35 sl36 sl37 sl38 sl39 sl40 sl41 sl42 sl43 sl44 sl45 sl46 sl47 sl48 sl49 sl50 sl51 sl52 sl53 sl54 sl55 sl56 sl57 sl58 sl59 sl60 sl61 sl62 sl63 sl64 sl65 sl66 sl67 sl68 sl69 sl70 sl71 sl72 sl73 sl74 sl75 sl76 sl77 sl78 sl79 sl80 sl81 sl82 sl83 sl84 sl85 sl86 sl87 sl88 sl89 sl90 sl91 sl92 sl93 sl94 sl95 sl96 sl97 sl98 sl99 sl100 sl101 sl102 sl103 sl104 sl105 sl106 sl107 sl108 sl109 sl110 sl111 sl112 sl113 sl114 sl115 sl116 sl117 sl118 sl119 sl120 sl121 sl122 : Value)
  (hexit : ∀ (x91 x92 x93 x94 x95 x96 x97 x98 x99 : Value), Q0 (.exit 4) ⟨#[sl0, sl1, sl2, sl3, sl4, sl5, .pointer (some ⟨nb, 0, none⟩), sl7, sl8, sl9, sl10, sl11, .int .i64 (firstFree (accN acc0 hs n) : Nat), sl13, sl14, sl15, sl16, sl17, sl18, sl19, sl20, sl21, sl22, sl23, sl24, sl25, sl26, sl27, sl28, sl29, sl30, sl31, sl32, sl33, sl34, sl35, sl36, sl37, sl38, sl39, sl40, sl41, sl42, sl43, sl44, sl45, sl46, sl47, sl48, sl49, sl50, sl51, sl52, sl53, sl54, sl55, sl56, sl57, sl58, sl59, sl60, sl61, sl62, sl63, sl64, sl65, sl66, sl67, sl68, sl69, sl70, sl71, sl72, sl73, sl74, sl75, sl76, sl77, sl78, sl79, sl80, sl81, sl82, sl83, sl84, sl85, sl86, sl87, sl88, sl89, sl90, x91, x92, x93, x94, x95, x96, x97, x98, x99, sl100, sl101, sl102, sl103, sl104, sl105, sl106, sl107, sl108, sl109, sl110, sl111, sl112, sl113, sl114, sl115, sl116, sl117, sl118, sl119, sl120, sl121, sl122], []⟩ w0) :
  Code.wp Tryz.prog (swapLoop 2) Q0 ⟨#[sl0, sl1, sl2, sl3, sl4, sl5, .pointer (some ⟨nb, 0, none⟩), sl7, sl8, sl9, sl10, sl11, .int .i64 0, sl13, sl14, sl15, sl16, sl17, sl18, sl19, sl20, sl21, sl22, sl23, sl24, sl25, sl26, sl27, sl28, sl29, sl30, sl31, sl32, sl33, sl34, sl35, sl36, sl37, sl38, sl39, sl40, sl41, sl42, sl43, sl44, sl45, sl46, sl47, sl48, sl49, sl50, sl51, sl52, sl53, sl54, sl55, sl56, sl57, sl58, sl59, sl60, sl61, sl62, sl63, sl64, sl65, sl66, sl67, sl68, sl69, sl70, sl71, sl72, sl73, sl74, sl75, sl76, sl77, sl78, sl79, sl80, sl81, sl82, sl83, sl84, sl85, sl86, sl87, sl88, sl89, sl90, sl91, sl92, sl93, sl94, sl95, sl96, sl97, sl98, sl99, sl100, sl101, sl102, sl103, sl104, sl105, sl106, sl107, sl108, sl109, sl110, sl111, sl112, sl113, sl114, sl115, sl116, sl117, sl118, sl119, sl120, sl121, sl122], []⟩ w0 := by
 conv => arg 4; dsimp only
 conv => arg 2; whnf
 have hff := (unhide hI).free hn
 have hwl : (accN acc0 hs n).length ≤ 120 := wf_len (unhide hI).fli.wf
 have HST := hide (show ∀ (k : Nat), k < (accN acc0 hs n).length → ∃ st : Int, w0.cell? ⟨g, k * 6 + 2, none⟩ = some (.int .i64 st) ∧ (k < firstFree (accN acc0 hs n) → st ≠ 0) ∧ (k = firstFree (accN acc0 hs n) → st = 0) from fun k hk =>
  ⟨_, (unhide hI).fli.row.st k hk, fun h => full_before h hk, fun h => by subst h; exact firstFree_at hff⟩)
 have hs8 : w0.cell? ⟨nb, 8, none⟩ = some (.slice (some ⟨g, 0, none⟩) (accN acc0 hs n).length cap) := (unhide hI).fli.has.cell 8
 generalize firstFree (accN acc0 hs n) = F at *
 generalize (accN acc0 hs n).length = N at *
 go_loopw [12] (fun s12 wr => ∃ k : Nat, s12 = .int .i64 k ∧ k ≤ F ∧ wr = w0) (fun s12 _ => N - (intOf s12).toNat)
 case atStart => exact ⟨0, rfl, by omega, rfl⟩
 case round =>
  obtain ⟨k, rfl, hk, rfl⟩ := hrel
  have hkN : k < N := by omega
  have hki : (k : Int) < (N : Int) := by omega
  have hk0 : (0 : Int) ≤ k := by omega
  have hk1 : IntKind.i64.wrap ((k : Int) + 1) = ((k + 1 : Nat) : Int) := by rw [wrap_id _ (by omega) (by omega)]; rfl
  obtain ⟨st, c2, c3, c4⟩ := (unhide HST) k hkN
  by_cases hkF : k < F
  ·have hd : (st != 0) = true := by simpa using c3 hkF
   clear c3 c4
   go_wp2
   exact ⟨⟨k + 1, rfl, by omega, by trivial⟩, by simp [intOf]; omega⟩
  ·obtain rfl : k = F := by omega
   have hd : (st != 0) = false := by simpa using c4 rfl
   clear c3 c4
   go_wp2
   apply hexit
theorem reseat_walk2 {w w0 : World} {nb g cap cp : Nat} {a : Option Addr} {Q : Pla} {num ep : Int} {acc0 hs : List Sea} (hw : ∀ s ∈ hs, s.wf ∧ s.st ≠ 0) (hl : hs.length ≤ 120) (Q0 : Exit → Act → World → Prop)
  (hI : Hid (ReN w w0 nb g cap Q num ep acc0 hs (.slice a hs.length cp) 0)) (sl0 sl1 sl2 sl3 sl4 sl5 sl8 sl9 sl10 sl12 sl13 sl14 sl15 sl16 sl17 sl18 sl19 sl20 sl21 sl22 sl23 sl24 sl25 sl26 sl27 sl28 sl29 sl30 sl31 sl32 sl33 sl34 sl35 sl36 sl37 sl38 sl39 sl40 sl41 sl42 sl43 sl44 sl45 sl46 sl47 sl48 sl49 sl50 sl51 sl52 sl53 sl54 sl55 sl56 sl57 sl58 sl59 sl60 sl61 sl62 sl63 sl64 sl65 sl66 sl67 sl68 sl69 sl70 sl71 sl72 sl73 sl74 sl75 sl76 sl77 sl78 sl79 sl80 sl81 sl82 sl83 sl84 sl85 sl86 sl87 sl88 sl89 sl90 sl91 sl92 sl93 sl94 sl95 sl96 sl97 sl98 sl99 sl100 sl101 sl102 sl103 sl104 sl105 sl106 sl107 sl108 sl109 sl110 sl111 sl112 sl113 sl114 sl115 sl116 sl117 sl118 sl119 sl120 sl121 sl122 : Value)
  (hexit : ∀ (x11 x12 x13 x85 x86 x87 x88 x89 x90 x91 x92 x93 x94 x95 x96 x97 x98 x99 x100 x101 x102 x103 x104 x105 x106 x107 x108 x109 x110 x111 x112 x113 x114 x115 x116 x117 x118 x119 : Value) (wx : World), Hid (ReN w wx nb g cap Q num ep acc0 hs (.slice a hs.length cp) hs.length) → Q0 (.exit 2) ⟨#[sl0, sl1, sl2, sl3, sl4, sl5, .pointer (some ⟨nb, 0, none⟩), .slice a hs.length cp, sl8, sl9, sl10, x11, x12, x13, sl14, sl15, sl16, sl17, sl18, sl19, sl20, sl21, sl22, sl23, sl24, sl25, sl26, sl27, sl28, sl29, sl30, sl31, sl32, sl33, sl34, sl35, sl36, sl37, sl38, sl39, sl40, sl41, sl42, sl43, sl44, sl45, sl46, sl47, sl48, sl49, sl50, sl51, sl52, sl53, sl54, sl55, sl56, sl57, sl58, sl59, sl60, sl61, sl62, sl63, sl64, sl65, sl66, sl67, sl68, sl69, sl70, sl71, sl72, sl73, sl74, sl75, sl76, sl77, sl78, sl79, sl80, sl81, sl82, sl83, sl84, x85, x86, x87, x88, x89, x90, x91, x92, x93, x94, x95, x96, x97, x98, x99, x100, x101, x102, x103, x104, x105, x106, x107, x108, x109, x110, x111, x112, x113, x114, x115, x116, x117, x118, x119, sl120, sl121, sl122], []⟩ wx) :
  Code.wp Tryz.prog (swapLoop 1) Q0 ⟨#[sl0, sl1, sl2, sl3, sl4, sl5, .pointer (some ⟨nb, 0, none⟩), .slice a hs.length cp, sl8, sl9, sl10, .int .i64 0, sl12, sl13, sl14, sl15, sl16, sl17, sl18, sl19, sl20, sl21, sl22, sl23, sl24, sl25, sl26, sl27, sl28, sl29, sl30, sl31, sl32, sl33, sl34, sl35, sl36, sl37, sl38, sl39, sl40, sl41, sl42, sl43, sl44, sl45, sl46, sl47, sl48, sl49, sl50, sl51, sl52, sl53, sl54, sl55, sl56, sl57, sl58, sl59, sl60, sl61, sl62, sl63, sl64, sl65, sl66, sl67, sl68, sl69, sl70, sl71, sl72, sl73, sl74, sl75, sl76, sl77, sl78, sl79, sl80, sl81, sl82, sl83, sl84, sl85, sl86, sl87, sl88, sl89, sl90, sl91, sl92, sl93, sl94, sl95, sl96, sl97, sl98, sl99, sl100, sl101, sl102, sl103, sl104, sl105, sl106, sl107, sl108, sl109, sl110, sl111, sl112, sl113, sl114, sl115, sl116, sl117, sl118, sl119, sl120, sl121, sl122], []⟩ w0 := by
 conv => arg 4; dsimp only
 conv => arg 2; whnf
 have HW := hide hw
 clear hw
 go_loopw [11] (fun s11 wr => ∃ n : Nat, s11 = .int .i64 n ∧ n ≤ hs.length ∧ Hid (ReN w wr nb g cap Q num ep acc0 hs (.slice a hs.length cp) n)) (fun s11 _ => hs.length - (intOf s11).toNat)
 case atStart => exact ⟨0, rfl, by omega, hI⟩
 case round =>
  obtain ⟨n, rfl, hn, I1⟩ := hrel
  clear hI
  by_cases hnl : n < hs.length
  ·have hni : (n : Int) < (hs.length : Int) := by omega
   have hn0 : (0 : Int) ≤ n := by omega
   have hn1 : IntKind.i64.wrap ((n : Int) + 1) = ((n + 1 : Nat) : Int) := by rw [wrap_id _ (by omega) (by omega)]; rfl
   obtain ⟨gh, rfl, RH⟩ := rowS_some (unhide I1).home (by omega)
   have hgo := (unhide I1).own gh rfl
   have RH := hide RH
   have HOW := hide hgo
   clear hgo
   go_upto_block 4 with fail
   refine wp_block ?_
   refine free_walk hnl _ I1 _ _ _ _ _ _ _ _ _ _ _ _ _ _ _ _ _ _ _ _ _ _ _ _ _ _ _ _ _ _ _ _ _ _ _ _ _ _ _ _ _ _ _ _ _ _ _ _ _ _ _ _ _ _ _ _ _ _ _ _ _ _ _ _ _ _ _ _ _ _ _ _ _ _ _ _ _ _ _ _ _ _ _ _ _ _ _ _ _ _ _ _ _ _ _ _ _ _ _ _ _ _ _ _ _ _ _ _ _ _ _ _ _ _ _ _ _ _ _ _ _ ?_
   intro x91 x92 x93 x94 x95 x96 x97 x98 x99
   have hkl := (unhide I1).free hnl
   obtain ⟨k, hk⟩ : ∃ k, firstFree (accN acc0 hs n) = k := ⟨_, rfl⟩
   rw [hk] at hkl ⊢
   obtain ⟨N, hN⟩ : ∃ N, (accN acc0 hs n).length = N := ⟨_, rfl⟩
   have hNle : N ≤ 120 := by rw [← hN]; exact wf_len (unhide I1).fli.wf
   have hki : (k : Int) < (N : Int) := by omega
   have hk0 : (0 : Int) ≤ k := by omega
   obtain ⟨x, hx⟩ : ∃ x, (accN acc0 hs n)[k] = x := ⟨_, rfl⟩
   obtain ⟨s, hs0⟩ : ∃ s, hs[n] = s := ⟨_, rfl⟩
   have HNX := hide fun W (hW : Mod No wr W) => ((unhide I1).still hW).next (unhide HW) hnl s hs0 k hk hkl x hx
   have HROW := hide fun W (hW : Mod No wr W) => (show W.cell? ⟨nb, 8, none⟩ = some (.slice (some ⟨g, 0, none⟩) N cap) from by rw [← hN]; exact ((unhide I1).fli.still hW).has.cell 8)
   have HCX := hide fun W (hW : Mod No wr W) => (show W.cell? ⟨g, k * 6, none⟩ = some (.int .i64 x.row) ∧ W.cell? ⟨g, k * 6 + 1, none⟩ = some (.int .i64 x.col) ∧ W.cell? ⟨g, k * 6 + 2, none⟩ = some (.int .i64 x.st) ∧ W.cell? ⟨g, k * 6 + 3, none⟩ = some (.int .i64 x.pa) ∧ W.cell? ⟨g, k * 6 + 4, none⟩ = some (.int .i64 x.cl) ∧ W.cell? ⟨g, k * 6 + 5, none⟩ = some (.int .i64 x.un) ∧ (∀ o, W.frozen? ⟨g, o, none⟩ = false) ∧ g < W.heap.size from by
    have r := ((unhide I1).fli.still hW).row
    exact ⟨by rw [← hx]; exact r.row k hkl, by rw [← hx]; exact r.col k hkl, by rw [← hx]; exact r.st k hkl, by rw [← hx]; exact r.pa k hkl, by rw [← hx]; exact r.cl k hkl, by rw [← hx]; exact r.un k hkl, r.froz, r.lt⟩)
   have HCS := hide fun W (hW : Mod No wr W) => (show W.cell? ⟨gh, n * 6, none⟩ = some (.int .i64 s.row) ∧ W.cell? ⟨gh, n * 6 + 1, none⟩ = some (.int .i64 s.col) ∧ W.cell? ⟨gh, n * 6 + 2, none⟩ = some (.int .i64 s.st) ∧ W.cell? ⟨gh, n * 6 + 3, none⟩ = some (.int .i64 s.pa) ∧ W.cell? ⟨gh, n * 6 + 4, none⟩ = some (.int .i64 s.cl) ∧ W.cell? ⟨gh, n * 6 + 5, none⟩ = some (.int .i64 s.un) from by
    have r := (unhide RH).mod hW (fun x => x)
    exact ⟨by rw [← hs0]; exact r.row n hnl, by rw [← hs0]; exact r.col n hnl, by rw [← hs0]; exact r.st n hnl, by rw [← hs0]; exact r.pa n hnl, by rw [← hs0]; exact r.cl n hnl, by rw [← hs0]; exact r.un n hnl⟩)
   have NG := hide (show g ≠ gh from fun e => (unhide HOW).2.2 e.symm)
   have NB := hide (show nb ≠ g from (unhide I1).fli.ne)
   clear hk hkl hN hx hs0 I1 RH HOW
   have r0 := (unhide HROW) wr (Mod.refl _ _)
   obtain ⟨d0, d1, _⟩ := (unhide HCX) wr (Mod.refl _ _)
   go_upto_region 23 with fail
   have M1 := hide ((Mod.refl No wr).alloc (.cells #[.int .i64 x.row, .int .i64 x.col] 36))
   have B1 := hide (Has.new wr #[.int .i64 x.row, .int .i64 x.col] 36)
   have hlt1 : wr.heap.size < (wr.alloc (.cells #[.int .i64 x.row, .int .i64 x.col] 36)).heap.size := (unhide B1).lt
   clear r0 d0 d1
   have GT := hide (show g ≠ wr.heap.size from by obtain ⟨_, _, _, _, _, _, _, h⟩ := (unhide HCX) wr (Mod.refl _ _); omega)
   generalize wr.heap.size = tb at *
   generalize wr.alloc (.cells #[.int .i64 x.row, .int .i64 x.col] 36) = w1 at *
   have r1 := (unhide HROW) w1 (unhide M1)
   obtain ⟨d0, d1, d2, d3, d4, d5, fz, lg⟩ := (unhide HCX) w1 (unhide M1)
   obtain ⟨c0, c1, c2, c3, c4, c5⟩ := (unhide HCS) w1 (unhide M1)
   have b0 : w1.cell? ⟨tb, 0, none⟩ = some (.int .i64 x.row) := (unhide B1).cell 0
   have b1 : w1.cell? ⟨tb, 1, none⟩ = some (.int .i64 x.col) := (unhide B1).cell 1
   have ng := unhide NG
   have nbg := unhide NB
   have gt := unhide GT
   have NX := hide ((unhide HNX) w1 (unhide M1))
   clear HNX HROW HCX HCS B1 M1
   go_region
   all_goals go_wp2
   all_goals exact ⟨⟨n + 1, rfl, by omega, (unhide NX).still (by repeat' (first | with_reducible exact Mod.refl _ _ | refine Mod.drewN ?_ _ | refine Mod.drew ?_))⟩, by simp [intOf]; omega⟩
  ·have hni : ¬ (n : Int) < (hs.length : Int) := by omega
   obtain rfl : n = hs.length := by omega
   go_wp2
def put10 (w : World) (gf fo : Nat) (num : Int) (Q : Pla) (g E cap : Nat) (ep : Int) : World := ((((((((((w.setCell ⟨gf, fo, none⟩ (.int .i64 num)).setCell ⟨gf, fo + 1, none⟩ (.int .i64 Q.rows)).setCell ⟨gf, fo + 2, none⟩ (.int .i64 Q.cols)).setCell ⟨gf, fo + 3, none⟩ (.int .i64 Q.front)).setCell ⟨gf, fo + 4, none⟩ (.int .i64 Q.l0)).setCell ⟨gf, fo + 5, none⟩ (.int .i64 Q.l1)).setCell ⟨gf, fo + 6, none⟩ (.int .i64 Q.l2)).setCell ⟨gf, fo + 7, none⟩ (.int .i64 Q.l3)).setCell ⟨gf, fo + 8, none⟩ (.slice (some ⟨g, 0, none⟩) E cap)).setCell ⟨gf, fo + 9, none⟩ (.int .i64 ep))
theorem NewF.made {w w3 w5 : World} {g cap : Nat} {Q : Pla} {num ep : Int} (hm : Mod No w w3) (h5 : Mod No w3 w5) (hr : RowS w5 g cap (emptySeats Q)) (hg : w3.heap.size < g) (hwf : Wf Q (emptySeats Q)) :
  NewF w (w5.alloc (.cells #[.int .i64 num, .int .i64 Q.rows, .int .i64 Q.cols, .int .i64 Q.front, .int .i64 Q.l0, .int .i64 Q.l1, .int .i64 Q.l2, .int .i64 Q.l3, .slice (some ⟨g, 0, none⟩) (emptySeats Q).length cap, .int .i64 ep] 134)) w5.heap.size g cap Q num ep (emptySeats Q) := by
 have h6 : Mod No w5 (w5.alloc (.cells #[.int .i64 num, .int .i64 Q.rows, .int .i64 Q.cols, .int .i64 Q.front, .int .i64 Q.l0, .int .i64 Q.l1, .int .i64 Q.l2, .int .i64 Q.l3, .slice (some ⟨g, 0, none⟩) (emptySeats Q).length cap, .int .i64 ep] 134)) := (Mod.refl _ _).alloc _
 have := hm.size
 have := h5.size
 have := hr.lt
 exact ⟨Has.new _ _ _, hr.mod h6 (fun x => x), hwf, by omega, by omega, (hm.trans h5).trans h6⟩
theorem NewF.made2 {w w3 w5 : World} {bb g cap : Nat} {Q : Pla} {num ep : Int} (hm : Mod No w w3) (h5 : Mod No w3 w5) (hz : Has w3 bb #[.int .i64 0, .int .i64 0, .int .i64 0, .int .i64 0, .int .i64 0, .int .i64 0, .int .i64 0, .int .i64 0, .slice none 0 0, .int .i64 0] 134) (hbb : w.heap.size ≤ bb) (hr : RowS w5 g cap (emptySeats Q)) (hg : w3.heap.size < g) (hwf : Wf Q (emptySeats Q)) :
  NewF w ((((((((((w5.setCell ⟨bb, 0, none⟩ (.int .i64 num)).setCell ⟨bb, 1, none⟩ (.int .i64 Q.rows)).setCell ⟨bb, 2, none⟩ (.int .i64 Q.cols)).setCell ⟨bb, 3, none⟩ (.int .i64 Q.front)).setCell ⟨bb, 4, none⟩ (.int .i64 Q.l0)).setCell ⟨bb, 5, none⟩ (.int .i64 Q.l1)).setCell ⟨bb, 6, none⟩ (.int .i64 Q.l2)).setCell ⟨bb, 7, none⟩ (.int .i64 Q.l3)).setCell ⟨bb, 8, none⟩ (.slice (some ⟨g, 0, none⟩) (emptySeats Q).length cap)).setCell ⟨bb, 9, none⟩ (.int .i64 ep)) bb g cap Q num ep (emptySeats Q) := by
 have z5 := h5.has hz (fun x => x)
 have hlt := hz.lt
 have hgb : g ≠ bb := by omega
 have m6 : Mod (fun k => k = bb) w5 ((((((((((w5.setCell ⟨bb, 0, none⟩ (.int .i64 num)).setCell ⟨bb, 1, none⟩ (.int .i64 Q.rows)).setCell ⟨bb, 2, none⟩ (.int .i64 Q.cols)).setCell ⟨bb, 3, none⟩ (.int .i64 Q.front)).setCell ⟨bb, 4, none⟩ (.int .i64 Q.l0)).setCell ⟨bb, 5, none⟩ (.int .i64 Q.l1)).setCell ⟨bb, 6, none⟩ (.int .i64 Q.l2)).setCell ⟨bb, 7, none⟩ (.int .i64 Q.l3)).setCell ⟨bb, 8, none⟩ (.slice (some ⟨g, 0, none⟩) (emptySeats Q).length cap)).setCell ⟨bb, 9, none⟩ (.int .i64 ep)) := (((((((((((Mod.refl _ w5).at 0 _).at 1 _).at 2 _).at 3 _).at 4 _).at 5 _).at 6 _).at 7 _).at 8 _).at 9 _)
 have e0 : Has (w5.setCell ⟨bb, 0, none⟩ (.int .i64 num)) bb #[.int .i64 num, .int .i64 0, .int .i64 0, .int .i64 0, .int .i64 0, .int .i64 0, .int .i64 0, .int .i64 0, .slice none 0 0, .int .i64 0] 134 := z5.set 0 _
 have e1 : Has ((w5.setCell ⟨bb, 0, none⟩ (.int .i64 num)).setCell ⟨bb, 1, none⟩ (.int .i64 Q.rows)) bb #[.int .i64 num, .int .i64 Q.rows, .int .i64 0, .int .i64 0, .int .i64 0, .int .i64 0, .int .i64 0, .int .i64 0, .slice none 0 0, .int .i64 0] 134 := e0.set 1 _
 have e2 : Has (((w5.setCell ⟨bb, 0, none⟩ (.int .i64 num)).setCell ⟨bb, 1, none⟩ (.int .i64 Q.rows)).setCell ⟨bb, 2, none⟩ (.int .i64 Q.cols)) bb #[.int .i64 num, .int .i64 Q.rows, .int .i64 Q.cols, .int .i64 0, .int .i64 0, .int .i64 0, .int .i64 0, .int .i64 0, .slice none 0 0, .int .i64 0] 134 := e1.set 2 _
 have e3 : Has ((((w5.setCell ⟨bb, 0, none⟩ (.int .i64 num)).setCell ⟨bb, 1, none⟩ (.int .i64 Q.rows)).setCell ⟨bb, 2, none⟩ (.int .i64 Q.cols)).setCell ⟨bb, 3, none⟩ (.int .i64 Q.front)) bb #[.int .i64 num, .int .i64 Q.rows, .int .i64 Q.cols, .int .i64 Q.front, .int .i64 0, .int .i64 0, .int .i64 0, .int .i64 0, .slice none 0 0, .int .i64 0] 134 := e2.set 3 _
 have e4 : Has (((((w5.setCell ⟨bb, 0, none⟩ (.int .i64 num)).setCell ⟨bb, 1, none⟩ (.int .i64 Q.rows)).setCell ⟨bb, 2, none⟩ (.int .i64 Q.cols)).setCell ⟨bb, 3, none⟩ (.int .i64 Q.front)).setCell ⟨bb, 4, none⟩ (.int .i64 Q.l0)) bb #[.int .i64 num, .int .i64 Q.rows, .int .i64 Q.cols, .int .i64 Q.front, .int .i64 Q.l0, .int .i64 0, .int .i64 0, .int .i64 0, .slice none 0 0, .int .i64 0] 134 := e3.set 4 _
 have e5 : Has ((((((w5.setCell ⟨bb, 0, none⟩ (.int .i64 num)).setCell ⟨bb, 1, none⟩ (.int .i64 Q.rows)).setCell ⟨bb, 2, none⟩ (.int .i64 Q.cols)).setCell ⟨bb, 3, none⟩ (.int .i64 Q.front)).setCell ⟨bb, 4, none⟩ (.int .i64 Q.l0)).setCell ⟨bb, 5, none⟩ (.int .i64 Q.l1)) bb #[.int .i64 num, .int .i64 Q.rows, .int .i64 Q.cols, .int .i64 Q.front, .int .i64 Q.l0, .int .i64 Q.l1, .int .i64 0, .int .i64 0, .slice none 0 0, .int .i64 0] 134 := e4.set 5 _
 have e6 : Has (((((((w5.setCell ⟨bb, 0, none⟩ (.int .i64 num)).setCell ⟨bb, 1, none⟩ (.int .i64 Q.rows)).setCell ⟨bb, 2, none⟩ (.int .i64 Q.cols)).setCell ⟨bb, 3, none⟩ (.int .i64 Q.front)).setCell ⟨bb, 4, none⟩ (.int .i64 Q.l0)).setCell ⟨bb, 5, none⟩ (.int .i64 Q.l1)).setCell ⟨bb, 6, none⟩ (.int .i64 Q.l2)) bb #[.int .i64 num, .int .i64 Q.rows, .int .i64 Q.cols, .int .i64 Q.front, .int .i64 Q.l0, .int .i64 Q.l1, .int .i64 Q.l2, .int .i64 0, .slice none 0 0, .int .i64 0] 134 := e5.set 6 _
 have e7 : Has ((((((((w5.setCell ⟨bb, 0, none⟩ (.int .i64 num)).setCell ⟨bb, 1, none⟩ (.int .i64 Q.rows)).setCell ⟨bb, 2, none⟩ (.int .i64 Q.cols)).setCell ⟨bb, 3, none⟩ (.int .i64 Q.front)).setCell ⟨bb, 4, none⟩ (.int .i64 Q.l0)).setCell ⟨bb, 5, none⟩ (.int .i64 Q.l1)).setCell ⟨bb, 6, none⟩ (.int .i64 Q.l2)).setCell ⟨bb, 7, none⟩ (.int .i64 Q.l3)) bb #[.int .i64 num, .int .i64 Q.rows, .int .i64 Q.cols, .int .i64 Q.front, .int .i64 Q.l0, .int .i64 Q.l1, .int .i64 Q.l2, .int .i64 Q.l3, .slice none 0 0, .int .i64 0] 134 := e6.set 7 _
 have e8 : Has (((((((((w5.setCell ⟨bb, 0, none⟩ (.int .i64 num)).setCell ⟨bb, 1, none⟩ (.int .i64 Q.rows)).setCell ⟨bb, 2, none⟩ (.int .i64 Q.cols)).setCell ⟨bb, 3, none⟩ (.int .i64 Q.front)).setCell ⟨bb, 4, none⟩ (.int .i64 Q.l0)).setCell ⟨bb, 5, none⟩ (.int .i64 Q.l1)).setCell ⟨bb, 6, none⟩ (.int .i64 Q.l2)).setCell ⟨bb, 7, none⟩ (.int .i64 Q.l3)).setCell ⟨bb, 8, none⟩ (.slice (some ⟨g, 0, none⟩) (emptySeats Q).length cap)) bb #[.int .i64 num, .int .i64 Q.rows, .int .i64 Q.cols, .int .i64 Q.front, .int .i64 Q.l0, .int .i64 Q.l1, .int .i64 Q.l2, .int .i64 Q.l3, .slice (some ⟨g, 0, none⟩) (emptySeats Q).length cap, .int .i64 0] 134 := e7.set 8 _
 have e9 : Has ((((((((((w5.setCell ⟨bb, 0, none⟩ (.int .i64 num)).setCell ⟨bb, 1, none⟩ (.int .i64 Q.rows)).setCell ⟨bb, 2, none⟩ (.int .i64 Q.cols)).setCell ⟨bb, 3, none⟩ (.int .i64 Q.front)).setCell ⟨bb, 4, none⟩ (.int .i64 Q.l0)).setCell ⟨bb, 5, none⟩ (.int .i64 Q.l1)).setCell ⟨bb, 6, none⟩ (.int .i64 Q.l2)).setCell ⟨bb, 7, none⟩ (.int .i64 Q.l3)).setCell ⟨bb, 8, none⟩ (.slice (some ⟨g, 0, none⟩) (emptySeats Q).length cap)).setCell ⟨bb, 9, none⟩ (.int .i64 ep)) bb #[.int .i64 num, .int .i64 Q.rows, .int .i64 Q.cols, .int .i64 Q.front, .int .i64 Q.l0, .int .i64 Q.l1, .int .i64 Q.l2, .int .i64 Q.l3, .slice (some ⟨g, 0, none⟩) (emptySeats Q).length cap, .int .i64 ep] 134 := e8.set 9 _
 exact ⟨e9, hr.mod m6 hgb, hwf, fun e => hgb e.symm, by have := hm.size; omega, (hm.trans h5).trans' m6 (fun i hi hl => by omega)⟩
structure FlW (w : World) (gf fo g0 cap0 : Nat) (p Q : Pla) (num ep : Int) (l : List Sea) : Prop where
 row : RowS w g0 cap0 l
 wf : Wf p l
 ne : gf ≠ g0
 cell : ∀ j, j < 10 → w.cell? ⟨gf, fo + j, none⟩ = (nV num p g0 l.length cap0 ep)[j]?
 froz : ∀ o, w.frozen? ⟨gf, o, none⟩ = false
 lt : gf < w.heap.size
 l0 : Q.l0 = p.l0
 l1 : Q.l1 = p.l1
 l2 : Q.l2 = p.l2
 l3 : Q.l3 = p.l3
theorem swapped_bad {w : World} {gf fo g0 cap0 : Nat} {p Q : Pla} {l : List Sea} {num ep : Int} (a0 a1 a2 a3 : Int) (h : FlW w gf fo g0 cap0 p Q num ep l) (hb : ¬ (Q.sized = true ∧ ¬ Q.rows * Q.cols < (nFull l : Int))) :
  Calls Tryz.prog 54 #[.pointer (some ⟨gf, fo, none⟩), .agg #[.int .i64 Q.rows, .int .i64 Q.cols, .int .i64 Q.front, .int .i64 a0, .int .i64 a1, .int .i64 a2, .int .i64 a3]] w fun e w' => e = .returned (.int .i64 4) ∧ Mod No w w' := by
 have HCG := hide fun W (hW : Mod No w W) => (show W.cell? ⟨gf, fo, none⟩ = some (.int .i64 num) ∧ W.cell? ⟨gf, fo + 1, none⟩ = some (.int .i64 p.rows) ∧ W.cell? ⟨gf, fo + 2, none⟩ = some (.int .i64 p.cols) ∧ W.cell? ⟨gf, fo + 3, none⟩ = some (.int .i64 p.front) ∧ W.cell? ⟨gf, fo + 4, none⟩ = some (.int .i64 Q.l0) ∧ W.cell? ⟨gf, fo + 5, none⟩ = some (.int .i64 Q.l1) ∧ W.cell? ⟨gf, fo + 6, none⟩ = some (.int .i64 Q.l2) ∧ W.cell? ⟨gf, fo + 7, none⟩ = some (.int .i64 Q.l3) ∧ W.cell? ⟨gf, fo + 8, none⟩ = some (.slice (some ⟨g0, 0, none⟩) l.length cap0) ∧ W.cell? ⟨gf, fo + 9, none⟩ = some (.int .i64 ep) ∧ (∀ o, W.frozen? ⟨gf, o, none⟩ = false) ∧ gf < W.heap.size from by
  have hgl := h.lt
  have k := fun j (hj : j < 10) v (hv : (nV num p g0 l.length cap0 ep)[j]? = some v) => cell_keep hW ((h.cell j hj).trans hv) (fun x => x)
  refine ⟨k 0 (by omega) _ rfl, k 1 (by omega) _ rfl, k 2 (by omega) _ rfl, k 3 (by omega) _ rfl, by rw [h.l0]; exact k 4 (by omega) _ rfl, by rw [h.l1]; exact k 5 (by omega) _ rfl, by rw [h.l2]; exact k 6 (by omega) _ rfl, by rw [h.l3]; exact k 7 (by omega) _ rfl, k 8 (by omega) _ rfl, k 9 (by omega) _ rfl, fun o => ?_, Nat.lt_of_lt_of_le hgl hW.size⟩
  have := h.froz o
  unfold World.frozen? at this ⊢
  rw [hW.block gf hgl (fun x => x)]
  exact this)
 have HSZ := hide fun W => (show Calls Tryz.prog 82 #[.agg #[.int .i64 Q.rows, .int .i64 Q.cols, .int .i64 Q.front, .int .i64 a0, .int .i64 a1, .int .i64 a2, .int .i64 a3]] W fun e w' => e = .returned (.bool Q.sized) ∧ Mod No W w' from rsized_any ⟨Q.rows, Q.cols, Q.front, a0, a1, a2, a3, 0⟩ W)
 have HFR := hide fun W (hW : Mod No w W) => free_any gf fo g0 cap0 l W (h.row.mod hW (fun x => x)) (by have := wf_len h.wf; omega) (cell_keep hW (h.cell 8 (by omega)) (fun x => x))
 have hl1 : l.length ≤ 120 := wf_len h.wf
 have hfl := nFree_le l
 have hff := nFull_free l
 have M0 := hide ((Mod.refl No w).alloc (.cells #[.int .i64 Q.rows, .int .i64 Q.cols, .int .i64 Q.front, .int .i64 a0, .int .i64 a1, .int .i64 a2, .int .i64 a3] 39))
 have B0 := hide (Has.new w #[.int .i64 Q.rows, .int .i64 Q.cols, .int .i64 Q.front, .int .i64 a0, .int .i64 a1, .int .i64 a2, .int .i64 a3] 39)
 cases hs : Q.sized with
 | false =>
  rw [hs] at HSZ
  clear h hb hs HFR
  go_enter Tryz.func54, Tryz.ntmps54
  go_wp2_with fail
  refine ((unhide HSZ) _).mono ?_
  rintro e w2 ⟨rfl, m2⟩
  have M2 := hide ((unhide M0).trans m2)
  clear m2 B0 M0
  obtain ⟨f0, f1, f2, f3, f4, f5, f6, f7, f8, f9, fz, fl⟩ := (unhide HCG) w2 (unhide M2)
  go_wp2_with fail
  go_quiet (fail)
  go_wp2
  go_ret
  exact ⟨rfl, (unhide M2).drewN _⟩
 | true =>
  have hlt : Q.rows * Q.cols < (nFull l : Int) := by
   by_cases hx : Q.rows * Q.cols < (nFull l : Int)
   ·exact hx
   ·exact absurd ⟨hs, hx⟩ hb
  have hsb := hs
  simp only [Pla.sized, decide_eq_true_eq] at hsb
  have m0 : 0 ≤ Q.rows * Q.cols := Int.mul_nonneg (by omega) (by omega)
  have e1 : wrap64 (Q.rows * Q.cols) = Q.rows * Q.cols := by unfold wrap64; omega
  have e2 : IntKind.i64.wrap ((l.length : Int) - (nFree l : Int)) = (l.length : Int) - (nFree l : Int) := wrap_id _ (by omega) (by omega)
  have hd : decide (Q.rows * Q.cols < (l.length : Int) - (nFree l : Int)) = true := by simp; omega
  rw [hs] at HSZ
  clear h hb hs hsb hlt hff m0
  generalize nFree l = fr at *
  go_enter Tryz.func54, Tryz.ntmps54
  go_wp2_with fail
  refine ((unhide HSZ) _).mono ?_
  rintro e w2 ⟨rfl, m2⟩
  have M2 := hide ((unhide M0).trans m2)
  have b2 := (m2.has (unhide B0) (fun x => x)).cell
  clear m2 B0 M0
  generalize w.heap.size = pb at *
  obtain ⟨f0, f1, f2, f3, f4, f5, f6, f7, f8, f9, fz, fl⟩ := (unhide HCG) w2 (unhide M2)
  have HFN := hide fun n => (unhide HFR) (w2.drewN n) ((unhide M2).drewN n)
  clear HFR
  go_wp2_with fail
  go_quiet ((go_at_call 58; exact Calls.quiet_of_same ((unhide HFN) _)))
  go_wp2
  go_ret
  exact ⟨rfl, (unhide M2).drewN _⟩
end Go.Proofs.YthhibagcpjeihaaGreat
