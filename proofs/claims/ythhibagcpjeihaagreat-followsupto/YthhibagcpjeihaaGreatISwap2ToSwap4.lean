import Derived.Test.YthhibagcpjeihaaGreatIRef16ToSwap1
import Derived.Test.YthhibagcpjeihaaGreatILook7ToRef7
import Derived.Test.YthhibagcpjeihaaGreatIBaseToMaps
import Derived.Deep.MidRow
import Derived.Test.YthhibagcpjeihaaGreatIPass2ToRef4
import Derived.Deep.DeepCutAuto
namespace Go.Proofs.YthhibagcpjeihaaGreat
open Go.RowKit Go.WideMaps
open Go.ChangeMaps (setBlock)
open M
set_option linter.unusedVariables false
set_option linter.unusedSimpArgs false
set_option maxRecDepth 100000
set_option maxHeartbeats 4000000
theorem run_lookup2 (w : World) (m : Nat) (l : List MEnt) (clock : Nat) (hm : w.heap[m]? = some (mapObj l clock)) (hl : MapOk l clock) (r c : Int) (hr : 0 ≤ r ∧ r ≤ 1000) (hc : 0 ≤ c ∧ c ≤ 1000) :
  (Instr.lookup 162 (.map (some m)) (kv r c) true).run Tryz.prog w = .ok (.tuple #[sv (lookE l r c).1 (lookE l r c).2.1 (lookE l r c).2.2.1 (lookE l r c).2.2.2, .bool (l.findIdx? (MEnt.is r c)).isSome]) w := by
 obtain ⟨lx, hx⟩ := key30 r c hr hc
 have h1 := fun em => law30.check w em hx
 have h2 := run_find w l clock hl r c hr hc
 unfold mapObj at hm
 have hg : (getObj m).run Tryz.prog w = .ok (.map (l.map MEnt.obj).toArray clock) w := by simp [getObj, Sem.run, hm]
 have hs : ∀ o, (setObj m o).run Tryz.prog w = .ok () (setBlock w m o) := fun o => by simp [setObj, Sem.run, hm, setBlock]
 rw [lookE, find?_idx]
 cases hf : l.findIdx? (MEnt.is r c) with
 | none =>
  rw [hf] at h2
  simp [Instr.lookup, run_underlying Tryz.underlying162, hg, h1, h2, zero171, sv]
 | some j =>
  have hj := (List.findIdx?_eq_some_iff_getElem.1 hf).1
  rw [hf] at h2
  simp [hj] at h2
  simp [Instr.lookup, run_underlying Tryz.underlying162, hg, h1, h2, zero171, hj]
def Sees2 (w : World) (m : Nat) (r c st pa cl un : Int) : Prop :=
 ∀ W, Mod No w W → (Instr.lookup 162 (.map (some m)) (.agg #[.int .i64 r, .int .i64 c]) true).run Tryz.prog W = .ok (.tuple #[.agg #[.int .i64 st, .int .i64 pa, .int .i64 cl, .int .i64 un], .bool (st != 0)]) W
theorem sees2 {w : World} {m clock : Nat} {p : Pla} {l : List Sea} {es : List MEnt} (hm : w.heap[m]? = some (mapObj es clock)) (hok : MapOk es clock) (hrel : MapRel es p l) (hwf : Wf p l) (i : Nat) (hi : i < l.length) :
  Sees2 w m l[i].row l[i].col l[i].st l[i].pa l[i].cl l[i].un := fun W hW => by
 have hplace := (hwf.place_has hi).1
 simp only [Pla.has, decide_eq_true_eq] at hplace
 obtain ⟨B1, B2, B3, B4, _⟩ := hwf.bounds
 simp only at B1 B2 B3 B4
 have := run_lookup2 W m es clock (hW.map hm (fun x => x)) hok l[i].row l[i].col (by omega) (by omega)
 rw [hrel.seat i hi, found_iff hrel hi] at this
 exact this
def seL (s : Sea) : List Value := [.int .i64 s.st, .int .i64 s.pa, .int .i64 s.cl, .int .i64 s.un]
theorem seL_len (s : Sea) : (seL s).length = 4 := rfl
theorem infoSe : (Tryz.prog.info? 199).map (fun i => (i.zero, i.size, i.bytes)) = some (some (.agg #[.int .i64 0, .int .i64 0, .int .i64 0, .int .i64 0]), 4, 32) := by kernel_rfl
structure SetI (w wr : World) (b m m' clock : Nat) (p Q : Pla) (l : List Sea) (es : List MEnt) (v : Value) (i : Nat) : Prop where
 fl : ∃ es' clock', FlX wr b Q (stay Q (l.take i)) m' es' clock'
 old : wr.heap[m]? = some (mapObj es clock)
 box : Has wr w.heap.size (fcells p (.map (some m)) l) 164
 row : wr.ownsRow 0 199 4 v (homeless Q (l.take i)).length ((homeless Q (l.take i)).flatMap seL)
 new : ∀ k, v.ownBlock = some k → w.heap.size < k
 mod : Mod (fun k => k = b ∨ k = m') w wr
theorem SetI.still {w wr w2 : World} {b m m' clock : Nat} {p Q : Pla} {l : List Sea} {es : List MEnt} {v : Value} {i : Nat} (h : SetI w wr b m m' clock p Q l es v i) (hm : Mod No wr w2) : SetI w w2 b m m' clock p Q l es v i := by
 obtain ⟨es', clock', hf⟩ := h.fl
 exact ⟨⟨es', clock', hm.has hf.has (fun x => x), hm.map hf.map (fun x => x), hf.ok, hf.rel⟩, hm.map h.old (fun x => x), hm.has h.box (fun x => x), hm.owns h.row (fun _ _ x => x), h.new, h.mod.trans (hm.mono (fun _ _ x => x.elim))⟩
theorem SetI.free {w wr : World} {b m m' clock : Nat} {p Q : Pla} {l : List Sea} {es : List MEnt} {v : Value} {i : Nat} (h : SetI w wr b m m' clock p Q l es v i) (hi : i < l.length) (h0 : l[i].st = 0) : SetI w wr b m m' clock p Q l es v (i + 1) := by
 have e1 : stay Q (l.take (i + 1)) = stay Q (l.take i) := by rw [stay_take Q l i hi]; unfold stayStep; rw [if_neg (by simp [h0])]
 have e2 : homeless Q (l.take (i + 1)) = homeless Q (l.take i) := by rw [homeless_take Q l i hi, if_neg (by simp [h0]), List.append_nil]
 exact ⟨by rw [e1]; exact h.fl, h.old, h.box, by rw [e2]; exact h.row, h.new, h.mod⟩
theorem settle_walk (b m m' clock clock0 : Nat) (p Q : Pla) (l : List Sea) (es es0 : List MEnt) (w : World) (h : FlX w b Q (emptySeats Q) m' es0 clock0) (hm : w.heap[m]? = some (mapObj es clock)) (hok : MapOk es clock) (hrel : MapRel es p l)
  (hwf : Wf p l) (h1 : Q.sized = true) (h2 : Q.limited = true) (hmm : m ≠ m') :
  Calls Tryz.prog 164 #[.pointer (some ⟨b, 0, none⟩), .agg (fcells p (.map (some m)) l)] w fun e w' =>
   ∃ v, e = .returned v ∧ SetI w w' b m m' clock p Q l es v l.length := by
 have hbm := h.has.map_ne hm
 have hlt := h.has.lt
 have hlm := (Array.getElem?_eq_some_iff.1 hm).1
 have hlm' := (Array.getElem?_eq_some_iff.1 h.map).1
 have hB := hwf.bounds
 simp only at hB
 have hlen := hwf.len
 simp only at hlen
 have hl120 : l.length ≤ 120 := Fli.wf.len_le hwf
 have hwz : IntKind.i64.wrap (p.rows * p.cols) = p.rows * p.cols := wrap_id _ (by omega) (by omega)
 have HS := hide fun W (hW : Has W w.heap.size (fcells p (.map (some m)) l) 164) => size_walk w.heap.size _ _ p.rows p.cols W hW rfl rfl hwz
 rw [← hlen] at HS
 obtain ⟨C, hC⟩ : ∃ C : Nat, p.cols = (C : Int) := ⟨p.cols.toNat, by omega⟩
 have HP := hide fun W (hW : Has W w.heap.size (fcells p (.map (some m)) l) 164) (i : Nat) (hi : i < l.length) => (show Calls Tryz.prog 113 #[.pointer (some ⟨w.heap.size, 0, none⟩), .int .i64 (i : Int)] W fun e w' => e = .returned (.agg #[.int .i64 l[i].row, .int .i64 l[i].col]) ∧ Mod No W w' from by
  have := placeAt_walk w.heap.size _ _ C i W hW (by rw [← hC]; rfl) (by omega) (by omega)
  have hp := hwf.place i hi
  simp only at hp
  rw [hp.1, hp.2, hC]
  exact this)
 have S0 : SetI w (w.alloc (.cells (fcells p (.map (some m)) l) 164)) b m m' clock p Q l es (.slice none 0 0) 0 := by
  have mA : Mod No w (w.alloc (.cells (fcells p (.map (some m)) l) 164)) := (Mod.refl _ w).alloc _
  refine ⟨⟨es0, clock0, mA.has h.has (fun x => x), mA.map h.map (fun x => x), h.ok, h.rel⟩, mA.map hm (fun x => x), Has.new w _ _, ?_, fun k hk => by simp [Value.ownBlock] at hk, mA.mono (fun _ _ x => x.elim)⟩
  simpa [homeless] using World.ownsRow_nil _ _ _ _
 have S0 := hide S0
 have HSEE := hide fun (wr : World) (v : Value) (i : Nat) (hS : SetI w wr b m m' clock p Q l es v i) (hi : i < l.length) => sees2 hS.old hok hrel hwf i hi
 have HHAS := hide fun (wr : World) (v : Value) (i : Nat) (hS : SetI w wr b m m' clock p Q l es v i) (r c : Int) (W : World) (hW : Mod No wr W) => (show Calls Tryz.prog 99 #[.pointer (some ⟨b, 0, none⟩), .agg #[.int .i64 r, .int .i64 c]] W fun e w' => e = .returned (.bool (Q.has r c)) ∧ Mod No W w' from by
  obtain ⟨es', clock', hf⟩ := hS.fl
  exact has_walk b r c Q.rows Q.cols _ W (hW.has hf.has (fun x => x)) rfl rfl)
 have HPUT := hide fun (wr : World) (v : Value) (i : Nat) (hS : SetI w wr b m m' clock p Q l es v i) (hi : i < l.length) (h0 : l[i].st ≠ 0) (hh : Q.has l[i].row l[i].col = true) => (show Calls Tryz.prog 118 #[.pointer (some ⟨b, 0, none⟩), .agg #[.int .i64 l[i].row, .int .i64 l[i].col], .agg #[.int .i64 l[i].st, .int .i64 l[i].pa, .int .i64 l[i].cl, .int .i64 l[i].un]] wr fun e w' => e = .returned (.tuple #[]) ∧ SetI w w' b m m' clock p Q l es v (i + 1) ∧ (homeless Q (l.take (i + 1))).length = (homeless Q (l.take i)).length from by
  obtain ⟨es', clock', hf⟩ := hS.fl
  have hst := stayed_take hwf h1 h2 i (by omega)
  obtain ⟨hj, f0, fr, fc⟩ := hst.free hwf hi hh
  refine (put_exact hf hst.wf _ hj l[i] (hwf.seat _ (List.getElem_mem hi)) fr.symm fc.symm).mono ?_
  rintro e w' ⟨rfl, hf', hm'⟩
  have e1 : stay Q (l.take (i + 1)) = (stay Q (l.take i)).set (Q.idx l[i].row l[i].col) l[i] := by rw [stay_take Q l i hi]; unfold stayStep; rw [if_pos ⟨h0, hh⟩]
  have e2 : homeless Q (l.take (i + 1)) = homeless Q (l.take i) := by rw [homeless_take Q l i hi, if_neg (by simp [hh]), List.append_nil]
  have hml := (Array.getElem?_eq_some_iff.1 hS.old).1
  refine ⟨rfl, ⟨⟨_, _, by rw [e1]; exact hf'⟩, hm'.map hS.old (by rintro (e | e); exact hbm e; exact hmm e), hm'.has hS.box (by rintro (e | e) <;> omega), ?_, hS.new, hS.mod.trans hm'⟩, by rw [e2]⟩
  rw [e2]
  exact hm'.owns hS.row (fun k hk => by have := hS.new k hk; rintro (e | e) <;> omega))
 have HAPP := hide fun (wr w3 : World) (v v' : Value) (i : Nat) (hS : SetI w wr b m m' clock p Q l es v i) (o : Obj) (hi : i < l.length) (h0 : l[i].st ≠ 0) (hh : ¬ Q.has l[i].row l[i].col = true)
   (ho : w3.ownsRow 0 199 4 v' ((homeless Q (l.take i)).length + 1) (((homeless Q (l.take i)).flatMap seL) ++ [.int .i64 l[i].st, .int .i64 l[i].pa, .int .i64 l[i].cl, .int .i64 l[i].un])) (hg : (wr.alloc o).grownBy w3 v.ownBlock) (hst : Stays (wr.alloc o) v v') =>
  (show SetI w w3 b m m' clock p Q l es v' (i + 1) ∧ (homeless Q (l.take (i + 1))).length = (homeless Q (l.take i)).length + 1 from by
   obtain ⟨es', clock', hf⟩ := hS.fl
   have e1 : stay Q (l.take (i + 1)) = stay Q (l.take i) := by rw [stay_take Q l i hi]; unfold stayStep; rw [if_neg (fun x => hh x.2)]
   have e2 : homeless Q (l.take (i + 1)) = homeless Q (l.take i) ++ [l[i]] := by rw [homeless_take Q l i hi, if_pos ⟨h0, hh⟩]
   have hm1 : Mod (fun k => w.heap.size < k) wr w3 := ((Mod.refl _ wr).alloc o).grown hg (fun k hk => .inl (hS.new k hk))
   refine ⟨⟨⟨es', clock', hm1.has (by rw [e1]; exact hf.has) (by omega), hm1.map hf.map (by omega), hf.ok, by rw [e1]; exact hf.rel⟩, hm1.map hS.old (by omega), hm1.has hS.box (by omega), ?_, fun k hk => ?_, hS.mod.trans' hm1 (fun i hi hl => by omega)⟩, by rw [e2]; simp⟩
   ·rw [e2, List.length_append, List.flatMap_append]
    simpa [seL] using ho
   ·rcases hst k hk with h1 | h1
    ·exact hS.new k h1
    ·have := hS.box.lt
     simp at h1
     omega)
 have HFREE := hide fun (wr : World) (v : Value) (i : Nat) (hS : SetI w wr b m m' clock p Q l es v i) (hi : i < l.length) (h0 : l[i].st = 0) => (show SetI w wr b m m' clock p Q l es v (i + 1) ∧ (homeless Q (l.take (i + 1))).length = (homeless Q (l.take i)).length from ⟨hS.free hi h0, by rw [homeless_take Q l i hi, if_neg (by simp [h0]), List.append_nil]⟩)
 clear h hm hok hrel hwf hB hC h1 h2 hwz hlen
 obtain ⟨iSe, q0, q1, q2, q3⟩ := info_parts infoSe
 unfold fcells fcf fcs at S0 HS HP ⊢
 go_enter Tryz.func164, Tryz.ntmps164
 go_wp2_with fail
 refine ((unhide HS) _ (unhide S0).box).mono ?_
 rintro e w1 ⟨rfl, m1⟩
 have S1 := hide ((unhide S0).still m1)
 clear S0 m1 HS
 go_wp2_with fail
 have HLEN := hide hl120
 go_loopw [5, 11] (fun s5 s11 wr => ∃ (i : Nat) (a : Option Addr) (cp : Nat), s11 = .int .i64 (i : Int) ∧ i ≤ l.length ∧ s5 = .slice a (homeless Q (l.take i)).length cp ∧ Hid (SetI w wr b m m' clock p Q l es (.slice a (homeless Q (l.take i)).length cp) i)) (fun _ s11 _ => l.length - (intOf s11).toNat)
 case atStart => exact ⟨0, none, 0, rfl, by omega, by simp [homeless], by simpa [homeless] using S1⟩
 case round =>
  obtain ⟨i, a, cp, rfl, hi, rfl, E1⟩ := hrel
  clear S1
  by_cases h1 : i < l.length
  ·have h1i : (i : Int) < (l.length : Int) := by omega
   have hw3 : IntKind.i64.wrap ((i : Int) + 1) = ((i + 1 : Nat) : Int) := by rw [wrap_id _ (by omega) (by omega)]; rfl
   have hPL := (unhide HP) _ (unhide E1).box i h1
   have hSE := (unhide HSEE) _ _ i (unhide E1) h1
   have hHA := (unhide HHAS) _ _ i (unhide E1)
   have hPU := fun W (hW : Mod No wr W) => (unhide HPUT) W _ i ((unhide E1).still hW) h1
   have hFR := (unhide HFREE)
   have hAP := fun W (hW : Mod No wr W) (w3 : World) v' o => (unhide HAPP) W w3 _ v' i ((unhide E1).still hW) o h1
   have hml : (homeless Q (l.take i)).length ≤ 120 := by
    have : (homeless Q (l.take i)).length ≤ (l.take i).length := List.length_filter_le _ _
    rw [List.length_take] at this
    omega
   have hFR := fun W (hW : Mod No wr W) => (unhide HFREE) W _ i ((unhide E1).still hW) h1
   generalize hs : l[i] = s at *
   obtain ⟨r, c, st, pa, cl, un⟩ := s
   simp only at hPL hSE hHA hPU hAP hFR
   have GP := hide hPL
   have GS := hide hSE
   have GH := hide (hHA r c)
   have GU := hide hPU
   have GA := hide hAP
   have GF := hide hFR
   have HI := hide hi
   have HH1 := hide h1
   clear hPL hSE hHA hPU hAP hFR hs h1 hi hl120
   have bl := (unhide E1).box.lt
   go_wp2_with fail
   refine (unhide GP).mono ?_
   rintro e w1 ⟨rfl, m1⟩
   have M1 := hide m1
   clear m1
   have mA := hide (((unhide M1).alloc (.cells #[.int .i64 r, .int .i64 c] 36)))
   have bx := ((unhide mA).has (unhide E1).box (fun x => x)).cell 7
   rw [show (fcells p (.map (some m)) l)[7]? = some (.map (some m)) from rfl] at bx
   have bl := ((unhide mA).has (unhide E1).box (fun x => x)).lt
   have hlk := (unhide GS) _ (unhide mA)
   have nA := Has.new w1 #[.int .i64 r, .int .i64 c] 36
   have NA := hide nA
   have cA := nA.cell
   clear nA
   have mB := hide (((unhide mA).alloc (.cells #[.int .i64 st, .int .i64 pa, .int .i64 cl, .int .i64 un] 199)))
   by_cases h0 : st = 0
   ·have HZ := hide h0
    subst h0
    go_wp2_with fail
    obtain ⟨e9, l9⟩ := (unhide GF) _ (unhide mB) (by trivial)
    exact ⟨⟨i + 1, a, cp, by trivial, by have := unhide HH1; omega, by rw [l9], by rw [l9]; exact e9⟩, by simp [intOf]; have := unhide HH1; omega⟩
   ·have HZ := hide h0
    have hnz : (st != 0) = true := by simp [h0]
    rw [hnz] at hlk
    clear h0
    by_cases hq : Q.has r c = true
    ·rw [hq] at GH
     have HQ := hide hq
     go_wp2_with fail
     refine ((unhide GH) _ (unhide mB)).mono ?_
     rintro e w2 ⟨rfl, m2⟩
     have cA2 := (m2.has ((unhide NA).alloc (.cells #[.int .i64 st, .int .i64 pa, .int .i64 cl, .int .i64 un] 199)) (fun x => x)).cell
     have nB := Has.new (w1.alloc (.cells #[.int .i64 r, .int .i64 c] 36)) #[.int .i64 st, .int .i64 pa, .int .i64 cl, .int .i64 un] 199
     rw [World.size_alloc] at nB
     have cB2 := (m2.has nB (fun x => x)).cell
     have M2 := hide ((unhide mB).trans m2)
     clear m2 nB cA
     go_wp2_with fail
     refine ((unhide GU) _ (unhide M2) (unhide HZ) (unhide HQ)).mono ?_
     rintro e w3 ⟨rfl, e9, l9⟩
     have E9 := hide e9
     have L9 := hide l9
     clear e9 l9 cA2 cB2
     go_wp2
     exact ⟨⟨i + 1, a, cp, by trivial, by have := unhide HH1; omega, by rw [unhide L9], by rw [unhide L9]; exact unhide E9⟩, by simp [intOf]; have := unhide HH1; omega⟩
    ·have HQ := hide hq
     have hq' : Q.has r c = false := by simpa using hq
     rw [hq'] at GH
     clear hq
     go_wp2_with fail
     refine ((unhide GH) _ (unhide mB)).mono ?_
     rintro e w2 ⟨rfl, m2⟩
     have nB := Has.new (w1.alloc (.cells #[.int .i64 r, .int .i64 c] 36)) #[.int .i64 st, .int .i64 pa, .int .i64 cl, .int .i64 un] 199
     rw [World.size_alloc] at nB
     have cB2 := (m2.has nB (fun x => x)).cell
     have M2 := hide ((unhide mB).trans m2)
     clear m2 nB cA
     have hlA := List.length_filter_le (fun s : Sea => s.st != 0 && !Q.has s.row s.col) (l.take i)
     have E2 := (unhide E1).still (unhide M2)
     have HO := hide (((Mod.refl No w2).alloc (.cells #[.int .i64 st, .int .i64 pa, .int .i64 cl, .int .i64 un] 199)).owns E2.row (fun _ _ x => x))
     have HRD := hide (show Reads (w2.alloc (.cells #[.int .i64 st, .int .i64 pa, .int .i64 cl, .int .i64 un] 199)) (.slice (some ⟨w2.heap.size, 0, none⟩) 1 1) 1 [.int .i64 st, .int .i64 pa, .int .i64 cl, .int .i64 un] from
      .inr ⟨⟨w2.heap.size, 0, none⟩, 1, rfl, fun j u hu => by
       rw [Addr.add_mid, Nat.zero_add, (Has.new w2 #[.int .i64 st, .int .i64 pa, .int .i64 cl, .int .i64 un] 199).cell, ← Array.getElem?_toList]
       exact hu⟩)
     have G2 := hide fun w3 v' => (unhide GA) _ (unhide M2) w3 v' (.cells #[.int .i64 st, .int .i64 pa, .int .i64 cl, .int .i64 un] 199) (unhide HZ) (unhide HQ)
     have hml : (homeless Q (l.take i)).length ≤ 120 := Nat.le_trans hlA (by rw [List.length_take]; have := unhide HLEN; omega)
     clear hlA E2
     go_wp2_with (first | (at_builtin; refine wpList_append_row rfl (.tmp 36) (.tmp 38) 254 rfl 199 iSe _ 4 32 Tryz.underlying254 q0 q1 q2 q3 rfl (by decide) (.slice a (homeless Q (l.take i)).length cp) (homeless Q (l.take i)).length _ (by simp [Act.eval]) (by exact unhide HO) (.slice (some ⟨w2.heap.size, 0, none⟩) 1 1) 1 [.int .i64 st, .int .i64 pa, .int .i64 cl, .int .i64 un] (by simp [Act.eval]) (by exact unhide HRD) rfl (by intro u hu; simp at hu; rcases hu with rfl | rfl | rfl | rfl <;> rfl) (by unfold maxLen; omega) (by omega) ?_; intro v' w3 ho3 hg3 hs3; obtain ⟨a3, c3, rfl⟩ := slice_of_owns ho3))
     obtain ⟨e9, l9⟩ := (unhide G2) _ _ ho3 hg3 hs3
     exact ⟨⟨i + 1, a3, c3, by trivial, by have := unhide HH1; omega, by rw [l9], by rw [l9]; exact e9⟩, by simp [intOf]; have := unhide HH1; omega⟩
  ·have hii : i = l.length := by omega
   subst hii
   have h1i : ¬ ((l.length : Nat) : Int) < (l.length : Int) := by omega
   go_wp2
   go_ret
   exact ⟨.slice a (homeless Q l).length cp, rfl, by simpa only [List.take_length] using unhide E1⟩
structure RowE (w : World) (g : Nat) (hs : List Sea) : Prop where
 cur : ∃ cs, Has w g cs 199 ∧ ∀ i (h : i < hs.length), cs[i * 4]? = some (.int .i64 hs[i].st) ∧ cs[i * 4 + 1]? = some (.int .i64 hs[i].pa) ∧ cs[i * 4 + 2]? = some (.int .i64 hs[i].cl) ∧ cs[i * 4 + 3]? = some (.int .i64 hs[i].un)
theorem flat_at4 (f : Sea → List Value) (hf : ∀ x, (f x).length = 4) : ∀ (l : List Sea) (i : Nat) (h : i < l.length) (j : Nat), j < 4 → (l.flatMap f)[i * 4 + j]? = (f l[i])[j]?
 | [], i, h, _, _ => absurd h (Nat.not_lt_zero _)
 | x :: l, 0, h, j, hj => by
  rw [List.flatMap_cons, Nat.zero_mul, Nat.zero_add, List.getElem?_append_left (by rw [hf]; exact hj)]
  rfl
 | x :: l, i + 1, h, j, hj => by
  rw [List.flatMap_cons, List.getElem?_append_right (by rw [hf, Nat.add_mul]; omega), hf]
  rw [show (i + 1) * 4 + j - 4 = i * 4 + j by rw [Nat.add_mul, Nat.one_mul]; omega]
  exact flat_at4 f hf l i (by simpa using h) j hj
theorem rowE_of {w : World} {v : Value} {hs : List Sea} (h : w.ownsRow 0 199 4 v hs.length (hs.flatMap seL)) (hpos : 0 < hs.length) : ∃ g cp, v = .slice (some ⟨g, 0, none⟩) hs.length cp ∧ RowE w g hs := by
 obtain ⟨h0, h1 | ⟨g, cap, cur, hv, hb, hg, hn, hm, hsz, ht⟩⟩ := h
 ·exact absurd h1.2 (by omega)
 ·refine ⟨g, cap, hv, cur, hg, fun i hi => ?_⟩
  have hk : ∀ j, j < 4 → cur[i * 4 + j]? = (seL hs[i])[j]? := fun j hj => by
   have := flat_at4 seL seL_len hs i hi j hj
   rw [← ht, List.getElem?_take, if_pos (by omega)] at this
   rw [← Array.getElem?_toList, this]
  exact ⟨hk 0 (by omega), hk 1 (by omega), hk 2 (by omega), hk 3 (by omega)⟩
theorem RowE.mod {w w' : World} {g : Nat} {hs : List Sea} {S : Nat → Prop} (h : RowE w g hs) (hm : Mod S w w') (hg : ¬ S g) : RowE w' g hs := by
 obtain ⟨cs, h1, h2⟩ := h.cur
 exact ⟨cs, hm.has h1 hg, h2⟩
structure ReI (w wr : World) (b m' : Nat) (Q : Pla) (acc0 : List Sea) (hs : List Sea) (n k : Nat) : Prop where
 fl : ∃ es' clock', FlX wr b Q ((hs.take n).foldl reseatStep acc0) m' es' clock'
 re : Reseat Q ((hs.take n).foldl reseatStep acc0) (hs.length - n)
 full : ∀ j (h : j < ((hs.take n).foldl reseatStep acc0).length), j < k → ((hs.take n).foldl reseatStep acc0)[j].st ≠ 0
 mod : Mod (fun k => k = b ∨ k = m') w wr
theorem ReI.still {w wr w2 : World} {b m' : Nat} {Q : Pla} {acc0 hs : List Sea} {n k : Nat} (h : ReI w wr b m' Q acc0 hs n k) (hm : Mod No wr w2) : ReI w w2 b m' Q acc0 hs n k := by
 obtain ⟨es', clock', hf⟩ := h.fl
 exact ⟨⟨es', clock', hm.has hf.has (fun x => x), hm.map hf.map (fun x => x), hf.ok, hf.rel⟩, h.re, h.full, h.mod.trans (hm.mono (fun _ _ x => x.elim))⟩
theorem firstFree_eq {acc : List Sea} {k : Nat} (hk : k < acc.length) (h0 : acc[k].st = 0) (hf : ∀ j (h : j < acc.length), j < k → acc[j].st ≠ 0) : firstFree acc = k := by
 unfold firstFree
 rw [List.findIdx_eq hk]
 refine ⟨by simp [h0], fun j hj => ?_⟩
 have := hf j (by omega) hj
 simpa using this
theorem reseatStep_at {acc : List Sea} {k : Nat} (hk : k < acc.length) (h0 : acc[k].st = 0) (hf : ∀ j (h : j < acc.length), j < k → acc[j].st ≠ 0) (s : Sea) : reseatStep acc s = acc.set k (Sea.at s acc[k]) := by
 unfold reseatStep
 rw [firstFree_eq hk h0 hf, List.getD_eq_getElem?_getD, List.getElem?_eq_getElem hk]
 rfl
theorem fold_take {acc0 hs : List Sea} {n : Nat} (hn : n < hs.length) : (hs.take (n + 1)).foldl reseatStep acc0 = reseatStep ((hs.take n).foldl reseatStep acc0) hs[n] := by
 rw [take_succ hs n hn, List.foldl_append]
 rfl
theorem ReI.put {w wr : World} {b m' : Nat} {Q : Pla} {acc0 hs : List Sea} {n k : Nat} (h : ReI w wr b m' Q acc0 hs n k) (hw : ∀ s ∈ hs, s.wf ∧ s.st ≠ 0) (hn : n < hs.length) (hk : k < ((hs.take n).foldl reseatStep acc0).length) (h0 : ((hs.take n).foldl reseatStep acc0)[k].st = 0) :
  Calls Tryz.prog 118 #[.pointer (some ⟨b, 0, none⟩), .agg #[.int .i64 ((hs.take n).foldl reseatStep acc0)[k].row, .int .i64 ((hs.take n).foldl reseatStep acc0)[k].col], .agg #[.int .i64 hs[n].st, .int .i64 hs[n].pa, .int .i64 hs[n].cl, .int .i64 hs[n].un]] wr fun e w' =>
   e = .returned (.tuple #[]) ∧ ReI w w' b m' Q acc0 hs (n + 1) k ∧ Mod (fun k => k = b ∨ k = m') wr w' := by
 obtain ⟨es', clock', hf⟩ := h.fl
 have hs' := hw _ (List.getElem_mem hn)
 have hff := firstFree_eq hk h0 h.full
 have hre : Reseat Q ((hs.take n).foldl reseatStep acc0) ((hs.length - (n + 1)) + 1) := by rw [show hs.length - (n + 1) + 1 = hs.length - n by omega]; exact h.re
 have hstep := Reseat.step hre hs'.1 hs'.2
 refine (put_exact hf h.re.wf k hk (Sea.at hs[n] ((hs.take n).foldl reseatStep acc0)[k]) (at_wf hs'.1) rfl rfl).mono ?_
 rintro e w' ⟨rfl, hf', hm'⟩
 have e1 : (hs.take (n + 1)).foldl reseatStep acc0 = ((hs.take n).foldl reseatStep acc0).set k (Sea.at hs[n] ((hs.take n).foldl reseatStep acc0)[k]) := by
  rw [fold_take hn]
  exact reseatStep_at hk h0 h.full _
 refine ⟨rfl, ⟨⟨_, _, by rw [e1]; exact hf'⟩, by rw [fold_take hn]; exact hstep, fun j hj hjk => ?_, h.mod.trans hm'⟩, hm'⟩
 simp only [e1] at hj ⊢
 rw [List.getElem_set_ne (by omega)]
 exact h.full j (by simpa using hj) hjk
theorem ReI.on {w wr : World} {b m' : Nat} {Q : Pla} {acc0 hs : List Sea} {n k : Nat} (h : ReI w wr b m' Q acc0 hs n k) (hk : k < ((hs.take n).foldl reseatStep acc0).length) (h0 : ((hs.take n).foldl reseatStep acc0)[k].st ≠ 0) : ReI w wr b m' Q acc0 hs n (k + 1) := by
 refine ⟨h.fl, h.re, fun j hj hjk => ?_, h.mod⟩
 by_cases e : j = k
 ·subst e; exact h0
 ·exact h.full j hj (by omega)
theorem ReI.lt {w wr : World} {b m' : Nat} {Q : Pla} {acc0 hs : List Sea} {n k : Nat} (h : ReI w wr b m' Q acc0 hs n k) (hn : n < hs.length) (hk : k ≤ ((hs.take n).foldl reseatStep acc0).length) : k < ((hs.take n).foldl reseatStep acc0).length := by
 have hre : Reseat Q ((hs.take n).foldl reseatStep acc0) ((hs.length - (n + 1)) + 1) := by rw [show hs.length - (n + 1) + 1 = hs.length - n by omega]; exact h.re
 have hl := firstFree_lt hre
 have h0 := firstFree_at hl
 rcases Nat.lt_or_ge (firstFree ((hs.take n).foldl reseatStep acc0)) k with h1 | h1
 ·exact absurd h0 (h.full _ hl h1)
 ·omega
theorem seesX {w : World} {b m clock : Nat} {p : Pla} {l : List Sea} {es : List MEnt} (h : FlX w b p l m es clock) (hwf : Wf p l) (i : Nat) (hi : i < l.length) (W : World) (hW : Mod No w W) :
  (Instr.lookup 162 (.map (some m)) (.agg #[.int .i64 l[i].row, .int .i64 l[i].col]) false).run Tryz.prog W = .ok (.agg #[.int .i64 l[i].st, .int .i64 l[i].pa, .int .i64 l[i].cl, .int .i64 l[i].un]) W := by
 have hplace := (hwf.place_has hi).1
 simp only [Pla.has, decide_eq_true_eq] at hplace
 obtain ⟨B1, B2, B3, B4, _⟩ := hwf.bounds
 simp only at B1 B2 B3 B4
 have := run_lookup W m es clock (hW.map h.map (fun x => x)) h.ok l[i].row l[i].col (by omega) (by omega)
 rw [h.rel.seat i hi] at this
 exact this
attribute [local go_sem] field171
def accN (acc0 hs : List Sea) (n : Nat) : List Sea := (hs.take n).foldl reseatStep acc0
theorem reseat_walk (b m' g cp : Nat) (Q : Pla) (acc0 hs : List Sea) (a : Option Addr) (w : World) (h0 : ReI w w b m' Q acc0 hs 0 0) (hw : ∀ s ∈ hs, s.wf ∧ s.st ≠ 0) (hrow : 0 < hs.length → a = some ⟨g, 0, none⟩ ∧ RowE w g hs ∧ g ≠ b ∧ g ≠ m')
  (hl : hs.length ≤ 120) :
  Calls Tryz.prog 163 #[.pointer (some ⟨b, 0, none⟩), .slice a hs.length cp] w fun e w' => e = .returned (.tuple #[]) ∧ ∃ k, ReI w w' b m' Q acc0 hs hs.length k := by
 have HW := hide hw
 have HROW := hide hrow
 have H0 := hide h0
 have hbl : b < w.heap.size ∧ m' < w.heap.size := by
  obtain ⟨es', clock', hf⟩ := h0.fl
  exact ⟨hf.has.lt, (Array.getElem?_eq_some_iff.1 hf.map).1⟩
 obtain ⟨hlt, hlm⟩ := hbl
 have HLEN := hide fun (wr : World) (n k : Nat) (hR : ReI w wr b m' Q acc0 hs n k) => (show (accN acc0 hs n).length ≤ 120 from Fli.wf.len_le hR.re.wf)
 have HLOOK := hide fun (wr : World) (n k : Nat) (hR : ReI w wr b m' Q acc0 hs n k) (hk : k < (accN acc0 hs n).length) =>
  (show ∃ r c st pa cl un : Int, (∀ W, Mod No wr W → Calls Tryz.prog 113 #[.pointer (some ⟨b, 0, none⟩), .int .i64 (k : Int)] W fun e w' => e = .returned (.agg #[.int .i64 r, .int .i64 c]) ∧ Mod No W w') ∧
   (∀ W, Mod No wr W → (Instr.lookup 162 (.map (some m')) (.agg #[.int .i64 r, .int .i64 c]) false).run Tryz.prog W = .ok (.agg #[.int .i64 st, .int .i64 pa, .int .i64 cl, .int .i64 un]) W) ∧
   (∀ W, Mod No wr W → W.cell? ⟨b, 7, none⟩ = some (.map (some m'))) ∧
   (st ≠ 0 → ReI w wr b m' Q acc0 hs n (k + 1)) ∧
   (st = 0 → ∀ (hn : n < hs.length) W, Mod No wr W → Calls Tryz.prog 118 #[.pointer (some ⟨b, 0, none⟩), .agg #[.int .i64 r, .int .i64 c], .agg #[.int .i64 hs[n].st, .int .i64 hs[n].pa, .int .i64 hs[n].cl, .int .i64 hs[n].un]] W fun e w' =>
    e = .returned (.tuple #[]) ∧ ReI w w' b m' Q acc0 hs (n + 1) k ∧ Mod (fun k => k = b ∨ k = m') W w') from by
  obtain ⟨es', clock', hf⟩ := hR.fl
  have hwf := hR.re.wf
  have hB := hwf.bounds
  simp only at hB
  obtain ⟨C, hC⟩ : ∃ C : Nat, Q.cols = (C : Int) := ⟨Q.cols.toNat, by omega⟩
  have hl120 := Fli.wf.len_le hwf
  simp only at hl120
  have hk' : k < ((hs.take n).foldl reseatStep acc0).length := hk
  refine ⟨((hs.take n).foldl reseatStep acc0)[k].row, ((hs.take n).foldl reseatStep acc0)[k].col, ((hs.take n).foldl reseatStep acc0)[k].st, ((hs.take n).foldl reseatStep acc0)[k].pa, ((hs.take n).foldl reseatStep acc0)[k].cl, ((hs.take n).foldl reseatStep acc0)[k].un, fun W hW => ?_, fun W hW => seesX hf hwf k hk' W hW, fun W hW => ?_, fun h => hR.on hk' h, fun h hn W hW => (hR.still hW).put hw hn hk' h⟩
  ·have := placeAt_walk b _ _ C k W (hW.has hf.has (fun x => x)) (by rw [← hC]; rfl) (by omega) (by omega)
   have hp := hwf.place k hk'
   simp only at hp
   rw [hp.1, hp.2, hC]
   exact this
  ·rw [(hW.has hf.has (fun x => x)).cell]; rfl)
 have HLT := hide fun (wr : World) (n k : Nat) (hR : ReI w wr b m' Q acc0 hs n k) (hn : n < hs.length) (hk : k ≤ (accN acc0 hs n).length) => (show k < (accN acc0 hs n).length from hR.lt hn hk)
 have HNEXT := hide fun (n : Nat) (hn : n < hs.length) => (show (accN acc0 hs (n + 1)).length = (accN acc0 hs n).length from by
  unfold accN; rw [fold_take hn]; unfold reseatStep; rw [List.length_set])
 clear h0 hw hrow
 go_enter Tryz.func163, Tryz.ntmps163
 go_wp2_with fail
 go_loopw [4, 9] (fun s4 s9 wr => ∃ n k : Nat, s9 = .int .i64 (n : Int) ∧ n ≤ hs.length ∧ s4 = .int .i64 (k : Int) ∧ k ≤ (accN acc0 hs n).length ∧ Hid (ReI w wr b m' Q acc0 hs n k)) (fun _ s9 _ => hs.length - (intOf s9).toNat)
 case atStart => exact ⟨0, 0, rfl, by omega, rfl, by omega, H0⟩
 case round =>
  obtain ⟨n, k, rfl, hn, rfl, hk, R1⟩ := hrel
  by_cases h1 : n < hs.length
  ·have h1i : (n : Int) < (hs.length : Int) := by omega
   have hw3 : IntKind.i64.wrap ((n : Int) + 1) = ((n + 1 : Nat) : Int) := by rw [wrap_id _ (by omega) (by omega)]; rfl
   obtain ⟨rfl, hrw, hgb, hgm⟩ := (unhide HROW) (by omega)
   have hrw2 := hrw.mod (unhide R1).mod (by rintro (e | e); exact hgb e; exact hgm e)
   obtain ⟨cs, hg, hcs⟩ := hrw2.cur
   obtain ⟨c0, c1, c2, c3⟩ := hcs n h1
   have hgl := hg.lt
   rw [← hg.cell] at c0 c1 c2 c3
   have HG := hide hg
   obtain ⟨sn, hsn⟩ : ∃ s, hs[n] = s := ⟨_, rfl⟩
   rw [hsn] at c0 c1 c2 c3
   obtain ⟨sr, sc, st0, pa0, cl0, un0⟩ := sn
   simp only at c0 c1 c2 c3
   have LK := hide fun (wr : World) (k : Nat) (hR : ReI w wr b m' Q acc0 hs n k) (hk : k < (accN acc0 hs n).length) =>
    (show ∃ r c st pa cl un : Int, (∀ W, Mod No wr W → Calls Tryz.prog 113 #[.pointer (some ⟨b, 0, none⟩), .int .i64 (k : Int)] W fun e w' => e = .returned (.agg #[.int .i64 r, .int .i64 c]) ∧ Mod No W w') ∧
     (∀ W, Mod No wr W → (Instr.lookup 162 (.map (some m')) (.agg #[.int .i64 r, .int .i64 c]) false).run Tryz.prog W = .ok (.agg #[.int .i64 st, .int .i64 pa, .int .i64 cl, .int .i64 un]) W) ∧
     (∀ W, Mod No wr W → W.cell? ⟨b, 7, none⟩ = some (.map (some m'))) ∧
     (st ≠ 0 → ReI w wr b m' Q acc0 hs n (k + 1)) ∧
     (st = 0 → ∀ W, Mod No wr W → Calls Tryz.prog 118 #[.pointer (some ⟨b, 0, none⟩), .agg #[.int .i64 r, .int .i64 c], .agg #[.int .i64 st0, .int .i64 pa0, .int .i64 cl0, .int .i64 un0]] W fun e w' =>
      e = .returned (.tuple #[]) ∧ ReI w w' b m' Q acc0 hs (n + 1) k ∧ Mod (fun k => k = b ∨ k = m') W w') from by
    obtain ⟨r, c, st, pa, cl, un, q1, q2, q3, q4, q5⟩ := (unhide HLOOK) wr n k hR hk
    refine ⟨r, c, st, pa, cl, un, q1, q2, q3, q4, fun h W hW => ?_⟩
    have := q5 h h1 W hW
    rw [hsn] at this
    exact this)
   have LT := hide fun (wr : World) (k : Nat) (hR : ReI w wr b m' Q acc0 hs n k) (hk : k ≤ (accN acc0 hs n).length) => (unhide HLT) wr n k hR h1 hk
   have LN := hide ((unhide HNEXT) n h1)
   have LL := hide ((unhide HLEN) _ _ _ (unhide R1))
   have HH1 := hide h1
   have HG := hide hg
   have HN := hide hn
   have HGB := hide (And.intro hgb hgm)
   clear hrw hrw2 hcs hg hgb hgm hsn HLOOK HLT HNEXT HLEN hn
   clear h1
   go_wp2_with fail
   have R2 := hide ((unhide R1).still ((Mod.refl No wr).alloc (.cells #[.int .i64 st0, .int .i64 pa0, .int .i64 cl0, .int .i64 un0] 199)))
   have B2 := hide (Has.new wr #[.int .i64 st0, .int .i64 pa0, .int .i64 cl0, .int .i64 un0] 199)
   have hbw : b ≠ wr.heap.size ∧ m' ≠ wr.heap.size := by have := (unhide R1).mod.size; omega
   have HBW := hide hbw
   clear hbw c0 c1 c2 c3
   generalize hwx0 : wr.alloc (.cells #[.int .i64 st0, .int .i64 pa0, .int .i64 cl0, .int .i64 un0] 199) = wx0 at *
   clear hwx0
   generalize hgb : wr.heap.size = sb at *
   clear hgb
   go_loopw [4] (fun s4 wx => ∃ k : Nat, s4 = .int .i64 (k : Int) ∧ k ≤ (accN acc0 hs n).length ∧ Hid (ReI w wx b m' Q acc0 hs n k) ∧ Hid (Has wx sb #[.int .i64 st0, .int .i64 pa0, .int .i64 cl0, .int .i64 un0] 199)) (fun s4 _ => (accN acc0 hs n).length - (intOf s4).toNat)
   case atStart => exact ⟨k, rfl, hk, R2, B2⟩
   case round =>
    obtain ⟨k, rfl, hk, R3, B3⟩ := hrel
    have hk2 := (unhide LT) _ k (unhide R3) hk
    obtain ⟨r, c, st, pa, cl, un, q1, q2, q3, q4, q5⟩ := (unhide LK) _ k (unhide R3) hk2
    have Q1 := hide q1
    have Q5 := hide q5
    have Q4 := hide q4
    have hL : ∀ x : Wd wr, (Instr.lookup 162 (.map (some m')) (.agg #[.int .i64 r, .int .i64 c]) false).run Tryz.prog x.W = .ok (.agg #[.int .i64 st, .int .i64 pa, .int .i64 cl, .int .i64 un]) x.W := fun x => q2 _ x.h
    have h7 : ∀ x : Wd wr, x.W.cell? ⟨b, 7, none⟩ = some (.map (some m')) := fun x => q3 _ x.h
    have hne := wd_ne wr
    have HK2 := hide hk2
    have LL2 := unhide LL
    clear q1 q2 q3 q4 q5 hk2
    by_cases h0 : st = 0
    ·have HZ := hide h0
     subst h0
     go_wp2_with fail
     refine wp_region_wd (w0 := wr) (by kernel_rfl) (by kernel_rfl) (Mod.refl _ _) ?_
     repeat (go_big_quiet_step ((go_at_call 113; exact Calls.wd _ ((unhide Q1) _ (Wd.h _)))))
     refine wpQuiet_nil ?_
     rintro w3 ⟨⟨_, hm3⟩, rfl⟩
     have R4 := hide ((unhide R3).still hm3)
     have B4 := hide (hm3.has (unhide B3) (fun x => x))
     have M3 := hide hm3
     clear hm3 hL h7 hne R2 B2
     go_wp2_with fail
     have b4 := (unhide B4).cell
     have l4 := (unhide B4).lt
     have GP := hide fun W (hW : Mod No w3 W) => (unhide Q1) W ((unhide M3).trans hW)
     have GU := hide fun W (hW : Mod No w3 W) => (unhide Q5) (by trivial) W ((unhide M3).trans hW)
     have M0 := hide (Mod.refl No w3)
     go_region_with (first
       |(go_at_call 113; refine ((unhide GP) _ (unhide M0).drew).mono ?_; rintro e w5 ⟨rfl, hm5⟩; have b5 := (hm5.has (unhide B4).drew (fun x => x)).cell; have l5 := (hm5.has (unhide B4).drew (fun x => x)).lt)
       |(go_at_call 118; refine ((unhide GU) _ ((unhide M0).drew.trans hm5)).mono ?_; rintro e w6 ⟨rfl, hr6, hm6⟩))
     all_goals go_wp2
     all_goals exact ⟨⟨n + 1, k, by trivial, by have := unhide HH1; omega, by trivial, by rw [unhide LN]; exact hk, hr6⟩, by simp [intOf]; have := unhide HH1; omega⟩
    ·have HZ := hide h0
     have hnz : (st != 0) = true := by simp [h0]
     have hw4 : IntKind.i64.wrap ((k : Int) + 1) = ((k + 1 : Nat) : Int) := by rw [wrap_id _ (by omega) (by omega)]; rfl
     clear h0
     go_wp2_with fail
     refine wp_region_wd (w0 := wr) (by kernel_rfl) (by kernel_rfl) (Mod.refl _ _) ?_
     repeat (go_big_quiet_step ((go_at_call 113; exact Calls.wd _ ((unhide Q1) _ (Wd.h _)))))
     refine wpQuiet_nil ?_
     rintro w3 ⟨⟨_, hm3⟩, rfl⟩
     have R4 := hide (((unhide Q4) (unhide HZ)).still hm3)
     have B4 := hide (hm3.has (unhide B3) (fun x => x))
     clear hm3 hL h7 hne R2 B2 R3 B3
     go_wp2
     exact ⟨⟨k + 1, rfl, by have := unhide HK2; omega, R4, B4⟩, by simp [intOf]; have := unhide HK2; omega⟩
  ·have hii : n = hs.length := by omega
   subst hii
   have h1i : ¬ ((hs.length : Nat) : Int) < (hs.length : Int) := by omega
   go_wp2
   go_end0
   exact ⟨rfl, k, unhide R1⟩
end Go.Proofs.YthhibagcpjeihaaGreat
