import Derived.Test.YthhibagcpjeihaaLChangeToSwap1
import Derived.Test.YthhibagcpjeihaaLLook3ToSwap0
import Derived.Test.YthhibagcpjeihaaLBaseToAppend
import Derived.Deep.MidRow
import Derived.Test.YthhibagcpjeihaaLRd3ToSeat
import Derived.Handy
import Derived.Deep.RegionLawGrows
import Derived.Test.YthhibagcpjeihaaLTape3ToWr1
namespace Go.Proofs.Ythhibagcpjeihaa
open Go.RowKit Go.WideMaps
open Go.ChangeMaps (setBlock)
open M
set_option linter.unusedVariables false
set_option linter.unusedSimpArgs false
set_option maxRecDepth 100000
set_option maxHeartbeats 4000000
theorem run_lookup2 (w : World) (m : Nat) (l : List MEnt) (clock : Nat) (hm : w.heap[m]? = some (mapObj l clock)) (hl : MapOk l clock) (r c : Int) (hr : 0 ≤ r ∧ r ≤ 1000) (hc : 0 ≤ c ∧ c ≤ 1000) :
  (Instr.lookup 136 (.map (some m)) (kv r c) true).run Try.prog w = .ok (.tuple #[sv (lookE l r c).1 (lookE l r c).2.1 (lookE l r c).2.2.1 (lookE l r c).2.2.2, .bool (l.findIdx? (MEnt.is r c)).isSome]) w := by
 obtain ⟨lx, hx⟩ := key30 r c hr hc
 have h1 := fun em => law30.check w em hx
 have h2 := run_find w l clock hl r c hr hc
 unfold mapObj at hm
 have hg : (getObj m).run Try.prog w = .ok (.map (l.map MEnt.obj).toArray clock) w := by simp [getObj, Sem.run, hm]
 have hs : ∀ o, (setObj m o).run Try.prog w = .ok () (setBlock w m o) := fun o => by simp [setObj, Sem.run, hm, setBlock]
 rw [lookE, find?_idx]
 cases hf : l.findIdx? (MEnt.is r c) with
 | none =>
  rw [hf] at h2
  simp [Instr.lookup, run_underlying Try.underlying136, hg, h1, h2, zero171, sv]
 | some j =>
  have hj := (List.findIdx?_eq_some_iff_getElem.1 hf).1
  rw [hf] at h2
  simp [hj] at h2
  simp [Instr.lookup, run_underlying Try.underlying136, hg, h1, h2, zero171, hj]
def Sees2 (w : World) (m : Nat) (r c st pa cl un : Int) : Prop :=
 ∀ W, Mod No w W → (Instr.lookup 136 (.map (some m)) (.agg #[.int .i64 r, .int .i64 c]) true).run Try.prog W = .ok (.tuple #[.agg #[.int .i64 st, .int .i64 pa, .int .i64 cl, .int .i64 un], .bool (st != 0)]) W
theorem sees2 {w : World} {m clock : Nat} {p : Pla} {l : List Sea} {es : List MEnt} (hm : w.heap[m]? = some (mapObj es clock)) (hok : MapOk es clock) (hrel : MapRel es p l) (hwf : Wf p l) (i : Nat) (hi : i < l.length) :
  Sees2 w m l[i].row l[i].col l[i].st l[i].pa l[i].cl l[i].un := fun W hW => by
 have hplace := (hwf.place_has hi).1
 simp only [Pla.has, decide_eq_true_eq] at hplace
 obtain ⟨B1, B2, B3, B4, _⟩ := hwf.bounds
 simp only at B1 B2 B3 B4
 have := run_lookup2 W m es clock (hW.map hm (fun x => x)) hok l[i].row l[i].col (by omega) (by omega)
 rw [hrel.seat i hi, found_iff hrel hi] at this
 exact this
def seL (s : Sea) : List Value := [.int .i64 s.st, .int .i64 s.pa, .int .i64 s.cl, .int .i64 s.un]
theorem seL_len (s : Sea) : (seL s).length = 4 := rfl
theorem infoSe : (Try.prog.info? 170).map (fun i => (i.zero, i.size, i.bytes)) = some (some (.agg #[.int .i64 0, .int .i64 0, .int .i64 0, .int .i64 0]), 4, 32) := by kernel_rfl
structure SetI (w wr : World) (b m m' clock : Nat) (p Q : Pla) (l : List Sea) (es : List MEnt) (v : Value) (i : Nat) : Prop where
 fl : ∃ es' clock', FlX wr b Q (stay Q (l.take i)) m' es' clock'
 old : wr.heap[m]? = some (mapObj es clock)
 box : Has wr w.heap.size (fcells p (.map (some m)) l) 138
 row : wr.ownsRow 0 170 4 v (homeless Q (l.take i)).length ((homeless Q (l.take i)).flatMap seL)
 new : ∀ k, v.ownBlock = some k → w.heap.size < k
 mod : Mod (fun k => k = b ∨ k = m') w wr
theorem SetI.still {w wr w2 : World} {b m m' clock : Nat} {p Q : Pla} {l : List Sea} {es : List MEnt} {v : Value} {i : Nat} (h : SetI w wr b m m' clock p Q l es v i) (hm : Mod No wr w2) : SetI w w2 b m m' clock p Q l es v i := by
 obtain ⟨es', clock', hf⟩ := h.fl
 exact ⟨⟨es', clock', hm.has hf.has (fun x => x), hm.map hf.map (fun x => x), hf.ok, hf.rel⟩, hm.map h.old (fun x => x), hm.has h.box (fun x => x), hm.owns h.row (fun _ _ x => x), h.new, h.mod.trans (hm.mono (fun _ _ x => x.elim))⟩
theorem SetI.free {w wr : World} {b m m' clock : Nat} {p Q : Pla} {l : List Sea} {es : List MEnt} {v : Value} {i : Nat} (h : SetI w wr b m m' clock p Q l es v i) (hi : i < l.length) (h0 : l[i].st = 0) : SetI w wr b m m' clock p Q l es v (i + 1) := by
 have e1 : stay Q (l.take (i + 1)) = stay Q (l.take i) := by rw [stay_take Q l i hi]; unfold stayStep; rw [if_neg (by simp [h0])]
 have e2 : homeless Q (l.take (i + 1)) = homeless Q (l.take i) := by rw [homeless_take Q l i hi, if_neg (by simp [h0]), List.append_nil]
 exact ⟨by rw [e1]; exact h.fl, h.old, h.box, by rw [e2]; exact h.row, h.new, h.mod⟩
theorem settle_walk (b m m' clock clock0 : Nat) (p Q : Pla) (l : List Sea) (es es0 : List MEnt) (w : World) (h : FlX w b Q (emptySeats Q) m' es0 clock0) (hm : w.heap[m]? = some (mapObj es clock)) (hok : MapOk es clock) (hrel : MapRel es p l)
  (hwf : Wf p l) (h1 : Q.sized = true) (h2 : Q.limited = true) (hmm : m ≠ m') :
  Calls Try.prog 136 #[.pointer (some ⟨b, 0, none⟩), .agg (fcells p (.map (some m)) l)] w fun e w' =>
   ∃ v, e = .returned v ∧ SetI w w' b m m' clock p Q l es v l.length := by
 have hbm := h.has.map_ne hm
 have hlt := h.has.lt
 have hlm := (Array.getElem?_eq_some_iff.1 hm).1
 have hlm' := (Array.getElem?_eq_some_iff.1 h.map).1
 have hB := hwf.bounds
 simp only at hB
 have hlen := hwf.len
 simp only at hlen
 have hl120 : l.length ≤ 120 := Fli.wf.len_le hwf
 have hwz : IntKind.i64.wrap (p.rows * p.cols) = p.rows * p.cols := wrap_id _ (by omega) (by omega)
 have HS := hide fun W (hW : Has W w.heap.size (fcells p (.map (some m)) l) 138) => size_walk w.heap.size _ _ p.rows p.cols W hW rfl rfl hwz
 rw [← hlen] at HS
 obtain ⟨C, hC⟩ : ∃ C : Nat, p.cols = (C : Int) := ⟨p.cols.toNat, by omega⟩
 have HP := hide fun W (hW : Has W w.heap.size (fcells p (.map (some m)) l) 138) (i : Nat) (hi : i < l.length) => (show Calls Try.prog 68 #[.pointer (some ⟨w.heap.size, 0, none⟩), .int .i64 (i : Int)] W fun e w' => e = .returned (.agg #[.int .i64 l[i].row, .int .i64 l[i].col]) ∧ Mod No W w' from by
  have := placeAt_walk w.heap.size _ _ C i W hW (by rw [← hC]; rfl) (by omega) (by omega)
  have hp := hwf.place i hi
  simp only at hp
  rw [hp.1, hp.2, hC]
  exact this)
 have S0 : SetI w (w.alloc (.cells (fcells p (.map (some m)) l) 138)) b m m' clock p Q l es (.slice none 0 0) 0 := by
  have mA : Mod No w (w.alloc (.cells (fcells p (.map (some m)) l) 138)) := (Mod.refl _ w).alloc _
  refine ⟨⟨es0, clock0, mA.has h.has (fun x => x), mA.map h.map (fun x => x), h.ok, h.rel⟩, mA.map hm (fun x => x), Has.new w _ _, ?_, fun k hk => by simp [Value.ownBlock] at hk, mA.mono (fun _ _ x => x.elim)⟩
  simpa [homeless] using World.ownsRow_nil _ _ _ _
 have S0 := hide S0
 have HSEE := hide fun (wr : World) (v : Value) (i : Nat) (hS : SetI w wr b m m' clock p Q l es v i) (hi : i < l.length) => sees2 hS.old hok hrel hwf i hi
 have HHAS := hide fun (wr : World) (v : Value) (i : Nat) (hS : SetI w wr b m m' clock p Q l es v i) (r c : Int) (W : World) (hW : Mod No wr W) => (show Calls Try.prog 77 #[.pointer (some ⟨b, 0, none⟩), .agg #[.int .i64 r, .int .i64 c]] W fun e w' => e = .returned (.bool (Q.has r c)) ∧ Mod No W w' from by
  obtain ⟨es', clock', hf⟩ := hS.fl
  exact has_walk b r c Q.rows Q.cols _ W (hW.has hf.has (fun x => x)) rfl rfl)
 have HPUT := hide fun (wr : World) (v : Value) (i : Nat) (hS : SetI w wr b m m' clock p Q l es v i) (hi : i < l.length) (h0 : l[i].st ≠ 0) (hh : Q.has l[i].row l[i].col = true) => (show Calls Try.prog 102 #[.pointer (some ⟨b, 0, none⟩), .agg #[.int .i64 l[i].row, .int .i64 l[i].col], .agg #[.int .i64 l[i].st, .int .i64 l[i].pa, .int .i64 l[i].cl, .int .i64 l[i].un]] wr fun e w' => e = .returned (.tuple #[]) ∧ SetI w w' b m m' clock p Q l es v (i + 1) ∧ (homeless Q (l.take (i + 1))).length = (homeless Q (l.take i)).length from by
  obtain ⟨es', clock', hf⟩ := hS.fl
  have hst := stayed_take hwf h1 h2 i (by omega)
  obtain ⟨hj, f0, fr, fc⟩ := hst.free hwf hi hh
  refine (put_exact hf hst.wf _ hj l[i] (hwf.seat _ (List.getElem_mem hi)) fr.symm fc.symm).mono ?_
  rintro e w' ⟨rfl, hf', hm'⟩
  have e1 : stay Q (l.take (i + 1)) = (stay Q (l.take i)).set (Q.idx l[i].row l[i].col) l[i] := by rw [stay_take Q l i hi]; unfold stayStep; rw [if_pos ⟨h0, hh⟩]
  have e2 : homeless Q (l.take (i + 1)) = homeless Q (l.take i) := by rw [homeless_take Q l i hi, if_neg (by simp [hh]), List.append_nil]
  have hml := (Array.getElem?_eq_some_iff.1 hS.old).1
  refine ⟨rfl, ⟨⟨_, _, by rw [e1]; exact hf'⟩, hm'.map hS.old (by rintro (e | e); exact hbm e; exact hmm e), hm'.has hS.box (by rintro (e | e) <;> omega), ?_, hS.new, hS.mod.trans hm'⟩, by rw [e2]⟩
  rw [e2]
  exact hm'.owns hS.row (fun k hk => by have := hS.new k hk; rintro (e | e) <;> omega))
 have HAPP := hide fun (wr w3 : World) (v v' : Value) (i : Nat) (hS : SetI w wr b m m' clock p Q l es v i) (o : Obj) (hi : i < l.length) (h0 : l[i].st ≠ 0) (hh : ¬ Q.has l[i].row l[i].col = true)
   (ho : w3.ownsRow 0 170 4 v' ((homeless Q (l.take i)).length + 1) (((homeless Q (l.take i)).flatMap seL) ++ [.int .i64 l[i].st, .int .i64 l[i].pa, .int .i64 l[i].cl, .int .i64 l[i].un])) (hg : (wr.alloc o).grownBy w3 v.ownBlock) (hst : Stays (wr.alloc o) v v') =>
  (show SetI w w3 b m m' clock p Q l es v' (i + 1) ∧ (homeless Q (l.take (i + 1))).length = (homeless Q (l.take i)).length + 1 from by
   obtain ⟨es', clock', hf⟩ := hS.fl
   have e1 : stay Q (l.take (i + 1)) = stay Q (l.take i) := by rw [stay_take Q l i hi]; unfold stayStep; rw [if_neg (fun x => hh x.2)]
   have e2 : homeless Q (l.take (i + 1)) = homeless Q (l.take i) ++ [l[i]] := by rw [homeless_take Q l i hi, if_pos ⟨h0, hh⟩]
   have hm1 : Mod (fun k => w.heap.size < k) wr w3 := ((Mod.refl _ wr).alloc o).grown hg (fun k hk => .inl (hS.new k hk))
   refine ⟨⟨⟨es', clock', hm1.has (by rw [e1]; exact hf.has) (by omega), hm1.map hf.map (by omega), hf.ok, by rw [e1]; exact hf.rel⟩, hm1.map hS.old (by omega), hm1.has hS.box (by omega), ?_, fun k hk => ?_, hS.mod.trans' hm1 (fun i hi hl => by omega)⟩, by rw [e2]; simp⟩
   ·rw [e2, List.length_append, List.flatMap_append]
    simpa [seL] using ho
   ·rcases hst k hk with h1 | h1
    ·exact hS.new k h1
    ·have := hS.box.lt
     simp at h1
     omega)
 have HFREE := hide fun (wr : World) (v : Value) (i : Nat) (hS : SetI w wr b m m' clock p Q l es v i) (hi : i < l.length) (h0 : l[i].st = 0) => (show SetI w wr b m m' clock p Q l es v (i + 1) ∧ (homeless Q (l.take (i + 1))).length = (homeless Q (l.take i)).length from ⟨hS.free hi h0, by rw [homeless_take Q l i hi, if_neg (by simp [h0]), List.append_nil]⟩)
 clear h hm hok hrel hwf hB hC h1 h2 hwz hlen
 obtain ⟨iSe, q0, q1, q2, q3⟩ := info_parts infoSe
 unfold fcells fcf fcs at S0 HS HP ⊢
 go_enter Try.func136, Try.ntmps136
 go_wp2_with fail
 refine ((unhide HS) _ (unhide S0).box).mono ?_
 rintro e w1 ⟨rfl, m1⟩
 have S1 := hide ((unhide S0).still m1)
 clear S0 m1 HS
 go_wp2_with fail
 have HLEN := hide hl120
 go_loopw [5, 11] (fun s5 s11 wr => ∃ (i : Nat) (a : Option Addr) (cp : Nat), s11 = .int .i64 (i : Int) ∧ i ≤ l.length ∧ s5 = .slice a (homeless Q (l.take i)).length cp ∧ Hid (SetI w wr b m m' clock p Q l es (.slice a (homeless Q (l.take i)).length cp) i)) (fun _ s11 _ => l.length - (intOf s11).toNat)
 case atStart => exact ⟨0, none, 0, rfl, by omega, by simp [homeless], by simpa [homeless] using S1⟩
 case round =>
  obtain ⟨i, a, cp, rfl, hi, rfl, E1⟩ := hrel
  clear S1
  by_cases h1 : i < l.length
  ·have h1i : (i : Int) < (l.length : Int) := by omega
   have hw3 : IntKind.i64.wrap ((i : Int) + 1) = ((i + 1 : Nat) : Int) := by rw [wrap_id _ (by omega) (by omega)]; rfl
   have hPL := (unhide HP) _ (unhide E1).box i h1
   have hSE := (unhide HSEE) _ _ i (unhide E1) h1
   have hHA := (unhide HHAS) _ _ i (unhide E1)
   have hPU := fun W (hW : Mod No wr W) => (unhide HPUT) W _ i ((unhide E1).still hW) h1
   have hFR := (unhide HFREE)
   have hAP := fun W (hW : Mod No wr W) (w3 : World) v' o => (unhide HAPP) W w3 _ v' i ((unhide E1).still hW) o h1
   have hml : (homeless Q (l.take i)).length ≤ 120 := by
    have : (homeless Q (l.take i)).length ≤ (l.take i).length := List.length_filter_le _ _
    rw [List.length_take] at this
    omega
   have hFR := fun W (hW : Mod No wr W) => (unhide HFREE) W _ i ((unhide E1).still hW) h1
   generalize hs : l[i] = s at *
   obtain ⟨r, c, st, pa, cl, un⟩ := s
   simp only at hPL hSE hHA hPU hAP hFR
   have GP := hide hPL
   have GS := hide hSE
   have GH := hide (hHA r c)
   have GU := hide hPU
   have GA := hide hAP
   have GF := hide hFR
   have HI := hide hi
   have HH1 := hide h1
   clear hPL hSE hHA hPU hAP hFR hs h1 hi hl120
   have bl := (unhide E1).box.lt
   go_wp2_with fail
   refine (unhide GP).mono ?_
   rintro e w1 ⟨rfl, m1⟩
   have M1 := hide m1
   clear m1
   have mA := hide (((unhide M1).alloc (.cells #[.int .i64 r, .int .i64 c] 32)))
   have bx := ((unhide mA).has (unhide E1).box (fun x => x)).cell 7
   rw [show (fcells p (.map (some m)) l)[7]? = some (.map (some m)) from rfl] at bx
   have bl := ((unhide mA).has (unhide E1).box (fun x => x)).lt
   have hlk := (unhide GS) _ (unhide mA)
   have nA := Has.new w1 #[.int .i64 r, .int .i64 c] 32
   have NA := hide nA
   have cA := nA.cell
   clear nA
   have mB := hide (((unhide mA).alloc (.cells #[.int .i64 st, .int .i64 pa, .int .i64 cl, .int .i64 un] 170)))
   by_cases h0 : st = 0
   ·have HZ := hide h0
    subst h0
    go_wp2_with fail
    obtain ⟨e9, l9⟩ := (unhide GF) _ (unhide mB) (by trivial)
    exact ⟨⟨i + 1, a, cp, by trivial, by have := unhide HH1; omega, by rw [l9], by rw [l9]; exact e9⟩, by simp [intOf]; have := unhide HH1; omega⟩
   ·have HZ := hide h0
    have hnz : (st != 0) = true := by simp [h0]
    rw [hnz] at hlk
    clear h0
    by_cases hq : Q.has r c = true
    ·rw [hq] at GH
     have HQ := hide hq
     go_wp2_with fail
     refine ((unhide GH) _ (unhide mB)).mono ?_
     rintro e w2 ⟨rfl, m2⟩
     have cA2 := (m2.has ((unhide NA).alloc (.cells #[.int .i64 st, .int .i64 pa, .int .i64 cl, .int .i64 un] 170)) (fun x => x)).cell
     have nB := Has.new (w1.alloc (.cells #[.int .i64 r, .int .i64 c] 32)) #[.int .i64 st, .int .i64 pa, .int .i64 cl, .int .i64 un] 170
     rw [World.size_alloc] at nB
     have cB2 := (m2.has nB (fun x => x)).cell
     have M2 := hide ((unhide mB).trans m2)
     clear m2 nB cA
     go_wp2_with fail
     refine ((unhide GU) _ (unhide M2) (unhide HZ) (unhide HQ)).mono ?_
     rintro e w3 ⟨rfl, e9, l9⟩
     have E9 := hide e9
     have L9 := hide l9
     clear e9 l9 cA2 cB2
     go_wp2
     exact ⟨⟨i + 1, a, cp, by trivial, by have := unhide HH1; omega, by rw [unhide L9], by rw [unhide L9]; exact unhide E9⟩, by simp [intOf]; have := unhide HH1; omega⟩
    ·have HQ := hide hq
     have hq' : Q.has r c = false := by simpa using hq
     rw [hq'] at GH
     clear hq
     go_wp2_with fail
     refine ((unhide GH) _ (unhide mB)).mono ?_
     rintro e w2 ⟨rfl, m2⟩
     have nB := Has.new (w1.alloc (.cells #[.int .i64 r, .int .i64 c] 32)) #[.int .i64 st, .int .i64 pa, .int .i64 cl, .int .i64 un] 170
     rw [World.size_alloc] at nB
     have cB2 := (m2.has nB (fun x => x)).cell
     have M2 := hide ((unhide mB).trans m2)
     clear m2 nB cA
     have hlA := List.length_filter_le (fun s : Sea => s.st != 0 && !Q.has s.row s.col) (l.take i)
     have E2 := (unhide E1).still (unhide M2)
     have HO := hide (((Mod.refl No w2).alloc (.cells #[.int .i64 st, .int .i64 pa, .int .i64 cl, .int .i64 un] 170)).owns E2.row (fun _ _ x => x))
     have HRD := hide (show Reads (w2.alloc (.cells #[.int .i64 st, .int .i64 pa, .int .i64 cl, .int .i64 un] 170)) (.slice (some ⟨w2.heap.size, 0, none⟩) 1 1) 1 [.int .i64 st, .int .i64 pa, .int .i64 cl, .int .i64 un] from
      .inr ⟨⟨w2.heap.size, 0, none⟩, 1, rfl, fun j u hu => by
       rw [Addr.add_mid, Nat.zero_add, (Has.new w2 #[.int .i64 st, .int .i64 pa, .int .i64 cl, .int .i64 un] 170).cell, ← Array.getElem?_toList]
       exact hu⟩)
     have G2 := hide fun w3 v' => (unhide GA) _ (unhide M2) w3 v' (.cells #[.int .i64 st, .int .i64 pa, .int .i64 cl, .int .i64 un] 170) (unhide HZ) (unhide HQ)
     have hml : (homeless Q (l.take i)).length ≤ 120 := Nat.le_trans hlA (by rw [List.length_take]; have := unhide HLEN; omega)
     clear hlA E2
     go_wp2_with (first | (at_builtin; refine wpList_append_row rfl (.tmp 36) (.tmp 38) 228 rfl 170 iSe _ 4 32 Try.underlying228 q0 q1 q2 q3 rfl (by decide) (.slice a (homeless Q (l.take i)).length cp) (homeless Q (l.take i)).length _ (by simp [Act.eval]) (by exact unhide HO) (.slice (some ⟨w2.heap.size, 0, none⟩) 1 1) 1 [.int .i64 st, .int .i64 pa, .int .i64 cl, .int .i64 un] (by simp [Act.eval]) (by exact unhide HRD) rfl (by intro u hu; simp at hu; rcases hu with rfl | rfl | rfl | rfl <;> rfl) (by unfold maxLen; omega) (by omega) ?_; intro v' w3 ho3 hg3 hs3; obtain ⟨a3, c3, rfl⟩ := slice_of_owns ho3))
     obtain ⟨e9, l9⟩ := (unhide G2) _ _ ho3 hg3 hs3
     exact ⟨⟨i + 1, a3, c3, by trivial, by have := unhide HH1; omega, by rw [l9], by rw [l9]; exact e9⟩, by simp [intOf]; have := unhide HH1; omega⟩
  ·have hii : i = l.length := by omega
   subst hii
   have h1i : ¬ ((l.length : Nat) : Int) < (l.length : Int) := by omega
   go_wp2
   go_ret
   exact ⟨.slice a (homeless Q l).length cp, rfl, by simpa only [List.take_length] using unhide E1⟩
open Go.RowKit
set_option maxHeartbeats 2000000
theorem ahead_walk (b : Nat) (cs : Array Value) (T : TypeId) (r c C : Int) (w : World) (h : Has w b cs T) (h1 : cs[1]? = some (.int .i64 C)) (hr : 1 ≤ r ∧ r ≤ 1000) (hc : 1 ≤ c ∧ c ≤ 1000) (hC : 1 ≤ C ∧ C ≤ 1000) :
  Calls Try.prog 90 #[.pointer (some ⟨b, 0, none⟩), .agg #[.int .i64 r, .int .i64 c]] w fun e w' => e = .returned (.int .i64 ((r - 1) * C + c - 1)) ∧ Mod No w w' := by
 have c1 := h.cell 1
 rw [h1] at c1
 have hlt := h.lt
 have m0 : 0 ≤ (r - 1) * C := Int.mul_nonneg (by omega) (by omega)
 have m1 : (r - 1) * C ≤ 1000 * 1000 := Int.mul_le_mul (by omega) (by omega) (by omega) (by omega)
 have w1 : IntKind.i64.wrap (r - 1) = r - 1 := wrap_id _ (by omega) (by omega)
 have w2 : IntKind.i64.wrap ((r - 1) * C) = (r - 1) * C := wrap_id _ (by omega) (by omega)
 have w3 : IntKind.i64.wrap ((r - 1) * C + c) = (r - 1) * C + c := wrap_id _ (by omega) (by omega)
 have w4 : IntKind.i64.wrap ((r - 1) * C + c - 1) = (r - 1) * C + c - 1 := wrap_id _ (by omega) (by omega)
 clear h h1 m0 m1
 go_enter Try.func90, Try.ntmps90
 go_wp2
 go_quiet (fail)
 go_wp2
 go_ret
 exact ⟨rfl, ((Mod.refl _ _).alloc _).drewN _⟩
theorem sizeSa : (Try.prog.info? 61).map (·.size) = some 6 := by kernel_rfl
theorem tell_walk (b m : Nat) (cs : Array Value) (r c st pa cl un : Int) (w : World) (h : Has w b cs 138) (h7 : cs[7]? = some (.map (some m)))
  (hL : ∀ W, Mod No w W → (Instr.lookup 136 (.map (some m)) (.agg #[.int .i64 r, .int .i64 c]) false).run Try.prog W = .ok (.agg #[.int .i64 st, .int .i64 pa, .int .i64 cl, .int .i64 un]) W) :
  Calls Try.prog 69 #[.pointer (some ⟨b, 0, none⟩), .agg #[.int .i64 r, .int .i64 c]] w fun e w' => e = .returned (.agg #[.int .i64 r, .int .i64 c, .int .i64 st, .int .i64 pa, .int .i64 cl, .int .i64 un]) ∧ Mod No w w' := by
 have mA : Mod No w ((w.alloc (.cells #[.int .i64 r, .int .i64 c] 32)).alloc (.cells #[.int .i64 0, .int .i64 0, .int .i64 0, .int .i64 0, .int .i64 0, .int .i64 0] 61)) := ((Mod.refl _ w).alloc _).alloc _
 have c7 := (mA.has h (fun x => x)).cell 7
 rw [h7] at c7
 have hlt := (mA.has h (fun x => x)).lt
 have l1 := fun X => hL ((((w.alloc (.cells #[.int .i64 r, .int .i64 c] 32)).alloc (.cells #[.int .i64 0, .int .i64 0, .int .i64 0, .int .i64 0, .int .i64 0, .int .i64 0] 61))).alloc X).drew (mA.alloc X).drew
 have l2 := hL (((w.alloc (.cells #[.int .i64 r, .int .i64 c] 32)).alloc (.cells #[.int .i64 0, .int .i64 0, .int .i64 0, .int .i64 0, .int .i64 0, .int .i64 0] 61))).drew mA.drew
 have BA := hide ((Has.new w #[.int .i64 r, .int .i64 c] 32).alloc (.cells #[.int .i64 0, .int .i64 0, .int .i64 0, .int .i64 0, .int .i64 0, .int .i64 0] 61))
 have bA := ((Has.new w #[.int .i64 r, .int .i64 c] 32).alloc (.cells #[.int .i64 0, .int .i64 0, .int .i64 0, .int .i64 0, .int .i64 0, .int .i64 0] 61)).cell
 have lA := ((Has.new w #[.int .i64 r, .int .i64 c] 32).alloc (.cells #[.int .i64 0, .int .i64 0, .int .i64 0, .int .i64 0, .int .i64 0, .int .i64 0] 61)).lt
 have bR := Has.new (w.alloc (.cells #[.int .i64 r, .int .i64 c] 32)) #[.int .i64 0, .int .i64 0, .int .i64 0, .int .i64 0, .int .i64 0, .int .i64 0] 61
 rw [World.size_alloc] at bR
 have cR := bR.cell
 have fR := bR.frozen
 have lR := bR.lt
 have MA := hide mA
 have BR := hide bR
 clear h h7 hL mA bR
 go_enter Try.func69, Try.ntmps69
 go_wp2
 generalize ((w.alloc (.cells #[.int .i64 r, .int .i64 c] 32)).alloc (.cells #[.int .i64 0, .int .i64 0, .int .i64 0, .int .i64 0, .int .i64 0, .int .i64 0] 61)) = W0 at *
 go_region
 have B1 := ((unhide BA).alloc (.cells #[.int .i64 st, .int .i64 pa, .int .i64 cl, .int .i64 un] 170)).drew
 have R1 := ((unhide BR).alloc (.cells #[.int .i64 st, .int .i64 pa, .int .i64 cl, .int .i64 un] 170)).drew
 have S1 := (Has.new W0 #[.int .i64 st, .int .i64 pa, .int .i64 cl, .int .i64 un] 170).drew
 have M1 := hide ((unhide MA).alloc (.cells #[.int .i64 st, .int .i64 pa, .int .i64 cl, .int .i64 un] 170)).drew
 clear l1 l2 bA lA cR fR lR c7 hlt MA BA BR
 have hne : w.heap.size + 1 ≠ W0.heap.size := by have := R1.ne S1 (by decide); exact this
 generalize (W0.alloc (.cells #[.int .i64 st, .int .i64 pa, .int .i64 cl, .int .i64 un] 170)).drew = W1 at *
 generalize W0.heap.size = sb at *
 have b1 := B1.cell
 have s1 := S1.cell
 have RR := hide R1
 clear B1 S1 R1
 go_wp2_with (first | (refine wpList_store_has rfl 61 _ _ rfl (w.heap.size + 1) #[.int .i64 r, .int .i64 c, .int .i64 st, .int .i64 pa, .int .i64 cl, .int .i64 un] rfl rfl #[.int .i64 0, .int .i64 0, .int .i64 0, .int .i64 0, .int .i64 0, .int .i64 0] 61 (unhide RR) rfl sizeSa (by simp [Value.oneCell']) ?_; intro W2 h2 m2; have M2 := hide ((unhide M1).trans' m2 (fun i hi hl => by omega)); have c2 := h2.cell; have l2 := h2.lt; clear m2))
 have d0 : W2.cell? ⟨w.heap.size + 1, 0, none⟩ = some (.int .i64 r) := c2 0
 have d1 : W2.cell? ⟨w.heap.size + 1, 1, none⟩ = some (.int .i64 c) := c2 1
 have d2 : W2.cell? ⟨w.heap.size + 1, 2, none⟩ = some (.int .i64 st) := c2 2
 have d3 : W2.cell? ⟨w.heap.size + 1, 3, none⟩ = some (.int .i64 pa) := c2 3
 have d4 : W2.cell? ⟨w.heap.size + 1, 4, none⟩ = some (.int .i64 cl) := c2 4
 have d5 : W2.cell? ⟨w.heap.size + 1, 5, none⟩ = some (.int .i64 un) := c2 5
 refine bodyPost_ret (by simp [results, Try.results69, go_sem, d0, d1, d2, d3, d4, d5]; try rfl) rfl ?_
 exact ⟨rfl, unhide M2⟩
theorem step_call {P : Program} {ops : Array Oper} {o : Oper} {a : Act} {w : World} {K : Act → World → Prop} {Q : Exit → Act → World → Prop} {E : Prop}
  (hg : o.guard = none) (f : FuncId) (args : Array Operand) (tys : Array TypeId) (hop : o.op = Op.call { callee := Callee.value (Operand.func f), args := args, argTypes := tys })
  (vs : Array Value) (hvs : args.map a.eval = vs) (hcf : ∀ W, (callFunc f vs).run P W = .ok (.enter f vs) W) (v : Value) (R : World → Prop) (hc : Calls P f vs w fun e w' => e = .returned v ∧ R w')
  (hK : ∀ w', R w' → K (a.put o.dst v) w') : if Region.wanted o (yielded ops a.tmps) = true then Oper.wp P o a w K Q else E := by
 have hw : Region.wanted o (yielded ops a.tmps) = true := by simp [Region.wanted, hg]
 rw [if_pos hw]
 unfold Oper.wp execOp
 simp [go_sem, hop, hvs]
 rw [hcf]
 simp [go_sem]
 refine hc.mono ?_
 rintro e w' ⟨rfl, hr⟩
 exact hK _ hr
def behindK (p : Pla) (r c e : Int) : Int × Int :=
 if r = 0 ∧ c = 0 ∧ e = 0 then (0, 0) else if e ≠ p.ep then (0, 13) else if p.has r c = false then (0, 5) else ((p.idx r c : Int) + 1, 0)
theorem behind_r {w : World} {b m clock : Nat} {p : Pla} {l : List Sea} {es : List MEnt} (h : FlX w b p l m es clock) (hwf : Wf p l) (r c e : Int) (hq0 : r ≠ 0) :
  Calls Try.prog 66 #[.pointer (some ⟨b, 0, none⟩), .agg #[.int .i64 r, .int .i64 c, .int .i64 e]] w fun e' w' => e' = .returned (.tuple #[.int .i64 (behindK p r c e).1, .int .i64 (behindK p r c e).2]) ∧ Mod No w w' := by
 have mA : Mod No w (w.alloc (.cells #[.int .i64 r, .int .i64 c, .int .i64 e] 63)) := (Mod.refl _ w).alloc _
 have MA := hide mA
 have c24 := (mA.has h.has (fun x => x)).cell 24
 rw [show (fcells p (.map (some m)) l)[24]? = some (.int .i64 p.ep) from rfl] at c24
 have hlt := (mA.has h.has (fun x => x)).lt
 have HH := hide fun W (hW : Mod No w W) => (show Calls Try.prog 77 #[.pointer (some ⟨b, 0, none⟩), .agg #[.int .i64 r, .int .i64 c]] W fun e w' => e = .returned (.bool (p.has r c)) ∧ Mod No W w' from has_walk b r c p.rows p.cols _ W (hW.has h.has (fun x => x)) rfl rfl)
 have hB := hwf.bounds
 simp only at hB
 have HAH := hide fun W (hW : Mod No w W) (hh : p.has r c = true) => (show Calls Try.prog 90 #[.pointer (some ⟨b, 0, none⟩), .agg #[.int .i64 r, .int .i64 c]] W fun e w' => e = .returned (.int .i64 (p.idx r c : Int)) ∧ Mod No W w' from by
  simp only [Pla.has, decide_eq_true_eq] at hh
  have := ahead_walk b _ _ r c p.cols W (hW.has h.has (fun x => x)) rfl (by omega) (by omega) (by omega)
  have hi : (r - 1) * p.cols + c - 1 = (p.idx r c : Int) := by
   unfold Pla.idx
   have m3 : 0 ≤ (r - 1) * p.cols := Int.mul_nonneg (by omega) (by omega)
   omega
  rw [hi] at this
  exact this)
 have BA := hide (Has.new w #[.int .i64 r, .int .i64 c, .int .i64 e] 63)
 have HI := hide fun (hh : p.has r c = true) => (show IntKind.i64.wrap ((p.idx r c : Int) + 1) = (p.idx r c : Int) + 1 from by
  have := Fli.wf.idx_lt hwf hh
  have hl := Fli.wf.len_le hwf
  simp only at this hl
  exact wrap_id _ (by omega) (by omega))
 clear h hwf hB mA
 unfold behindK
 rw [if_neg (by rintro ⟨h1, h2, h3⟩; first | exact hq0 h1 | exact hq0 h2 | exact hq0 h3)]
 have hq : (r == 0) = false := by simpa using hq0
 clear hq0
 by_cases he : e = p.ep
 case neg =>
  rw [if_pos he]
  have hne : (e != p.ep) = true := by simpa using he
  clear he
  go_enter Try.func66, Try.ntmps66
  go_wp2
  go_quiet (fail)
  go_wp2
  go_ret2
  exact ⟨rfl, (unhide MA).drewN _⟩
 rw [if_neg (by simpa using he)]
 have hne : (e != p.ep) = false := by simpa using he
 by_cases hh : p.has r c = true
 case neg =>
  have hh' : p.has r c = false := by simpa using hh
  rw [if_pos hh']
  rw [hh'] at HH
  clear he hh hh' HI HAH
  go_enter Try.func66, Try.ntmps66
  go_wp2
  go_quiet (fail)
  go_wp2_with fail
  refine ((unhide HH) _ ((unhide MA).drewN _)).mono ?_
  rintro e5 w5 ⟨rfl, m5⟩
  have M5 := hide (((unhide MA).drewN _).trans m5)
  clear m5
  go_wp2
  go_ret2
  exact ⟨rfl, unhide M5⟩
 rw [if_neg (by simp [hh])]
 have hw := (unhide HI) hh
 have HA := hide fun W (hW : Mod No w W) => (unhide HAH) W hW hh
 rw [hh] at HH
 clear he hh HI HAH
 go_enter Try.func66, Try.ntmps66
 go_wp2
 go_quiet (fail)
 go_wp2_with fail
 refine ((unhide HH) _ ((unhide MA).drewN _)).mono ?_
 rintro e5 w5 ⟨rfl, m5⟩
 have b5 := (m5.has ((unhide BA).drewN _) (fun x => x)).cell
 have l5 := (m5.has ((unhide BA).drewN _) (fun x => x)).lt
 have M5 := hide (((unhide MA).drewN _).trans m5)
 clear m5
 go_wp2_with fail
 refine ((unhide HA) _ (unhide M5)).mono ?_
 rintro e6 w6 ⟨rfl, m6⟩
 have M6 := hide ((unhide M5).trans m6)
 clear m6
 go_wp2
 go_ret2
 exact ⟨rfl, unhide M6⟩
theorem behind_c {w : World} {b m clock : Nat} {p : Pla} {l : List Sea} {es : List MEnt} (h : FlX w b p l m es clock) (hwf : Wf p l) (c e : Int) (hq0 : c ≠ 0) :
  Calls Try.prog 66 #[.pointer (some ⟨b, 0, none⟩), .agg #[.int .i64 0, .int .i64 c, .int .i64 e]] w fun e' w' => e' = .returned (.tuple #[.int .i64 (behindK p 0 c e).1, .int .i64 (behindK p 0 c e).2]) ∧ Mod No w w' := by
 have mA : Mod No w (w.alloc (.cells #[.int .i64 0, .int .i64 c, .int .i64 e] 63)) := (Mod.refl _ w).alloc _
 have MA := hide mA
 have c24 := (mA.has h.has (fun x => x)).cell 24
 rw [show (fcells p (.map (some m)) l)[24]? = some (.int .i64 p.ep) from rfl] at c24
 have hlt := (mA.has h.has (fun x => x)).lt
 have HH := hide fun W (hW : Mod No w W) => (show Calls Try.prog 77 #[.pointer (some ⟨b, 0, none⟩), .agg #[.int .i64 0, .int .i64 c]] W fun e w' => e = .returned (.bool (p.has 0 c)) ∧ Mod No W w' from has_walk b 0 c p.rows p.cols _ W (hW.has h.has (fun x => x)) rfl rfl)
 have hB := hwf.bounds
 simp only at hB
 have HAH := hide fun W (hW : Mod No w W) (hh : p.has 0 c = true) => (show Calls Try.prog 90 #[.pointer (some ⟨b, 0, none⟩), .agg #[.int .i64 0, .int .i64 c]] W fun e w' => e = .returned (.int .i64 (p.idx 0 c : Int)) ∧ Mod No W w' from by
  simp only [Pla.has, decide_eq_true_eq] at hh
  have := ahead_walk b _ _ 0 c p.cols W (hW.has h.has (fun x => x)) rfl (by omega) (by omega) (by omega)
  have hi : (0 - 1) * p.cols + c - 1 = (p.idx 0 c : Int) := by
   unfold Pla.idx
   have m3 : 0 ≤ (0 - 1) * p.cols := Int.mul_nonneg (by omega) (by omega)
   omega
  rw [hi] at this
  exact this)
 have BA := hide (Has.new w #[.int .i64 0, .int .i64 c, .int .i64 e] 63)
 have HI := hide fun (hh : p.has 0 c = true) => (show IntKind.i64.wrap ((p.idx 0 c : Int) + 1) = (p.idx 0 c : Int) + 1 from by
  have := Fli.wf.idx_lt hwf hh
  have hl := Fli.wf.len_le hwf
  simp only at this hl
  exact wrap_id _ (by omega) (by omega))
 clear h hwf hB mA
 unfold behindK
 rw [if_neg (by rintro ⟨h1, h2, h3⟩; first | exact hq0 h1 | exact hq0 h2 | exact hq0 h3)]
 have hq : (c == 0) = false := by simpa using hq0
 clear hq0
 by_cases he : e = p.ep
 case neg =>
  rw [if_pos he]
  have hne : (e != p.ep) = true := by simpa using he
  clear he
  go_enter Try.func66, Try.ntmps66
  go_wp2
  go_quiet (fail)
  go_wp2
  go_ret2
  exact ⟨rfl, (unhide MA).drewN _⟩
 rw [if_neg (by simpa using he)]
 have hne : (e != p.ep) = false := by simpa using he
 by_cases hh : p.has 0 c = true
 case neg =>
  have hh' : p.has 0 c = false := by simpa using hh
  rw [if_pos hh']
  rw [hh'] at HH
  clear he hh hh' HI HAH
  go_enter Try.func66, Try.ntmps66
  go_wp2
  go_quiet (fail)
  go_wp2_with fail
  refine ((unhide HH) _ ((unhide MA).drewN _)).mono ?_
  rintro e5 w5 ⟨rfl, m5⟩
  have M5 := hide (((unhide MA).drewN _).trans m5)
  clear m5
  go_wp2
  go_ret2
  exact ⟨rfl, unhide M5⟩
 rw [if_neg (by simp [hh])]
 have hw := (unhide HI) hh
 have HA := hide fun W (hW : Mod No w W) => (unhide HAH) W hW hh
 rw [hh] at HH
 clear he hh HI HAH
 go_enter Try.func66, Try.ntmps66
 go_wp2
 go_quiet (fail)
 go_wp2_with fail
 refine ((unhide HH) _ ((unhide MA).drewN _)).mono ?_
 rintro e5 w5 ⟨rfl, m5⟩
 have b5 := (m5.has ((unhide BA).drewN _) (fun x => x)).cell
 have l5 := (m5.has ((unhide BA).drewN _) (fun x => x)).lt
 have M5 := hide (((unhide MA).drewN _).trans m5)
 clear m5
 go_wp2_with fail
 refine ((unhide HA) _ (unhide M5)).mono ?_
 rintro e6 w6 ⟨rfl, m6⟩
 have M6 := hide ((unhide M5).trans m6)
 clear m6
 go_wp2
 go_ret2
 exact ⟨rfl, unhide M6⟩
theorem behind_e {w : World} {b m clock : Nat} {p : Pla} {l : List Sea} {es : List MEnt} (h : FlX w b p l m es clock) (hwf : Wf p l) (e : Int) (hq0 : e ≠ 0) :
  Calls Try.prog 66 #[.pointer (some ⟨b, 0, none⟩), .agg #[.int .i64 0, .int .i64 0, .int .i64 e]] w fun e' w' => e' = .returned (.tuple #[.int .i64 (behindK p 0 0 e).1, .int .i64 (behindK p 0 0 e).2]) ∧ Mod No w w' := by
 have mA : Mod No w (w.alloc (.cells #[.int .i64 0, .int .i64 0, .int .i64 e] 63)) := (Mod.refl _ w).alloc _
 have MA := hide mA
 have c24 := (mA.has h.has (fun x => x)).cell 24
 rw [show (fcells p (.map (some m)) l)[24]? = some (.int .i64 p.ep) from rfl] at c24
 have hlt := (mA.has h.has (fun x => x)).lt
 have HH := hide fun W (hW : Mod No w W) => (show Calls Try.prog 77 #[.pointer (some ⟨b, 0, none⟩), .agg #[.int .i64 0, .int .i64 0]] W fun e w' => e = .returned (.bool (p.has 0 0)) ∧ Mod No W w' from has_walk b 0 0 p.rows p.cols _ W (hW.has h.has (fun x => x)) rfl rfl)
 have hB := hwf.bounds
 simp only at hB
 have HAH := hide fun W (hW : Mod No w W) (hh : p.has 0 0 = true) => (show Calls Try.prog 90 #[.pointer (some ⟨b, 0, none⟩), .agg #[.int .i64 0, .int .i64 0]] W fun e w' => e = .returned (.int .i64 (p.idx 0 0 : Int)) ∧ Mod No W w' from by
  simp only [Pla.has, decide_eq_true_eq] at hh
  have := ahead_walk b _ _ 0 0 p.cols W (hW.has h.has (fun x => x)) rfl (by omega) (by omega) (by omega)
  have hi : (0 - 1) * p.cols + 0 - 1 = (p.idx 0 0 : Int) := by
   unfold Pla.idx
   have m3 : 0 ≤ (0 - 1) * p.cols := Int.mul_nonneg (by omega) (by omega)
   omega
  rw [hi] at this
  exact this)
 have BA := hide (Has.new w #[.int .i64 0, .int .i64 0, .int .i64 e] 63)
 have HI := hide fun (hh : p.has 0 0 = true) => (show IntKind.i64.wrap ((p.idx 0 0 : Int) + 1) = (p.idx 0 0 : Int) + 1 from by
  have := Fli.wf.idx_lt hwf hh
  have hl := Fli.wf.len_le hwf
  simp only at this hl
  exact wrap_id _ (by omega) (by omega))
 clear h hwf hB mA
 unfold behindK
 rw [if_neg (by rintro ⟨h1, h2, h3⟩; first | exact hq0 h1 | exact hq0 h2 | exact hq0 h3)]
 have hq : (e == 0) = false := by simpa using hq0
 clear hq0
 by_cases he : e = p.ep
 case neg =>
  rw [if_pos he]
  have hne : (e != p.ep) = true := by simpa using he
  clear he
  go_enter Try.func66, Try.ntmps66
  go_wp2
  go_quiet (fail)
  go_wp2
  go_ret2
  exact ⟨rfl, (unhide MA).drewN _⟩
 rw [if_neg (by simpa using he)]
 have hne : (e != p.ep) = false := by simpa using he
 by_cases hh : p.has 0 0 = true
 case neg =>
  have hh' : p.has 0 0 = false := by simpa using hh
  rw [if_pos hh']
  rw [hh'] at HH
  clear he hh hh' HI HAH
  go_enter Try.func66, Try.ntmps66
  go_wp2
  go_quiet (fail)
  go_wp2_with fail
  refine ((unhide HH) _ ((unhide MA).drewN _)).mono ?_
  rintro e5 w5 ⟨rfl, m5⟩
  have M5 := hide (((unhide MA).drewN _).trans m5)
  clear m5
  go_wp2
  go_ret2
  exact ⟨rfl, unhide M5⟩
 rw [if_neg (by simp [hh])]
 have hw := (unhide HI) hh
 have HA := hide fun W (hW : Mod No w W) => (unhide HAH) W hW hh
 rw [hh] at HH
 clear he hh HI HAH
 go_enter Try.func66, Try.ntmps66
 go_wp2
 go_quiet (fail)
 go_wp2_with fail
 refine ((unhide HH) _ ((unhide MA).drewN _)).mono ?_
 rintro e5 w5 ⟨rfl, m5⟩
 have b5 := (m5.has ((unhide BA).drewN _) (fun x => x)).cell
 have l5 := (m5.has ((unhide BA).drewN _) (fun x => x)).lt
 have M5 := hide (((unhide MA).drewN _).trans m5)
 clear m5
 go_wp2_with fail
 refine ((unhide HA) _ (unhide M5)).mono ?_
 rintro e6 w6 ⟨rfl, m6⟩
 have M6 := hide ((unhide M5).trans m6)
 clear m6
 go_wp2
 go_ret2
 exact ⟨rfl, unhide M6⟩
theorem behind_any {w : World} {b m clock : Nat} {p : Pla} {l : List Sea} {es : List MEnt} (h : FlX w b p l m es clock) (hwf : Wf p l) (r c e : Int) :
  Calls Try.prog 66 #[.pointer (some ⟨b, 0, none⟩), .agg #[.int .i64 r, .int .i64 c, .int .i64 e]] w fun e' w' => e' = .returned (.tuple #[.int .i64 (behindK p r c e).1, .int .i64 (behindK p r c e).2]) ∧ Mod No w w' := by
 have mA : Mod No w (w.alloc (.cells #[.int .i64 r, .int .i64 c, .int .i64 e] 63)) := (Mod.refl _ w).alloc _
 have MA := hide mA
 have c24 := (mA.has h.has (fun x => x)).cell 24
 rw [show (fcells p (.map (some m)) l)[24]? = some (.int .i64 p.ep) from rfl] at c24
 have hlt := (mA.has h.has (fun x => x)).lt
 have HH := hide fun W (hW : Mod No w W) => (show Calls Try.prog 77 #[.pointer (some ⟨b, 0, none⟩), .agg #[.int .i64 r, .int .i64 c]] W fun e w' => e = .returned (.bool (p.has r c)) ∧ Mod No W w' from has_walk b r c p.rows p.cols _ W (hW.has h.has (fun x => x)) rfl rfl)
 have hB := hwf.bounds
 simp only at hB
 have HAH := hide fun W (hW : Mod No w W) (hh : p.has r c = true) => (show Calls Try.prog 90 #[.pointer (some ⟨b, 0, none⟩), .agg #[.int .i64 r, .int .i64 c]] W fun e w' => e = .returned (.int .i64 (p.idx r c : Int)) ∧ Mod No W w' from by
  simp only [Pla.has, decide_eq_true_eq] at hh
  have := ahead_walk b _ _ r c p.cols W (hW.has h.has (fun x => x)) rfl (by omega) (by omega) (by omega)
  have hi : (r - 1) * p.cols + c - 1 = (p.idx r c : Int) := by
   unfold Pla.idx
   have m3 : 0 ≤ (r - 1) * p.cols := Int.mul_nonneg (by omega) (by omega)
   omega
  rw [hi] at this
  exact this)
 have BA := hide (Has.new w #[.int .i64 r, .int .i64 c, .int .i64 e] 63)
 have HI := hide fun (hh : p.has r c = true) => (show IntKind.i64.wrap ((p.idx r c : Int) + 1) = (p.idx r c : Int) + 1 from by
  have := Fli.wf.idx_lt hwf hh
  have hl := Fli.wf.len_le hwf
  simp only at this hl
  exact wrap_id _ (by omega) (by omega))
 have H0 := h
 have H1 := hwf
 clear h hwf hB mA
 unfold behindK
 by_cases hz : r = 0 ∧ c = 0 ∧ e = 0
 ·rw [if_pos hz]
  obtain ⟨rfl, rfl, rfl⟩ := hz
  go_enter Try.func66, Try.ntmps66
  go_wp2
  go_ret2
  exact ⟨rfl, unhide MA⟩
 clear HH HAH BA HI c24 hlt MA
 by_cases h1 : r = 0
 ·by_cases h2 : c = 0
  ·have h3 : e ≠ 0 := fun h3 => hz ⟨h1, h2, h3⟩
   subst h1
   subst h2
   have := behind_e H0 H1 e h3
   unfold behindK at this
   exact this
  ·subst h1
   have := behind_c H0 H1 c e h2
   unfold behindK at this
   exact this
 ·have := behind_r H0 H1 r c e h1
  unfold behindK at this
  exact this
set_option maxHeartbeats 4000000
structure Wrote (O : Nat → Prop) (w w' : World) (wb : Nat) (xs : List Int) (now : Int) : Prop where
 ex : ∃ v', WrX O w' wb v' xs now
 mod : Mod O w w'
theorem Wrote.after {O S : Nat → Prop} {w w1 w2 : World} {wb : Nat} {xs : List Int} {now : Int} (h : Wrote O w1 w2 wb xs now) (hm : Mod S w w1) (hs : ∀ k, k < w.heap.size → S k → O k) : Wrote O w w2 wb xs now :=
 ⟨h.ex, (hm.mono hs).trans h.mod⟩
theorem Wrote.unbox {O : Nat → Prop} {w w2 : World} {wb : Nat} {xs : List Int} {now : Int} {o : Obj} (h : Wrote (fun k => O k ∧ k ≠ w.heap.size) (w.alloc o) w2 wb xs now) : Wrote O w w2 wb xs now := by
 obtain ⟨⟨v, hx⟩, hm⟩ := h
 exact ⟨⟨v, hx.wide (fun _ q => q.1)⟩, (((Mod.refl No w).alloc o).mono (fun _ _ x => x.elim)).trans (hm.mono (fun _ _ q => q.1))⟩
def Up (O : Nat → Prop) (w : World) : Prop := ∀ k, w.heap.size ≤ k → O k
theorem Up.box {O : Nat → Prop} {w : World} (h : Up O w) (o : Obj) : Up (fun k => O k ∧ k ≠ w.heap.size) (w.alloc o) := fun k hk => by
 rw [World.size_alloc] at hk
 exact ⟨h k (by omega), by omega⟩
theorem Up.mod {O S : Nat → Prop} {w w' : World} (h : Up O w) (hm : Mod S w w') : Up O w' := fun k hk => h k (Nat.le_trans hm.size hk)
theorem wnum_w {O : Nat → Prop} {w : World} {wb : Nat} {xs : List Int} {now : Int} (h : ∃ v, WrX O w wb v xs now) (hO : Up O w) (hl : xs.length < 1099511627766) (n : Int) (hn : 0 ≤ n ∧ n < 9223372036854775808) :
  Calls Try.prog 87 #[.pointer (some ⟨wb, 0, none⟩), .int .i64 n] w fun e w' => e = .returned (.tuple #[]) ∧ Wrote O w w' wb (xs ++ numB n) now := by
 obtain ⟨v, h⟩ := h
 exact (wnum_any h hO hl n hn).mono fun e w' ⟨q1, q2, q3⟩ => ⟨q1, q2, q3⟩
theorem whead_w {O : Nat → Prop} {w : World} {wb : Nat} {xs : List Int} {now : Int} (h : ∃ v, WrX O w wb v xs now) (hO : Up O w) (hl : xs.length < 1099511627776) (k f : Int) (hk : 1 ≤ k ∧ k ≤ 7) (hf : 0 ≤ f ∧ f < 32) :
  Calls Try.prog 96 #[.pointer (some ⟨wb, 0, none⟩), .int .i64 k, .int .i64 f] w fun e w' => e = .returned (.tuple #[]) ∧ Wrote O w w' wb (xs ++ [32 * k + f]) now := by
 obtain ⟨v, h⟩ := h
 exact (whead_any h hO hl k f hk hf).mono fun e w' ⟨q1, q2, q3⟩ => ⟨q1, q2, q3⟩
theorem wplace_any {O : Nat → Prop} {w : World} {wb : Nat} {xs : List Int} {now : Int} (h : ∃ v, WrX O w wb v xs now) (hO : Up O w) (hl : xs.length < 1099511627766) (r c : Int) (hr : 1 ≤ r ∧ r ≤ 20) (hc : 1 ≤ c ∧ c ≤ 6) :
  Calls Try.prog 99 #[.pointer (some ⟨wb, 0, none⟩), .agg #[.int .i64 r, .int .i64 c]] w fun e w' => e = .returned (.tuple #[]) ∧ Wrote O w w' wb (xs ++ placeB r c) now := by
 obtain ⟨v, h⟩ := h
 have HN := hide (wnum_w ⟨v, h.box (.cells #[.int .i64 r, .int .i64 c] 32)⟩ (hO.box _) hl ((r - 1) * 6 + c - 1) (by omega))
 clear h hO
 unfold placeB
 go_enter Try.func99, Try.ntmps99
 go_wp2_with fail
 refine (unhide HN).mono ?_
 rintro e w1 ⟨rfl, h1⟩
 have FIN := hide h1.unbox
 clear h1 HN
 go_wp2
 go_end0
 exact ⟨rfl, unhide FIN⟩
theorem wshape_any {O : Nat → Prop} {w : World} {wb : Nat} {xs : List Int} {now : Int} (h : ∃ v, WrX O w wb v xs now) (hO : Up O w) (hl : xs.length < 1099511627740) (a b c : Int) (ha : 0 ≤ a ∧ a < 9223372036854775808) (hb : 0 ≤ b ∧ b < 9223372036854775808) (hc : 0 ≤ c ∧ c < 9223372036854775808) :
  Calls Try.prog 100 #[.pointer (some ⟨wb, 0, none⟩), .int .i64 a, .int .i64 b, .int .i64 c] w fun e w' => e = .returned (.tuple #[]) ∧ Wrote O w w' wb (xs ++ (numB a ++ numB b ++ numB c)) now := by
 have la := (numB_len a).2
 have lb := (numB_len b).2
 have HN := hide (wnum_w h hO (by omega) a ha)
 have HO := hide hO
 clear h hO
 go_enter Try.func100, Try.ntmps100
 go_wp2_with fail
 refine (unhide HN).mono ?_
 rintro e w1 ⟨rfl, h1⟩
 have HN1 := hide (wnum_w h1.ex ((unhide HO).mod h1.mod) (by simp; omega) b hb)
 have M1 := hide h1.mod
 clear h1 HN
 go_wp2_with fail
 refine (unhide HN1).mono ?_
 rintro e w2 ⟨rfl, h2⟩
 have M2 := hide ((unhide M1).trans h2.mod)
 have HN2 := hide (wnum_w h2.ex ((unhide HO).mod (unhide M2)) (by simp; omega) c hc)
 clear h2 HN1
 go_wp2_with fail
 refine (unhide HN2).mono ?_
 rintro e w3 ⟨rfl, h3⟩
 have H3 := hide h3
 clear h3 HN2
 go_wp2
 go_end0
 refine ⟨rfl, ?_⟩
 rw [← List.append_assoc, ← List.append_assoc]
 exact (unhide H3).after (unhide M2) (fun _ _ x => x)
end Go.Proofs.Ythhibagcpjeihaa
