import Derived.Test.YthhibagcpjeihaaGreatHOpArgsToPg4
import Derived.Test.YthhibagcpjeihaaGreatHSwap2ToSwap4
import Derived.Test.YthhibagcpjeihaaGreatHLaw3ToLaw6
import Derived.Test.YthhibagcpjeihaaGreatHLaw31ToArgsG
namespace Go.Proofs.YthhibagcpjeihaaGreat
open Go.RowKit
open M
set_option linter.unusedVariables false
set_option linter.unusedSimpArgs false
set_option maxRecDepth 100000
set_option maxHeartbeats 8000000
attribute [local go_sem ↓] run_min2 run_max2
theorem PgI.start {w W : World} {b m clock : Nat} {p : Pla} {l : List Sea} {es : List MEnt} (h : FlX W b p l m es clock) (hm : Mod No w W) (hr : Has W (w.heap.size + 1) #[.slice none 0 0, .int .i64 0, .int .i64 0, .int .i64 0, .bool false] 146) (D : List Sea) (r c : Int) (more : Bool) :
  PgI w (W.alloc (.cells #[.slice none 0 0, .int .i64 r, .int .i64 c, .int .i64 p.ep, .bool more] 146)) b m clock W.heap.size p l es D r c more (.slice none 0 0) 0 0 := by
 have mA : Mod No W (W.alloc (.cells #[.slice none 0 0, .int .i64 r, .int .i64 c, .int .i64 p.ep, .bool more] 146)) := (Mod.refl _ _).alloc _
 refine ⟨⟨mA.has h.has (fun x => x), mA.map h.map (fun x => x), h.ok, h.rel⟩, Has.new W _ _, by simpa using World.ownsRow_nil _ _ _ _, fun k hk => by simp [Value.ownBlock] at hk, mA.has hr (fun x => x), ⟨hm.size, ?_⟩, hm.trans mA⟩
 have := hr.lt
 omega
theorem PgI.start2 {w W : World} {b m clock pb : Nat} {p : Pla} {l : List Sea} {es : List MEnt} (h : FlX W b p l m es clock) (hm : Mod No w W) (hr : Has W (w.heap.size + 1) #[.slice none 0 0, .int .i64 0, .int .i64 0, .int .i64 0, .bool false] 146)
  (hp : Has W pb #[.slice none 0 0, .int .i64 0, .int .i64 0, .int .i64 0, .bool false] 146) (hpb : w.heap.size ≤ pb ∧ pb ≠ w.heap.size + 1) (hb : b < w.heap.size) (hml : m < w.heap.size) (D : List Sea) (r c : Int) (more : Bool) :
  PgI w (((((W.setCell ⟨pb, 0, none⟩ (.slice none 0 0)).setCell ⟨pb, 1, none⟩ (.int .i64 r)).setCell ⟨pb, 2, none⟩ (.int .i64 c)).setCell ⟨pb, 3, none⟩ (.int .i64 p.ep)).setCell ⟨pb, 4, none⟩ (.bool more)) b m clock pb p l es D r c more (.slice none 0 0) 0 0 := by
 have m1 : Mod (fun k => k = pb) W (((((W.setCell ⟨pb, 0, none⟩ (.slice none 0 0)).setCell ⟨pb, 1, none⟩ (.int .i64 r)).setCell ⟨pb, 2, none⟩ (.int .i64 c)).setCell ⟨pb, 3, none⟩ (.int .i64 p.ep)).setCell ⟨pb, 4, none⟩ (.bool more)) := (((((Mod.refl _ W).at 0 _).at 1 _).at 2 _).at 3 _).at 4 _
 exact ⟨⟨m1.has h.has (by omega), m1.map h.map (by omega), h.ok, h.rel⟩, ((((hp.set 0 _).set 1 _).set 2 _).set 3 _).set 4 _, by simpa using World.ownsRow_nil _ _ _ _, fun k hk => by simp [Value.ownBlock] at hk, m1.has hr (by omega), hpb, hm.trans' m1 (fun i hi hl => by omega)⟩
theorem owns_lt {w : World} {e : TypeId} {n m : Nat} {v : Value} {xs : List Value} (h : w.ownsRow 0 e n v m xs) (k : Nat) (hk : v.ownBlock = some k) : k < w.heap.size := by
 obtain ⟨_, h1 | ⟨g, cap, cur, rfl, hb, hg, _⟩⟩ := h
 ·rw [h1.1] at hk
  simp [Value.ownBlock] at hk
 ·simp [Value.ownBlock] at hk
  subst hk
  exact Has.lt hg
theorem reads_new (w : World) (s : Sea) : Reads (w.alloc (.cells #[.int .i64 s.row, .int .i64 s.col, .int .i64 s.st, .int .i64 s.pa, .int .i64 s.cl, .int .i64 s.un] 63)) (.slice (some ⟨w.heap.size, 0, none⟩) 1 1) 1 (seaL s) :=
 .inr ⟨⟨w.heap.size, 0, none⟩, 1, rfl, fun j u hu => by
  have hN := Has.new w #[.int .i64 s.row, .int .i64 s.col, .int .i64 s.st, .int .i64 s.pa, .int .i64 s.cl, .int .i64 s.un] 63
  rw [Addr.add_mid, Nat.zero_add, hN.cell, ← Array.getElem?_toList]
  exact hu⟩
theorem drawn_all {w W W' : World} {b m clock cb rb pb : Nat} {p : Pla} {l : List Sea} {es : List MEnt} {cc cr cp : Array Value} {TC TR TP : TypeId} {n : Nat} (hw : W' = W.drewN n) (h : FlX W b p l m es clock) (hm : Mod No w W) (hc : Has W cb cc TC) (hr : Has W rb cr TR) (hp : Has W pb cp TP) :
  FlX W' b p l m es clock ∧ Mod No w W' ∧ Has W' cb cc TC ∧ Has W' rb cr TR ∧ Has W' pb cp TP := by
 subst hw
 exact ⟨⟨h.has.drewN n, h.map, h.ok, h.rel⟩, hm.drewN n, hc.drewN n, hr.drewN n, hp.drewN n⟩
theorem page_walk {w : World} {b m clock : Nat} {p : Pla} {l : List Sea} {es : List MEnt} (h : FlX w b p l m es clock) (hwf : Wf p l) (r c e size : Int) (hs : 1 ≤ size ∧ size ≤ 30) (first : Nat) (hf : first ≤ l.length)
  (hB : ∀ W, Mod No w W → Calls Tryz.prog 114 #[.pointer (some ⟨b, 0, none⟩), .agg #[.int .i64 r, .int .i64 c, .int .i64 e]] W fun e' w' => e' = .returned (.tuple #[.int .i64 (first : Int), .int .i64 0]) ∧ Mod No W w')
  (D : List Sea) (hD : D = (l.drop first).take size.toNat) :
  Calls Tryz.prog 92 #[.pointer (some ⟨b, 0, none⟩), .agg #[.int .i64 r, .int .i64 c, .int .i64 e], .int .i64 size] w fun e w' => Told w w' e ⟨D, (lastAt r c D).1, (lastAt r c D).2, p.ep, decide (first + D.length < l.length), 0⟩ := by
 have hl120 : l.length ≤ 120 := Fli.wf.len_le hwf
 have hBd := hwf.bounds
 simp only at hBd
 have hlen := hwf.len
 simp only at hlen
 have hDl : D.length = min size.toNat (l.length - first) := by rw [hD, List.length_take, List.length_drop]
 have hget : ∀ j (hj : j < D.length), ∃ hi : first + j < l.length, l[first + j] = D[j] := fun j hj => by
  subst hD
  have : first + j < l.length := by omega
  refine ⟨this, ?_⟩
  rw [List.getElem_take, List.getElem_drop]
 have hmin : min ((first : Int) + size) (l.length : Int) = ((first + D.length : Nat) : Int) := by omega
 have hwz : IntKind.i64.wrap (p.rows * p.cols) = p.rows * p.cols := wrap_id _ (by omega) (by omega)
 have hw1 : IntKind.i64.wrap ((first : Int) + size) = (first : Int) + size := wrap_id _ (by omega) (by omega)
 have HS := hide fun W (hW : Mod No w W) => (show Calls Tryz.prog 112 #[.pointer (some ⟨b, 0, none⟩)] W fun e w' => e = .returned (.int .i64 (l.length : Int)) ∧ ∃ n, w' = W.drewN n from by
  have := size_draws b _ _ p.rows p.cols W (hW.has h.has (fun x => x)) rfl rfl hwz
  rw [← hlen] at this
  exact this)
 obtain ⟨C, hC⟩ : ∃ C : Nat, p.cols = (C : Int) := ⟨p.cols.toNat, by omega⟩
 have HP := hide fun W (hW : Mod No w W) (j : Nat) (hj : j < D.length) => (show Calls Tryz.prog 113 #[.pointer (some ⟨b, 0, none⟩), .int .i64 ((first : Int) + (j : Int))] W fun e w' => e = .returned (.agg #[.int .i64 D[j].row, .int .i64 D[j].col]) ∧ Mod No W w' from by
  obtain ⟨hi, hg⟩ := hget j hj
  have := placeAt_walk b _ _ C (first + j) W (hW.has h.has (fun x => x)) (by rw [← hC]; rfl) (by omega) (by omega)
  have hp := hwf.place (first + j) hi
  simp only at hp
  rw [← hg, hp.1, hp.2, hC, show (first : Int) + (j : Int) = ((first + j : Nat) : Int) by omega]
  exact this)
 have HT := hide fun W (hW : Mod No w W) (j : Nat) (hj : j < D.length) => (show Calls Tryz.prog 115 #[.pointer (some ⟨b, 0, none⟩), .agg #[.int .i64 D[j].row, .int .i64 D[j].col]] W fun e w' => e = .returned (.agg #[.int .i64 D[j].row, .int .i64 D[j].col, .int .i64 D[j].st, .int .i64 D[j].pa, .int .i64 D[j].cl, .int .i64 D[j].un]) ∧ Mod No W w' from by
  obtain ⟨hi, hg⟩ := hget j hj
  rw [← hg]
  exact tell_walk b m _ _ _ _ _ _ _ W (hW.has h.has (fun x => x)) rfl (fun W' hW' => seesX h hwf (first + j) hi W' (hW.trans hW')))
 have HB := hide hB
 have hbl := h.has.lt
 have hml := (Array.getElem?_eq_some_iff.1 h.map).1
 have H0 := hide h
 have mA : Mod No w ((w.alloc (.cells #[.int .i64 r, .int .i64 c, .int .i64 e] 43)).alloc (.cells #[.slice none 0 0, .int .i64 0, .int .i64 0, .int .i64 0, .bool false] 146)) := ((Mod.refl _ w).alloc _).alloc _
 have MA := hide mA
 have nR := Has.new (w.alloc (.cells #[.int .i64 r, .int .i64 c, .int .i64 e] 43)) #[.slice none 0 0, .int .i64 0, .int .i64 0, .int .i64 0, .bool false] 146
 rw [World.size_alloc] at nR
 have NR := hide nR
 have NC := hide ((Has.new w #[.int .i64 r, .int .i64 c, .int .i64 e] 43).alloc (.cells #[.slice none 0 0, .int .i64 0, .int .i64 0, .int .i64 0, .bool false] 146))
 have h1 : ¬ size < 1 := by omega
 have h2 : ¬ size > 30 := by omega
 have HDL := hide hDl
 have HL120 := hide hl120
 have HMORE := hide (show decide ((first : Int) + (D.length : Int) < (l.length : Int)) = decide (first + D.length < l.length) from decide_eq_decide.2 (by omega))
 clear hB h hwf hBd hlen hget hwz hC mA nR hs hD hDl
 go_enter Tryz.func92, Tryz.ntmps92
 go_wp2_with fail
 refine ((unhide HB) _ (unhide MA)).mono ?_
 rintro e1 w1 ⟨rfl, m1⟩
 have R1 := hide (m1.has (unhide NR) (fun x => x))
 have C1 := hide (m1.has (unhide NC) (fun x => x))
 have M1 := hide ((unhide MA).trans m1)
 clear m1 HB MA NR NC
 go_wp2_with fail
 refine ((unhide HS) _ (unhide M1)).mono ?_
 rintro e2 w2 ⟨rfl, n2, rfl⟩
 have R2 := hide ((unhide R1).drewN n2)
 have C2 := hide ((unhide C1).drewN n2)
 have M2 := hide ((unhide M1).drewN n2)
 clear R1 C1 M1
 generalize w1.drewN n2 = w2 at *
 have X2 := hide (show FlX w2 b p l m es clock from ⟨(unhide M2).has (unhide H0).has (fun x => x), (unhide M2).map (unhide H0).map (fun x => x), (unhide H0).ok, (unhide H0).rel⟩)
 obtain ⟨c24, z24, l24⟩ := (unhide X2).ep
 have b2 := (unhide C2).cell
 have lb2 := (unhide C2).lt
 go_wp2_with fail
 go_cut [11] (fun s wx => ∃ pb, s = .pointer (some ⟨pb, 0, none⟩) ∧ Hid (PgI w wx b m clock pb p l es D r c (decide ((first : Int) + (D.length : Int) < (l.length : Int))) (.slice none 0 0) 0 0))
 case first =>
  have X3 := hide (show FlX w2.drew b p l m es clock from ⟨(unhide X2).has.drew, (unhide X2).map, (unhide X2).ok, (unhide X2).rel⟩)
  have AA := hide fun (W : World) (n : Nat) (hW : W = w2.drew.drewN n) => drawn_all (pb := w.heap.size) hW (unhide X3) (unhide M2).drew (unhide C2).drew (unhide R2).drew (unhide C2).drew
  have mZ := (Mod.refl No w2).alloc (.cells #[.slice none 0 0, .int .i64 0, .int .i64 0, .int .i64 0, .bool false] 146)
  have BB := hide fun (W : World) (n : Nat) (hW : W = (w2.alloc (.cells #[.slice none 0 0, .int .i64 0, .int .i64 0, .int .i64 0, .bool false] 146)).drew.drewN n) =>
   drawn_all hW (show FlX (w2.alloc (.cells #[.slice none 0 0, .int .i64 0, .int .i64 0, .int .i64 0, .bool false] 146)).drew b p l m es clock from ⟨(mZ.has (unhide X2).has (fun x => x)).drew, mZ.map (unhide X2).map (fun x => x), (unhide X2).ok, (unhide X2).rel⟩)
    ((unhide M2).trans mZ).drew (mZ.has (unhide C2) (fun x => x)).drew (mZ.has (unhide R2) (fun x => x)).drew (Has.new w2 _ _).drew
  have LZ := hide (show w.heap.size ≤ w2.heap.size ∧ w2.heap.size ≠ w.heap.size + 1 from ⟨(unhide M2).size, by have := (unhide R2).lt; omega⟩)
  have HBL := hide hbl
  have HML := hide hml
  clear mZ
  go_region_with (first
   |(go_at_call 112; refine ((unhide HS) _ (unhide M2).drew).mono ?_; rintro e5 w5 ⟨rfl, n5, hw5⟩; obtain ⟨x5, m5, c5, r5, p5⟩ := (unhide AA) _ n5 hw5; have X5 := hide x5; have M5 := hide m5; have R5 := hide r5; have P5 := hide p5; have b5 := c5.cell; have lb5 := c5.lt; obtain ⟨c245, z245, l245⟩ := x5.ep; clear hw5 x5 m5 c5 r5 p5)
   |(go_at_call 112; refine ((unhide HS) _ ((unhide M2).alloc _).drew).mono ?_; rintro e5 w5 ⟨rfl, n5, hw5⟩; obtain ⟨x5, m5, c5, r5, p5⟩ := (unhide BB) _ n5 hw5; have X5 := hide x5; have M5 := hide m5; have R5 := hide r5; have P5 := hide p5; have b5 := c5.cell; have lb5 := c5.lt; have p5c := p5.cell; have p5f := p5.frozen; have p5l := p5.lt; obtain ⟨c245, z245, l245⟩ := x5.ep; clear hw5 x5 m5 c5 r5 p5))
  all_goals go_wp2
  all_goals go_meet
  all_goals refine ⟨_, rfl, hide ?_⟩
  all_goals first
   | with_reducible exact PgI.start (unhide X5) (unhide M5) (unhide R5) D r c _
   | with_reducible exact PgI.start2 (unhide X5) (unhide M5) (unhide R5) (unhide P5) (unhide LZ) (unhide HBL) (unhide HML) D r c _
 case rest =>
  obtain ⟨pb, rfl, hI⟩ := hcut
  obtain ⟨i114, q0, q1, q2, q3⟩ := info_parts info114
  rw [unhide HMORE] at hI
  generalize hmo : decide (first + D.length < l.length) = more at *
  have HMO := hide hmo
  clear hmo
  clear X2 C2 R2 M2 c24 z24 l24 b2 lb2 HMORE H0
  go_wp2_with fail
  go_loopw [12] (fun s wx => ∃ (i : Nat) (v : Value), s = .int .i64 ((first : Int) + (i : Int)) ∧ i ≤ D.length ∧ Hid (PgI w wx b m clock pb p l es D r c more v i i)) (fun s _ => first + D.length - (intOf s).toNat)
  case atStart => exact ⟨0, .slice none 0 0, by simp, Nat.zero_le _, hI⟩
  case round =>
   obtain ⟨i, v, rfl, hi, I⟩ := hrel
   by_cases hlt : i < D.length
   ·have hlt1 : (first : Int) + (i : Int) < (first : Int) + (D.length : Int) := by omega
    have hlt2 : (i : Int) < (D.length : Int) := by omega
    have HP1 := hide fun W (hW : Mod No w W) => (unhide HP) W hW i hlt
    have HT1 := hide fun W (hW : Mod No w W) => (unhide HT) W hW i hlt
    have HLT := hide hlt
    have H30 := hide (show i + 1 ≤ 120 from by have := unhide HDL; have := unhide HL120; omega)
    have HPUT := hide fun (wr w3 : World) (v v' : Value) (h : PgI w wr b m clock pb p l es D r c more v i i) (o : Obj) ho hg hs => (h.put hlt o (v' := v') (w3 := w3) ho hg hs hbl hml)
    have HEND := hide fun (wr : World) (v : Value) (h : PgI w wr b m clock pb p l es D r c more v (i + 1) i) => h.end_ hlt hbl hml
    generalize hsd : D[i] = sd at *
    clear hsd
    go_wp2_with fail
    refine ((unhide HP1) _ (unhide I).mod).mono ?_
    rintro e3 w3 ⟨rfl, m3⟩
    have I3 := hide ((unhide I).still m3)
    obtain ⟨a2, c2, rfl⟩ := slice_of_owns (unhide I3).row
    clear m3 I
    go_upto_region 12 with fail
    have m4 : Mod No w3 (w3.alloc (.cells #[.int .i64 sd.row, .int .i64 sd.col] 36)) := (Mod.refl _ w3).alloc _
    have I4 := hide ((unhide I3).still m4)
    have B4 := hide (Has.new w3 #[.int .i64 sd.row, .int .i64 sd.col] 36)
    have NB := hide (show Option.some w3.heap.size ≠ (Value.slice a2 i c2).ownBlock from fun e => by
     have := owns_lt (unhide I3).row _ e.symm
     omega)
    have NP := hide (show Option.some pb ≠ (Value.slice a2 i c2).ownBlock from fun e => ((unhide I3).new pb e.symm).2.1 rfl)
    have NBP := hide (show ¬ w3.heap.size = pb from fun e => by have := (unhide I3).page.lt; omega)
    generalize w3.alloc (.cells #[.int .i64 sd.row, .int .i64 sd.col] 36) = w4 at *
    generalize w3.heap.size = sb at *
    clear m4 I3
    go_cut [] (fun wx => Hid (∃ a c', PgI w wx b m clock pb p l es D r c more (.slice a (i + 1) c') (i + 1) i) ∧ Hid (Has wx sb #[.int .i64 sd.row, .int .i64 sd.col] 36))
    case first =>
     have pc4 := (unhide I4).page.cell
     have pf4 := (unhide I4).page.frozen
     have pl4 := (unhide I4).page.lt
     have bc4 := (unhide B4).cell
     have bl4 := (unhide B4).lt
     have I4d := hide ((unhide I4).still (Mod.refl No w4).drew)
     have B4d := hide (unhide B4).drew
     go_region_law (first
      |(refine step_call rfl 115 _ _ rfl #[.pointer (some ⟨b, 0, none⟩), .agg #[.int .i64 sd.row, .int .i64 sd.col]] (by simp [Act.eval, Act.put]) (fun W => by kernel_rfl) _ _ ((unhide HT1) _ (unhide I4d).mod) ?_; intro w5 hm5; have I5 := hide ((unhide I4d).still hm5); have B5 := hide (hm5.has (unhide B4d) (fun x => x)); have pc5 := (unhide I5).page.cell; have pf5 := (unhide I5).page.frozen; have pl5 := (unhide I5).page.lt; clear hm5)
      |(refine step_append_row rfl (.tmp 59) (.tmp 63) 61 rfl 63 i114 _ 6 48 Tryz.underlying61 q0 q1 q2 q3 rfl (by decide) (.slice a2 i c2) i _ (by simp [Act.eval, Act.put]) (by exact ((unhide I5).still ((Mod.refl No w5).alloc _)).row) (.slice (some ⟨w5.heap.size, 0, none⟩) 1 1) 1 (seaL sd) (by simp [Act.eval, Act.put]) (by exact reads_new w5 sd) rfl (by intro u hu; simp [seaL, seaV] at hu; rcases hu with rfl | rfl | rfl | rfl | rfl | rfl <;> rfl) (by unfold maxLen; have := unhide H30; omega) (by have := unhide H30; omega) ?_; intro v' w6 ho6 hg6 hs6; obtain ⟨a6, c6, rfl⟩ := slice_of_owns ho6; have pc6 := (Has.grown (((Mod.refl No w5).alloc _).has (unhide I5).page (fun x => x)) hg6 (unhide NP)).cell; have pf6 := (Has.grown (((Mod.refl No w5).alloc _).has (unhide I5).page (fun x => x)) hg6 (unhide NP)).frozen; have pl6 := (Has.grown (((Mod.refl No w5).alloc _).has (unhide I5).page (fun x => x)) hg6 (unhide NP)).lt; have B6 := hide (Has.grown (((Mod.refl No w5).alloc _).has (unhide B5) (fun x => x)) hg6 (unhide NB))))
     all_goals go_wp2
     all_goals go_meet
     all_goals exact ⟨hide ⟨a6, c6, (unhide HPUT) w5 w6 _ _ (unhide I5) _ ho6 hg6 hs6⟩, hide (((Mod.refl (fun k => k = pb) w6).at 0 _).has (unhide B6) (unhide NBP))⟩
    case rest =>
     obtain ⟨hI6, B6⟩ := hcut
     obtain ⟨a6, c6, hI6⟩ := unhide hI6
     have I6 := hide hI6
     have pc6 := hI6.page.cell
     have pf6 := hI6.page.frozen
     have pl6 := hI6.page.lt
     have bc6 := (unhide B6).cell
     have bl6 := (unhide B6).lt
     have hw4 : IntKind.i64.wrap ((first : Int) + (i : Int) + 1) = (first : Int) + ((i + 1 : Nat) : Int) := by
      have := unhide HL120
      have := unhide H30
      rw [wrap_id _ (by omega) (by omega)]
      omega
     clear hI6 I4 B4
     go_wp2
     exact ⟨⟨i + 1, _, rfl, unhide HLT, hide ((unhide HEND) _ _ (unhide I6))⟩, by simp [intOf]; have := unhide HLT; omega⟩
   ·have hlt1 : ¬ ((first : Int) + (i : Int) < (first : Int) + (D.length : Int)) := by omega
    have hlt2 : ¬ ((i : Int) < (D.length : Int)) := by omega
    have e : i = D.length := by omega
    have HI := hide e
    obtain ⟨a2, c2, rfl⟩ := slice_of_owns (unhide I).row
    have pc := (unhide I).page.cell
    have pl := (unhide I).page.lt
    have d0 : wr.cell? ⟨w.heap.size + 1, 0, none⟩ = some (.slice none 0 0) := (unhide I).res.cell 0
    have d1 : wr.cell? ⟨w.heap.size + 1, 1, none⟩ = some (.int .i64 0) := (unhide I).res.cell 1
    have d2 : wr.cell? ⟨w.heap.size + 1, 2, none⟩ = some (.int .i64 0) := (unhide I).res.cell 2
    have d3 : wr.cell? ⟨w.heap.size + 1, 3, none⟩ = some (.int .i64 0) := (unhide I).res.cell 3
    have d4 : wr.cell? ⟨w.heap.size + 1, 4, none⟩ = some (.bool false) := (unhide I).res.cell 4
    have f1 := (unhide I).res.frozen
    have l1 := (unhide I).res.lt
    clear e
    go_wp2
    refine bodyPost_ret (by simp [results, Tryz.results92, go_sem, d0, d1, d2, d3, d4]; try rfl) rfl ?_
    have e := unhide HI
    subst e
    have hp : ∀ o, No (⟨w.heap.size + 1, o, none⟩ : Addr).block ∨ w.heap.size ≤ (⟨w.heap.size + 1, o, none⟩ : Addr).block := fun o => .inr (by simp)
    have hrow := (unhide I).row
    have hpg := (unhide I).page
    rw [List.take_length] at hrow hpg
    refine ⟨⟨_, by have hmo := unhide HMO; subst hmo; rw [List.take_length], ?_, fun k hk => ((unhide I).new k hk).1⟩, (((((unhide I).mod.setCell (hp 0) _).setCell (hp 1) _).setCell (hp 2) _).setCell (hp 3) _).setCell (hp 4) _⟩
    exact ((((Mod.refl (fun k => k = w.heap.size + 1) wr).at 0 _).at 1 _).at 2 _ |>.at 3 _ |>.at 4 _).owns hrow (fun k hk e => ((unhide I).new k hk).2.2 e)
set_option maxHeartbeats 4000000
def ptrTo (b : Nat) : Value := .pointer (some ⟨b, 0, none⟩)
def farX (who : Nat → Nat) (yb : Nat) (lv : Value) : Nat → Prop := fun k => who k ≠ 0 ∨ k = yb ∨ lv.ownBlock = some k
structure PlayX (P : Nat → OneI → Prop) (B : World → (Nat → Prop) → Prop) (w0 w : World) (who : Nat → Nat) (yb : Nat) (lv av bv : Value) (os : List Nat) (n : Nat) : Prop where
 has : Has w yb #[lv, av, bv] 34
 row : w.ownsRow 0 48 1 lv os.length (os.map ptrTo)
 ones : ∀ j (hj : j < os.length), ∃ I, OneX w (fun k => who k = j + 1) os[j] I ∧ P n I
 wlt : ∀ k, who k ≠ 0 → w0.heap.size ≤ k ∧ k < w.heap.size
 yb0 : who yb = 0 ∧ w0.heap.size ≤ yb
 lv0 : ∀ k, lv.ownBlock = some k → who k = 0 ∧ w0.heap.size ≤ k ∧ k ≠ yb
 cnt : os.length ≤ n
 top : ∀ k, who k ≤ os.length
 mod : Mod No w0 w
 book : B w (farX who yb lv)
def BookOk (B : World → (Nat → Prop) → Prop) : Prop := ∀ w w' F F', B w F → Mod F w w' → (∀ k, k < w.heap.size → F' k → F k) → B w' F'
theorem PlayX.still {P : Nat → OneI → Prop} {B : World → (Nat → Prop) → Prop} (hB : BookOk B) {w0 w w' : World} {who : Nat → Nat} {yb : Nat} {lv av bv : Value} {os : List Nat} {n : Nat} (h : PlayX P B w0 w who yb lv av bv os n) (hm : Mod No w w') : PlayX P B w0 w' who yb lv av bv os n :=
 ⟨hm.has h.has (fun x => x), hm.owns h.row (fun _ _ x => x), fun j hj => by
  obtain ⟨I, h1, h2⟩ := h.ones j hj
  exact ⟨I, h1.mod hm (fun _ _ x => x), h2⟩, fun k hk => ⟨(h.wlt k hk).1, Nat.lt_of_lt_of_le (h.wlt k hk).2 hm.size⟩, h.yb0, h.lv0, h.cnt, h.top, h.mod.trans hm, hB _ _ _ _ h.book (hm.mono (fun _ _ x => x.elim)) (fun _ _ x => x)⟩
theorem PlayX.more {P : Nat → OneI → Prop} {B : World → (Nat → Prop) → Prop} (hP : ∀ n I, P n I → P (n + 1) I) {w0 w : World} {who : Nat → Nat} {yb : Nat} {lv av bv : Value} {os : List Nat} {n : Nat} (h : PlayX P B w0 w who yb lv av bv os n) : PlayX P B w0 w who yb lv av bv os (n + 1) :=
 ⟨h.has, h.row, fun j hj => by
  obtain ⟨I, h1, h2⟩ := h.ones j hj
  exact ⟨I, h1, hP _ _ h2⟩, h.wlt, h.yb0, h.lv0, by have := h.cnt; omega, h.top, h.mod, h.book⟩
theorem OneX.owns {w : World} {O O' : Nat → Prop} {ob : Nat} {I : OneI} (h : OneX w O ob I) (hO : ∀ k, O k ↔ O' k) : OneX w O' ob I := by
 have : O = O' := funext fun k => propext (hO k)
 rw [← this]
 exact h
theorem PlayX.step {P : Nat → OneI → Prop} {B : World → (Nat → Prop) → Prop} (hB : BookOk B) (hP : ∀ n I, P n I → P (n + 1) I) {w0 w w' : World} {who : Nat → Nat} {yb : Nat} {lv av bv : Value} {os : List Nat} {n j : Nat} (h : PlayX P B w0 w who yb lv av bv os n) (hj : j < os.length) {R : OneI → Prop} (hR : ∀ I', R I' → P (n + 1) I') (hd : OneD w w' (fun k => who k = j + 1) os[j] R) :
  ∃ who', PlayX P B w0 w' who' yb lv av bv os (n + 1) ∧ ∀ k, k < w.heap.size → who' k = who k := by
 obtain ⟨⟨I', h1, h2⟩, hm⟩ := hd
 have hz : ∀ k, w.heap.size ≤ k → who k = 0 := fun k hk => by
  by_cases e : who k = 0
  ·exact e
  ·have := (h.wlt k e).2; omega
 have hyb := h.has.lt
 refine ⟨fun k => if w.heap.size ≤ k ∧ k < w'.heap.size then j + 1 else who k, ⟨hm.has h.has (by rw [h.yb0.1]; omega), hm.owns h.row (fun k hk => by rw [(h.lv0 k hk).1]; omega), fun i hi => ?_, fun k hk => ?_, ?_, fun k hk => ?_, by have := h.cnt; omega, fun k => ?_, h.mod.trans' hm (fun k hk hl => by have := (h.wlt k (by rw [hk]; omega)).1; omega), hB _ _ _ _ h.book (hm.mono (fun k _ (e : who k = j + 1) => Or.inl (by omega))) (fun k hk => by unfold farX; simp only [if_neg (show ¬ (w.heap.size ≤ k ∧ k < w'.heap.size) by omega)]; exact id)⟩, fun k hk => if_neg (by omega)⟩
 ·by_cases e : i = j
  ·subst e
   refine ⟨I', h1.owns (fun k => ?_), hR _ h2⟩
   unfold grow
   by_cases c : w.heap.size ≤ k ∧ k < w'.heap.size
   ·simp only [if_pos c]
    exact ⟨fun _ => trivial, fun _ => .inr c⟩
   ·simp only [if_neg c]
    exact ⟨fun x => x.elim (fun y => y) (fun y => absurd y c), fun x => .inl x⟩
  ·obtain ⟨J, q1, q2⟩ := h.ones i hi
   refine ⟨J, (q1.mod hm (fun k hk x => by omega)).owns (fun k => ?_), hP _ _ q2⟩
   by_cases c : w.heap.size ≤ k ∧ k < w'.heap.size
   ·simp only [if_pos c]
    have := hz k c.1
    omega
   ·simp only [if_neg c]
 ·have hk : (if w.heap.size ≤ k ∧ k < w'.heap.size then j + 1 else who k) ≠ 0 := hk
  by_cases c : w.heap.size ≤ k ∧ k < w'.heap.size
  ·exact ⟨by have := h.mod.size; omega, c.2⟩
  ·rw [if_neg c] at hk
   exact ⟨(h.wlt k hk).1, Nat.lt_of_lt_of_le (h.wlt k hk).2 hm.size⟩
 ·rw [if_neg (by omega)]
  exact h.yb0
 ·have hlt := owns_lt h.row k hk
  show (if w.heap.size ≤ k ∧ k < w'.heap.size then j + 1 else who k) = 0 ∧ _
  rw [if_neg (by omega)]
  exact h.lv0 k hk
 ·show (if w.heap.size ≤ k ∧ k < w'.heap.size then j + 1 else who k) ≤ _
  have := h.top k
  split <;> omega
theorem PlayX.add {P : Nat → OneI → Prop} {B : World → (Nat → Prop) → Prop} (hB : BookOk B) (hP : ∀ n I, P n I → P (n + 1) I) {w0 w w' : World} {who : Nat → Nat} {yb ob : Nat} {lv lv' av bv : Value} {os : List Nat} {n : Nat} (h : PlayX P B w0 w who yb lv av bv os n) {O : Nat → Prop} {I : OneI} (hI : P (n + 1) I) (h1 : OneX w' O ob I) (hO : ∀ k, O k → w.heap.size ≤ k)
  (hm : Mod (fun k => k = yb ∨ lv.ownBlock = some k) w w') (hh : Has w' yb #[lv', av, bv] 34) (hr : w'.ownsRow 0 48 1 lv' (os.length + 1) (os.map ptrTo ++ [ptrTo ob])) (hl : ∀ k, lv'.ownBlock = some k → ¬ O k ∧ (lv.ownBlock = some k ∨ w.heap.size ≤ k)) :
  ∃ who', PlayX P B w0 w' who' yb lv' av bv (os ++ [ob]) (n + 1) ∧ ∀ k, k < w.heap.size → who' k = who k := by
 classical
 have hz : ∀ k, w.heap.size ≤ k → who k = 0 := fun k hk => by
  by_cases e : who k = 0
  ·exact e
  ·have := (h.wlt k e).2; omega
 have hyb := h.has.lt
 have hno : ∀ k, who k ≠ 0 → ¬ (k = yb ∨ lv.ownBlock = some k) := fun k hk e => by
  rcases e with rfl | e
  ·exact hk h.yb0.1
  ·exact hk (h.lv0 k e).1
 refine ⟨fun k => if O k then os.length + 1 else who k, ⟨hh, ?_, fun i hi => ?_, fun k hk => ?_, ?_, fun k hk => ?_, ?_, fun k => ?_, ?_, hB _ _ _ _ h.book (hm.mono (fun k _ e => Or.inr e)) (fun k hk e => by
  have hn : ¬ O k := fun e => by have := hO k e; omega
  unfold farX at e ⊢
  simp only [if_neg hn] at e
  rcases e with e | e | e
  ·exact .inl e
  ·exact .inr (.inl e)
  ·rcases (hl k e).2 with q | q
   ·exact .inr (.inr q)
   ·omega)⟩, fun k hk => if_neg (fun e => by have := hO k e; omega)⟩
 ·rw [List.length_append, List.map_append]
  exact hr
 ·by_cases e : i < os.length
  ·obtain ⟨J, q1, q2⟩ := h.ones i e
   rw [List.getElem_append_left e]
   refine ⟨J, (q1.mod hm (fun k hk => hno k (by rw [hk]; omega))).owns (fun k => ?_), hP _ _ q2⟩
   by_cases c : O k
   ·simp only [if_pos c]
    have := hz k (hO k c)
    omega
   ·simp only [if_neg c]
  ·have ei : i = os.length := by simp at hi; omega
   subst ei
   have g : (os ++ [ob])[os.length]'hi = ob := by simp
   rw [g]
   refine ⟨I, h1.owns (fun k => ?_), hI⟩
   by_cases c : O k
   ·simp only [if_pos c]
    exact ⟨fun _ => trivial, fun _ => c⟩
   ·simp only [if_neg c]
    refine ⟨fun x => absurd x c, fun x => ?_⟩
    exfalso
    have := h.top k
    omega
 ·have hk : (if O k then os.length + 1 else who k) ≠ 0 := hk
  by_cases c : O k
  ·exact ⟨by have := hO k c; have := h.mod.size; omega, h1.lt k c⟩
  ·rw [if_neg c] at hk
   exact ⟨(h.wlt k hk).1, Nat.lt_of_lt_of_le (h.wlt k hk).2 hm.size⟩
 ·rw [if_neg (fun e => by have := hO yb e; omega)]
  exact h.yb0
 ·show (if O k then os.length + 1 else who k) = 0 ∧ _
  rw [if_neg (hl k hk).1]
  rcases (hl k hk).2 with e | e
  ·exact h.lv0 k e
  ·exact ⟨hz k e, by have := h.mod.size; omega, by omega⟩
 ·have := h.cnt
  simp only [List.length_append, List.length_cons, List.length_nil]
  omega
 ·show (if O k then os.length + 1 else who k) ≤ _
  have := h.top k
  simp only [List.length_append, List.length_cons, List.length_nil]
  split <;> omega
 ·refine h.mod.trans' hm (fun k hk hl => ?_)
  rcases hk with rfl | e
  ·have := h.yb0.2; omega
  ·have := (h.lv0 k e).2.1; omega
end Go.Proofs.YthhibagcpjeihaaGreat
