import Derived.Test.YthhibagcpjeihaaLDoesPToPg4
import Derived.Test.YthhibagcpjeihaaLKeep2ToSwap3
import Derived.Test.YthhibagcpjeihaaLOpenToWw1
namespace Go.Proofs.Ythhibagcpjeihaa
open Go.RowKit
open M
set_option linter.unusedVariables false
set_option linter.unusedSimpArgs false
set_option maxRecDepth 100000
set_option maxHeartbeats 8000000
attribute [local go_sem ↓] run_min2 run_max2
theorem PgI.start {w W : World} {b m clock : Nat} {p : Pla} {l : List Sea} {es : List MEnt} (h : FlX W b p l m es clock) (hm : Mod No w W) (hr : Has W (w.heap.size + 1) #[.slice none 0 0, .int .i64 0, .int .i64 0, .int .i64 0, .bool false] 65) (D : List Sea) (r c : Int) (more : Bool) :
  PgI w (W.alloc (.cells #[.slice none 0 0, .int .i64 r, .int .i64 c, .int .i64 p.ep, .bool more] 65)) b m clock W.heap.size p l es D r c more (.slice none 0 0) 0 0 := by
 have mA : Mod No W (W.alloc (.cells #[.slice none 0 0, .int .i64 r, .int .i64 c, .int .i64 p.ep, .bool more] 65)) := (Mod.refl _ _).alloc _
 refine ⟨⟨mA.has h.has (fun x => x), mA.map h.map (fun x => x), h.ok, h.rel⟩, Has.new W _ _, by simpa using World.ownsRow_nil _ _ _ _, fun k hk => by simp [Value.ownBlock] at hk, mA.has hr (fun x => x), ⟨hm.size, ?_⟩, hm.trans mA⟩
 have := hr.lt
 omega
theorem PgI.start2 {w W : World} {b m clock pb : Nat} {p : Pla} {l : List Sea} {es : List MEnt} (h : FlX W b p l m es clock) (hm : Mod No w W) (hr : Has W (w.heap.size + 1) #[.slice none 0 0, .int .i64 0, .int .i64 0, .int .i64 0, .bool false] 65)
  (hp : Has W pb #[.slice none 0 0, .int .i64 0, .int .i64 0, .int .i64 0, .bool false] 65) (hpb : w.heap.size ≤ pb ∧ pb ≠ w.heap.size + 1) (hb : b < w.heap.size) (hml : m < w.heap.size) (D : List Sea) (r c : Int) (more : Bool) :
  PgI w (((((W.setCell ⟨pb, 0, none⟩ (.slice none 0 0)).setCell ⟨pb, 1, none⟩ (.int .i64 r)).setCell ⟨pb, 2, none⟩ (.int .i64 c)).setCell ⟨pb, 3, none⟩ (.int .i64 p.ep)).setCell ⟨pb, 4, none⟩ (.bool more)) b m clock pb p l es D r c more (.slice none 0 0) 0 0 := by
 have m1 : Mod (fun k => k = pb) W (((((W.setCell ⟨pb, 0, none⟩ (.slice none 0 0)).setCell ⟨pb, 1, none⟩ (.int .i64 r)).setCell ⟨pb, 2, none⟩ (.int .i64 c)).setCell ⟨pb, 3, none⟩ (.int .i64 p.ep)).setCell ⟨pb, 4, none⟩ (.bool more)) := (((((Mod.refl _ W).at 0 _).at 1 _).at 2 _).at 3 _).at 4 _
 exact ⟨⟨m1.has h.has (by omega), m1.map h.map (by omega), h.ok, h.rel⟩, ((((hp.set 0 _).set 1 _).set 2 _).set 3 _).set 4 _, by simpa using World.ownsRow_nil _ _ _ _, fun k hk => by simp [Value.ownBlock] at hk, m1.has hr (by omega), hpb, hm.trans' m1 (fun i hi hl => by omega)⟩
theorem owns_lt {w : World} {e : TypeId} {n m : Nat} {v : Value} {xs : List Value} (h : w.ownsRow 0 e n v m xs) (k : Nat) (hk : v.ownBlock = some k) : k < w.heap.size := by
 obtain ⟨_, h1 | ⟨g, cap, cur, rfl, hb, hg, _⟩⟩ := h
 ·rw [h1.1] at hk
  simp [Value.ownBlock] at hk
 ·simp [Value.ownBlock] at hk
  subst hk
  exact Has.lt hg
theorem reads_new (w : World) (s : Sea) : Reads (w.alloc (.cells #[.int .i64 s.row, .int .i64 s.col, .int .i64 s.st, .int .i64 s.pa, .int .i64 s.cl, .int .i64 s.un] 61)) (.slice (some ⟨w.heap.size, 0, none⟩) 1 1) 1 (seaL s) :=
 .inr ⟨⟨w.heap.size, 0, none⟩, 1, rfl, fun j u hu => by
  have hN := Has.new w #[.int .i64 s.row, .int .i64 s.col, .int .i64 s.st, .int .i64 s.pa, .int .i64 s.cl, .int .i64 s.un] 61
  rw [Addr.add_mid, Nat.zero_add, hN.cell, ← Array.getElem?_toList]
  exact hu⟩
theorem drawn_all {w W W' : World} {b m clock cb rb pb : Nat} {p : Pla} {l : List Sea} {es : List MEnt} {cc cr cp : Array Value} {TC TR TP : TypeId} {n : Nat} (hw : W' = W.drewN n) (h : FlX W b p l m es clock) (hm : Mod No w W) (hc : Has W cb cc TC) (hr : Has W rb cr TR) (hp : Has W pb cp TP) :
  FlX W' b p l m es clock ∧ Mod No w W' ∧ Has W' cb cc TC ∧ Has W' rb cr TR ∧ Has W' pb cp TP := by
 subst hw
 exact ⟨⟨h.has.drewN n, h.map, h.ok, h.rel⟩, hm.drewN n, hc.drewN n, hr.drewN n, hp.drewN n⟩
theorem page_walk {w : World} {b m clock : Nat} {p : Pla} {l : List Sea} {es : List MEnt} (h : FlX w b p l m es clock) (hwf : Wf p l) (r c e size : Int) (hs : 1 ≤ size ∧ size ≤ 30) (first : Nat) (hf : first ≤ l.length)
  (hB : ∀ W, Mod No w W → Calls Try.prog 66 #[.pointer (some ⟨b, 0, none⟩), .agg #[.int .i64 r, .int .i64 c, .int .i64 e]] W fun e' w' => e' = .returned (.tuple #[.int .i64 (first : Int), .int .i64 0]) ∧ Mod No W w')
  (D : List Sea) (hD : D = (l.drop first).take size.toNat) :
  Calls Try.prog 51 #[.pointer (some ⟨b, 0, none⟩), .agg #[.int .i64 r, .int .i64 c, .int .i64 e], .int .i64 size] w fun e w' => Told w w' e ⟨D, (lastAt r c D).1, (lastAt r c D).2, p.ep, decide (first + D.length < l.length), 0⟩ := by
 have hl120 : l.length ≤ 120 := Fli.wf.len_le hwf
 have hBd := hwf.bounds
 simp only at hBd
 have hlen := hwf.len
 simp only at hlen
 have hDl : D.length = min size.toNat (l.length - first) := by rw [hD, List.length_take, List.length_drop]
 have hget : ∀ j (hj : j < D.length), ∃ hi : first + j < l.length, l[first + j] = D[j] := fun j hj => by
  subst hD
  have : first + j < l.length := by omega
  refine ⟨this, ?_⟩
  rw [List.getElem_take, List.getElem_drop]
 have hmin : min ((first : Int) + size) (l.length : Int) = ((first + D.length : Nat) : Int) := by omega
 have hwz : IntKind.i64.wrap (p.rows * p.cols) = p.rows * p.cols := wrap_id _ (by omega) (by omega)
 have hw1 : IntKind.i64.wrap ((first : Int) + size) = (first : Int) + size := wrap_id _ (by omega) (by omega)
 have HS := hide fun W (hW : Mod No w W) => (show Calls Try.prog 67 #[.pointer (some ⟨b, 0, none⟩)] W fun e w' => e = .returned (.int .i64 (l.length : Int)) ∧ ∃ n, w' = W.drewN n from by
  have := size_draws b _ _ p.rows p.cols W (hW.has h.has (fun x => x)) rfl rfl hwz
  rw [← hlen] at this
  exact this)
 obtain ⟨C, hC⟩ : ∃ C : Nat, p.cols = (C : Int) := ⟨p.cols.toNat, by omega⟩
 have HP := hide fun W (hW : Mod No w W) (j : Nat) (hj : j < D.length) => (show Calls Try.prog 68 #[.pointer (some ⟨b, 0, none⟩), .int .i64 ((first : Int) + (j : Int))] W fun e w' => e = .returned (.agg #[.int .i64 D[j].row, .int .i64 D[j].col]) ∧ Mod No W w' from by
  obtain ⟨hi, hg⟩ := hget j hj
  have := placeAt_walk b _ _ C (first + j) W (hW.has h.has (fun x => x)) (by rw [← hC]; rfl) (by omega) (by omega)
  have hp := hwf.place (first + j) hi
  simp only at hp
  rw [← hg, hp.1, hp.2, hC, show (first : Int) + (j : Int) = ((first + j : Nat) : Int) by omega]
  exact this)
 have HT := hide fun W (hW : Mod No w W) (j : Nat) (hj : j < D.length) => (show Calls Try.prog 69 #[.pointer (some ⟨b, 0, none⟩), .agg #[.int .i64 D[j].row, .int .i64 D[j].col]] W fun e w' => e = .returned (.agg #[.int .i64 D[j].row, .int .i64 D[j].col, .int .i64 D[j].st, .int .i64 D[j].pa, .int .i64 D[j].cl, .int .i64 D[j].un]) ∧ Mod No W w' from by
  obtain ⟨hi, hg⟩ := hget j hj
  rw [← hg]
  exact tell_walk b m _ _ _ _ _ _ _ W (hW.has h.has (fun x => x)) rfl (fun W' hW' => seesX h hwf (first + j) hi W' (hW.trans hW')))
 have HB := hide hB
 have hbl := h.has.lt
 have hml := (Array.getElem?_eq_some_iff.1 h.map).1
 have H0 := hide h
 have mA : Mod No w ((w.alloc (.cells #[.int .i64 r, .int .i64 c, .int .i64 e] 63)).alloc (.cells #[.slice none 0 0, .int .i64 0, .int .i64 0, .int .i64 0, .bool false] 65)) := ((Mod.refl _ w).alloc _).alloc _
 have MA := hide mA
 have nR := Has.new (w.alloc (.cells #[.int .i64 r, .int .i64 c, .int .i64 e] 63)) #[.slice none 0 0, .int .i64 0, .int .i64 0, .int .i64 0, .bool false] 65
 rw [World.size_alloc] at nR
 have NR := hide nR
 have NC := hide ((Has.new w #[.int .i64 r, .int .i64 c, .int .i64 e] 63).alloc (.cells #[.slice none 0 0, .int .i64 0, .int .i64 0, .int .i64 0, .bool false] 65))
 have h1 : ¬ size < 1 := by omega
 have h2 : ¬ size > 30 := by omega
 have HDL := hide hDl
 have HL120 := hide hl120
 have HMORE := hide (show decide ((first : Int) + (D.length : Int) < (l.length : Int)) = decide (first + D.length < l.length) from decide_eq_decide.2 (by omega))
 clear hB h hwf hBd hlen hget hwz hC mA nR hs hD hDl
 go_enter Try.func51, Try.ntmps51
 go_wp2_with fail
 refine ((unhide HB) _ (unhide MA)).mono ?_
 rintro e1 w1 ⟨rfl, m1⟩
 have R1 := hide (m1.has (unhide NR) (fun x => x))
 have C1 := hide (m1.has (unhide NC) (fun x => x))
 have M1 := hide ((unhide MA).trans m1)
 clear m1 HB MA NR NC
 go_wp2_with fail
 refine ((unhide HS) _ (unhide M1)).mono ?_
 rintro e2 w2 ⟨rfl, n2, rfl⟩
 have R2 := hide ((unhide R1).drewN n2)
 have C2 := hide ((unhide C1).drewN n2)
 have M2 := hide ((unhide M1).drewN n2)
 clear R1 C1 M1
 generalize w1.drewN n2 = w2 at *
 have X2 := hide (show FlX w2 b p l m es clock from ⟨(unhide M2).has (unhide H0).has (fun x => x), (unhide M2).map (unhide H0).map (fun x => x), (unhide H0).ok, (unhide H0).rel⟩)
 obtain ⟨c24, z24, l24⟩ := (unhide X2).ep
 have b2 := (unhide C2).cell
 have lb2 := (unhide C2).lt
 go_wp2_with fail
 go_cut [11] (fun s wx => ∃ pb, s = .pointer (some ⟨pb, 0, none⟩) ∧ Hid (PgI w wx b m clock pb p l es D r c (decide ((first : Int) + (D.length : Int) < (l.length : Int))) (.slice none 0 0) 0 0))
 case first =>
  have X3 := hide (show FlX w2.drew b p l m es clock from ⟨(unhide X2).has.drew, (unhide X2).map, (unhide X2).ok, (unhide X2).rel⟩)
  have AA := hide fun (W : World) (n : Nat) (hW : W = w2.drew.drewN n) => drawn_all (pb := w.heap.size) hW (unhide X3) (unhide M2).drew (unhide C2).drew (unhide R2).drew (unhide C2).drew
  have mZ := (Mod.refl No w2).alloc (.cells #[.slice none 0 0, .int .i64 0, .int .i64 0, .int .i64 0, .bool false] 65)
  have BB := hide fun (W : World) (n : Nat) (hW : W = (w2.alloc (.cells #[.slice none 0 0, .int .i64 0, .int .i64 0, .int .i64 0, .bool false] 65)).drew.drewN n) =>
   drawn_all hW (show FlX (w2.alloc (.cells #[.slice none 0 0, .int .i64 0, .int .i64 0, .int .i64 0, .bool false] 65)).drew b p l m es clock from ⟨(mZ.has (unhide X2).has (fun x => x)).drew, mZ.map (unhide X2).map (fun x => x), (unhide X2).ok, (unhide X2).rel⟩)
    ((unhide M2).trans mZ).drew (mZ.has (unhide C2) (fun x => x)).drew (mZ.has (unhide R2) (fun x => x)).drew (Has.new w2 _ _).drew
  have LZ := hide (show w.heap.size ≤ w2.heap.size ∧ w2.heap.size ≠ w.heap.size + 1 from ⟨(unhide M2).size, by have := (unhide R2).lt; omega⟩)
  have HBL := hide hbl
  have HML := hide hml
  clear mZ
  go_region_with (first
   |(go_at_call 67; refine ((unhide HS) _ (unhide M2).drew).mono ?_; rintro e5 w5 ⟨rfl, n5, hw5⟩; obtain ⟨x5, m5, c5, r5, p5⟩ := (unhide AA) _ n5 hw5; have X5 := hide x5; have M5 := hide m5; have R5 := hide r5; have P5 := hide p5; have b5 := c5.cell; have lb5 := c5.lt; obtain ⟨c245, z245, l245⟩ := x5.ep; clear hw5 x5 m5 c5 r5 p5)
   |(go_at_call 67; refine ((unhide HS) _ ((unhide M2).alloc _).drew).mono ?_; rintro e5 w5 ⟨rfl, n5, hw5⟩; obtain ⟨x5, m5, c5, r5, p5⟩ := (unhide BB) _ n5 hw5; have X5 := hide x5; have M5 := hide m5; have R5 := hide r5; have P5 := hide p5; have b5 := c5.cell; have lb5 := c5.lt; have p5c := p5.cell; have p5f := p5.frozen; have p5l := p5.lt; obtain ⟨c245, z245, l245⟩ := x5.ep; clear hw5 x5 m5 c5 r5 p5))
  all_goals go_wp2
  all_goals go_meet
  all_goals refine ⟨_, rfl, hide ?_⟩
  all_goals first
   | with_reducible exact PgI.start (unhide X5) (unhide M5) (unhide R5) D r c _
   | with_reducible exact PgI.start2 (unhide X5) (unhide M5) (unhide R5) (unhide P5) (unhide LZ) (unhide HBL) (unhide HML) D r c _
 case rest =>
  obtain ⟨pb, rfl, hI⟩ := hcut
  obtain ⟨i114, q0, q1, q2, q3⟩ := info_parts info114
  rw [unhide HMORE] at hI
  generalize hmo : decide (first + D.length < l.length) = more at *
  have HMO := hide hmo
  clear hmo
  clear X2 C2 R2 M2 c24 z24 l24 b2 lb2 HMORE H0
  go_wp2_with fail
  go_loopw [12] (fun s wx => ∃ (i : Nat) (v : Value), s = .int .i64 ((first : Int) + (i : Int)) ∧ i ≤ D.length ∧ Hid (PgI w wx b m clock pb p l es D r c more v i i)) (fun s _ => first + D.length - (intOf s).toNat)
  case atStart => exact ⟨0, .slice none 0 0, by simp, Nat.zero_le _, hI⟩
  case round =>
   obtain ⟨i, v, rfl, hi, I⟩ := hrel
   by_cases hlt : i < D.length
   ·have hlt1 : (first : Int) + (i : Int) < (first : Int) + (D.length : Int) := by omega
    have hlt2 : (i : Int) < (D.length : Int) := by omega
    have HP1 := hide fun W (hW : Mod No w W) => (unhide HP) W hW i hlt
    have HT1 := hide fun W (hW : Mod No w W) => (unhide HT) W hW i hlt
    have HLT := hide hlt
    have H30 := hide (show i + 1 ≤ 120 from by have := unhide HDL; have := unhide HL120; omega)
    have HPUT := hide fun (wr w3 : World) (v v' : Value) (h : PgI w wr b m clock pb p l es D r c more v i i) (o : Obj) ho hg hs => (h.put hlt o (v' := v') (w3 := w3) ho hg hs hbl hml)
    have HEND := hide fun (wr : World) (v : Value) (h : PgI w wr b m clock pb p l es D r c more v (i + 1) i) => h.end_ hlt hbl hml
    generalize hsd : D[i] = sd at *
    clear hsd
    go_wp2_with fail
    refine ((unhide HP1) _ (unhide I).mod).mono ?_
    rintro e3 w3 ⟨rfl, m3⟩
    have I3 := hide ((unhide I).still m3)
    obtain ⟨a2, c2, rfl⟩ := slice_of_owns (unhide I3).row
    clear m3 I
    go_upto_region 12 with fail
    have m4 : Mod No w3 (w3.alloc (.cells #[.int .i64 sd.row, .int .i64 sd.col] 32)) := (Mod.refl _ w3).alloc _
    have I4 := hide ((unhide I3).still m4)
    have B4 := hide (Has.new w3 #[.int .i64 sd.row, .int .i64 sd.col] 32)
    have NB := hide (show Option.some w3.heap.size ≠ (Value.slice a2 i c2).ownBlock from fun e => by
     have := owns_lt (unhide I3).row _ e.symm
     omega)
    have NP := hide (show Option.some pb ≠ (Value.slice a2 i c2).ownBlock from fun e => ((unhide I3).new pb e.symm).2.1 rfl)
    have NBP := hide (show ¬ w3.heap.size = pb from fun e => by have := (unhide I3).page.lt; omega)
    generalize w3.alloc (.cells #[.int .i64 sd.row, .int .i64 sd.col] 32) = w4 at *
    generalize w3.heap.size = sb at *
    clear m4 I3
    go_cut [] (fun wx => Hid (∃ a c', PgI w wx b m clock pb p l es D r c more (.slice a (i + 1) c') (i + 1) i) ∧ Hid (Has wx sb #[.int .i64 sd.row, .int .i64 sd.col] 32))
    case first =>
     have pc4 := (unhide I4).page.cell
     have pf4 := (unhide I4).page.frozen
     have pl4 := (unhide I4).page.lt
     have bc4 := (unhide B4).cell
     have bl4 := (unhide B4).lt
     have I4d := hide ((unhide I4).still (Mod.refl No w4).drew)
     have B4d := hide (unhide B4).drew
     go_region_law (first
      |(refine step_call rfl 69 _ _ rfl #[.pointer (some ⟨b, 0, none⟩), .agg #[.int .i64 sd.row, .int .i64 sd.col]] (by simp [Act.eval, Act.put]) (fun W => by kernel_rfl) _ _ ((unhide HT1) _ (unhide I4d).mod) ?_; intro w5 hm5; have I5 := hide ((unhide I4d).still hm5); have B5 := hide (hm5.has (unhide B4d) (fun x => x)); have pc5 := (unhide I5).page.cell; have pf5 := (unhide I5).page.frozen; have pl5 := (unhide I5).page.lt; clear hm5)
      |(refine step_append_row rfl (.tmp 59) (.tmp 63) 48 rfl 61 i114 _ 6 48 Try.underlying48 q0 q1 q2 q3 rfl (by decide) (.slice a2 i c2) i _ (by simp [Act.eval, Act.put]) (by exact ((unhide I5).still ((Mod.refl No w5).alloc _)).row) (.slice (some ⟨w5.heap.size, 0, none⟩) 1 1) 1 (seaL sd) (by simp [Act.eval, Act.put]) (by exact reads_new w5 sd) rfl (by intro u hu; simp [seaL, seaV] at hu; rcases hu with rfl | rfl | rfl | rfl | rfl | rfl <;> rfl) (by unfold maxLen; have := unhide H30; omega) (by have := unhide H30; omega) ?_; intro v' w6 ho6 hg6 hs6; obtain ⟨a6, c6, rfl⟩ := slice_of_owns ho6; have pc6 := (Has.grown (((Mod.refl No w5).alloc _).has (unhide I5).page (fun x => x)) hg6 (unhide NP)).cell; have pf6 := (Has.grown (((Mod.refl No w5).alloc _).has (unhide I5).page (fun x => x)) hg6 (unhide NP)).frozen; have pl6 := (Has.grown (((Mod.refl No w5).alloc _).has (unhide I5).page (fun x => x)) hg6 (unhide NP)).lt; have B6 := hide (Has.grown (((Mod.refl No w5).alloc _).has (unhide B5) (fun x => x)) hg6 (unhide NB))))
     all_goals go_wp2
     all_goals go_meet
     all_goals exact ⟨hide ⟨a6, c6, (unhide HPUT) w5 w6 _ _ (unhide I5) _ ho6 hg6 hs6⟩, hide (((Mod.refl (fun k => k = pb) w6).at 0 _).has (unhide B6) (unhide NBP))⟩
    case rest =>
     obtain ⟨hI6, B6⟩ := hcut
     obtain ⟨a6, c6, hI6⟩ := unhide hI6
     have I6 := hide hI6
     have pc6 := hI6.page.cell
     have pf6 := hI6.page.frozen
     have pl6 := hI6.page.lt
     have bc6 := (unhide B6).cell
     have bl6 := (unhide B6).lt
     have hw4 : IntKind.i64.wrap ((first : Int) + (i : Int) + 1) = (first : Int) + ((i + 1 : Nat) : Int) := by
      have := unhide HL120
      have := unhide H30
      rw [wrap_id _ (by omega) (by omega)]
      omega
     clear hI6 I4 B4
     go_wp2
     exact ⟨⟨i + 1, _, rfl, unhide HLT, hide ((unhide HEND) _ _ (unhide I6))⟩, by simp [intOf]; have := unhide HLT; omega⟩
   ·have hlt1 : ¬ ((first : Int) + (i : Int) < (first : Int) + (D.length : Int)) := by omega
    have hlt2 : ¬ ((i : Int) < (D.length : Int)) := by omega
    have e : i = D.length := by omega
    have HI := hide e
    obtain ⟨a2, c2, rfl⟩ := slice_of_owns (unhide I).row
    have pc := (unhide I).page.cell
    have pl := (unhide I).page.lt
    have d0 : wr.cell? ⟨w.heap.size + 1, 0, none⟩ = some (.slice none 0 0) := (unhide I).res.cell 0
    have d1 : wr.cell? ⟨w.heap.size + 1, 1, none⟩ = some (.int .i64 0) := (unhide I).res.cell 1
    have d2 : wr.cell? ⟨w.heap.size + 1, 2, none⟩ = some (.int .i64 0) := (unhide I).res.cell 2
    have d3 : wr.cell? ⟨w.heap.size + 1, 3, none⟩ = some (.int .i64 0) := (unhide I).res.cell 3
    have d4 : wr.cell? ⟨w.heap.size + 1, 4, none⟩ = some (.bool false) := (unhide I).res.cell 4
    have f1 := (unhide I).res.frozen
    have l1 := (unhide I).res.lt
    clear e
    go_wp2
    refine bodyPost_ret (by simp [results, Try.results51, go_sem, d0, d1, d2, d3, d4]; try rfl) rfl ?_
    have e := unhide HI
    subst e
    have hp : ∀ o, No (⟨w.heap.size + 1, o, none⟩ : Addr).block ∨ w.heap.size ≤ (⟨w.heap.size + 1, o, none⟩ : Addr).block := fun o => .inr (by simp)
    have hrow := (unhide I).row
    have hpg := (unhide I).page
    rw [List.take_length] at hrow hpg
    refine ⟨⟨_, by have hmo := unhide HMO; subst hmo; rw [List.take_length], ?_, fun k hk => ((unhide I).new k hk).1⟩, (((((unhide I).mod.setCell (hp 0) _).setCell (hp 1) _).setCell (hp 2) _).setCell (hp 3) _).setCell (hp 4) _⟩
    exact ((((Mod.refl (fun k => k = w.heap.size + 1) wr).at 0 _).at 1 _).at 2 _ |>.at 3 _ |>.at 4 _).owns hrow (fun k hk e => ((unhide I).new k hk).2.2 e)
set_option maxHeartbeats 2000000
theorem behindK_err {p : Pla} {r c e : Int} (h : (behindK p r c e).2 ≠ 0) : (behindK p r c e).1 = 0 := by
 unfold behindK at *
 split
 ·rfl
 ·split
  ·rfl
  ·split
   ·rfl
   ·rename_i h1 h2 h3
    rw [if_neg h1, if_neg h2, if_neg h3] at h
    exact absurd rfl h
theorem behindK_le {p : Pla} {l : List Sea} (hwf : Wf p l) (r c e : Int) : 0 ≤ (behindK p r c e).1 ∧ (behindK p r c e).1.toNat ≤ l.length := by
 unfold behindK
 split
 ·simp
 ·split
  ·simp
  ·split
   ·simp
   ·rename_i h1 h2 h3
    have := Fli.wf.idx_lt hwf (r := r) (c := c) (by simpa using h3)
    simp only at this ⊢
    omega
theorem page_any {w : World} {b m clock : Nat} {p : Pla} {l : List Sea} {es : List MEnt} (h : FlX w b p l m es clock) (hwf : Wf p l) (r c e size : Int) :
  Calls Try.prog 51 #[.pointer (some ⟨b, 0, none⟩), .agg #[.int .i64 r, .int .i64 c, .int .i64 e], .int .i64 size] w fun e' w' => Told w w' e' (pageK p l r c e size) := by
 unfold pageK
 by_cases hs : size < 1 ∨ size > 30
 ·rw [if_pos hs]
  exact page_size b r c e size hs w
 rw [if_neg hs]
 have hB : ∀ W, Mod No w W → Calls Try.prog 66 #[.pointer (some ⟨b, 0, none⟩), .agg #[.int .i64 r, .int .i64 c, .int .i64 e]] W fun e' w' => e' = .returned (.tuple #[.int .i64 (behindK p r c e).1, .int .i64 (behindK p r c e).2]) ∧ Mod No W w' :=
  fun W hW => behind_any (⟨hW.has h.has (fun x => x), hW.map h.map (fun x => x), h.ok, h.rel⟩ : FlX W b p l m es clock) hwf r c e
 by_cases hx : (behindK p r c e).2 ≠ 0
 ·rw [if_pos hx]
  refine page_stale b r c e size _ (by omega) hx w (fun W hW => ?_)
  have := hB W hW
  rw [behindK_err hx] at this
  exact this
 rw [if_neg hx]
 obtain ⟨h0, h1⟩ := behindK_le hwf r c e
 have hx0 : (behindK p r c e).2 = 0 := by omega
 refine page_walk h hwf r c e size (by omega) (behindK p r c e).1.toNat h1 (fun W hW => ?_) _ rfl
 have := hB W hW
 rw [hx0] at this
 rw [Int.toNat_of_nonneg h0]
 exact this
def seatsK (fl : Nat → Option (Pla × List Sea)) (n r c e size : Int) : PageR :=
 if ¬ (1 ≤ n ∧ n ≤ 20) then ⟨[], 0, 0, 0, false, 2⟩
 else match fl n.toNat with
  | none => ⟨[], 0, 0, 0, false, 2⟩
  | some x => pageK x.1 x.2 r c e size
theorem seats_none (kb : Nat) (n r c e size : Int) (w : World) (hF : ∀ W, Mod No w W → Calls Try.prog 44 #[.pointer (some ⟨kb, 0, none⟩), .int .i64 n] W fun e w' => e = .returned (.pointer none) ∧ w' = W) :
  Calls Try.prog 27 #[.pointer (some ⟨kb, 0, none⟩), .int .i64 n, .agg #[.int .i64 r, .int .i64 c, .int .i64 e], .int .i64 size] w fun e' w' => Told w w' e' ⟨[], 0, 0, 0, false, 2⟩ := by
 have HF := hide hF
 have mA : Mod No w ((w.alloc (.cells #[.int .i64 r, .int .i64 c, .int .i64 e] 63)).alloc (.cells #[.slice none 0 0, .int .i64 0, .int .i64 0, .int .i64 0, .bool false] 65)) := ((Mod.refl _ w).alloc _).alloc _
 have MA := hide mA
 clear hF mA
 go_enter Try.func27, Try.ntmps27
 go_wp2_with fail
 refine ((unhide HF) _ (unhide MA)).mono ?_
 rintro e1 w1 ⟨rfl, rfl⟩
 go_wp2
 refine bodyPost_ret (by simp [results, Try.results27, go_sem]; try rfl) rfl ?_
 exact ⟨⟨.slice none 0 0, rfl, World.ownsRow_nil _ _ _ _, fun k hk => by simp [Value.ownBlock] at hk⟩, unhide MA⟩
theorem seats_walk (kb b : Nat) (n r c e size : Int) (R : PageR) (w : World) (hF : ∀ W, Mod No w W → Calls Try.prog 44 #[.pointer (some ⟨kb, 0, none⟩), .int .i64 n] W fun e w' => e = .returned (.pointer (some ⟨b, 0, none⟩)) ∧ w' = W)
  (hP : ∀ W, Mod No w W → Calls Try.prog 51 #[.pointer (some ⟨b, 0, none⟩), .agg #[.int .i64 r, .int .i64 c, .int .i64 e], .int .i64 size] W fun e' w' => Told W w' e' R) :
  Calls Try.prog 27 #[.pointer (some ⟨kb, 0, none⟩), .int .i64 n, .agg #[.int .i64 r, .int .i64 c, .int .i64 e], .int .i64 size] w fun e' w' => Told w w' e' R := by
 have HF := hide hF
 have HP := hide hP
 have mA : Mod No w ((w.alloc (.cells #[.int .i64 r, .int .i64 c, .int .i64 e] 63)).alloc (.cells #[.slice none 0 0, .int .i64 0, .int .i64 0, .int .i64 0, .bool false] 65)) := ((Mod.refl _ w).alloc _).alloc _
 have MA := hide mA
 have nR := Has.new (w.alloc (.cells #[.int .i64 r, .int .i64 c, .int .i64 e] 63)) #[.slice none 0 0, .int .i64 0, .int .i64 0, .int .i64 0, .bool false] 65
 rw [World.size_alloc] at nR
 have NR := hide nR
 clear hF hP mA nR
 go_enter Try.func27, Try.ntmps27
 go_wp2_with fail
 refine ((unhide HF) _ (unhide MA)).mono ?_
 rintro e1 w1 ⟨rfl, rfl⟩
 go_wp2_with fail
 refine ((unhide HP) _ (unhide MA)).mono ?_
 rintro e2 w2 ⟨⟨v, rfl, ho, hn⟩, m2⟩
 obtain ⟨a2, c2, rfl⟩ := slice_of_owns ho
 have R2 := m2.has (unhide NR) (fun x => x)
 have M2 := hide ((unhide MA).trans m2)
 have HO := hide ho
 have HN := hide (fun k hk => (show w.heap.size + 2 ≤ k from by have := hn k hk; simpa using this))
 have d0 : w2.cell? ⟨w.heap.size + 1, 0, none⟩ = some (.slice none 0 0) := R2.cell 0
 have d1 : w2.cell? ⟨w.heap.size + 1, 1, none⟩ = some (.int .i64 0) := R2.cell 1
 have d2 : w2.cell? ⟨w.heap.size + 1, 2, none⟩ = some (.int .i64 0) := R2.cell 2
 have d3 : w2.cell? ⟨w.heap.size + 1, 3, none⟩ = some (.int .i64 0) := R2.cell 3
 have d4 : w2.cell? ⟨w.heap.size + 1, 4, none⟩ = some (.bool false) := R2.cell 4
 have f1 := R2.frozen
 have l1 := R2.lt
 clear m2 R2 ho hn HF HP MA NR
 go_wp2
 refine bodyPost_ret (by simp [results, Try.results27, go_sem, d0, d1, d2, d3, d4]; try rfl) rfl ?_
 have hp : ∀ o, No (⟨w.heap.size + 1, o, none⟩ : Addr).block ∨ w.heap.size ≤ (⟨w.heap.size + 1, o, none⟩ : Addr).block := fun o => .inr (by simp)
 refine ⟨⟨_, rfl, ?_, fun k hk => by have := (unhide HN) k hk; omega⟩, (((((unhide M2).setCell (hp 0) _).setCell (hp 1) _).setCell (hp 2) _).setCell (hp 3) _).setCell (hp 4) _⟩
 exact ((((Mod.refl (fun k => k = w.heap.size + 1) w2).at 0 _).at 1 _).at 2 _ |>.at 3 _ |>.at 4 _).owns (unhide HO) (fun k hk e => by have := (unhide HN) k hk; omega)
theorem seats_any {w : World} {ow : Nat → Nat} {kb : Nat} {now : Int} {fl : Nat → Option (Pla × List Sea)} (h : KeepH w ow kb now fl) (n r c e size : Int) :
  Calls Try.prog 27 #[.pointer (some ⟨kb, 0, none⟩), .int .i64 n, .agg #[.int .i64 r, .int .i64 c, .int .i64 e], .int .i64 size] w fun e' w' => Told w w' e' (seatsK fl n r c e size) := by
 obtain ⟨pt, h⟩ := h
 unfold seatsK
 by_cases hn : 1 ≤ n ∧ n ≤ 20
 case neg =>
  rw [if_pos hn]
  exact seats_none kb n r c e size w (fun W _ => find_no kb n hn W)
 rw [if_neg (by simpa using hn)]
 have hfn : ((n.toNat : Nat) : Int) = n := by omega
 have hF : ∀ W, Mod No w W → Calls Try.prog 44 #[.pointer (some ⟨kb, 0, none⟩), .int .i64 n] W fun e w' => e = .returned (pv (pt n.toNat)) ∧ w' = W := fun W hW => by
  have := find_any (h.mod hW (fun _ _ x => x)) n.toNat (by omega)
  rw [hfn] at this
  exact this
 cases hfl : fl n.toNat with
 | none =>
  rw [h.gone _ (by omega) hfl] at hF
  exact seats_none kb n r c e size w hF
 | some x =>
  obtain ⟨p, l⟩ := x
  obtain ⟨b, hp, hwf, hfh⟩ := h.here _ p l (by omega) hfl
  rw [hp] at hF
  simp only
  exact seats_walk kb b n r c e size _ w hF (fun W hW => by
   obtain ⟨m, es, clock, q1, q2, q3, q4, _⟩ := hfh.mod0 hW
   exact page_any ⟨q1, q2, q3, q4⟩ hwf r c e size)
set_option maxHeartbeats 4000000
def curAt (p : Pla) (l : List Sea) (k : Nat) : Int × Int × Int := if k = 0 then (0, 0, 0) else match l[k - 1]? with
 | some s => (s.row, s.col, p.ep)
 | none => (0, 0, 0)
theorem curAt_succ (p : Pla) (l : List Sea) (k : Nat) (hk : k < l.length) : curAt p l (k + 1) = (l[k].row, l[k].col, p.ep) := by
 unfold curAt
 rw [if_neg (by omega), Nat.add_sub_cancel, List.getElem?_eq_getElem hk]
theorem behind_cur {p : Pla} {l : List Sea} (hwf : Wf p l) (k : Nat) (hk : k ≤ l.length) : behindK p (curAt p l k).1 (curAt p l k).2.1 (curAt p l k).2.2 = ((k : Int), 0) := by
 cases k with
 | zero => rfl
 | succ k =>
  rw [curAt_succ p l k hk]
  obtain ⟨h1, h2⟩ := Fli.wf.place_has hwf (i := k) hk
  simp only at h1 h2
  have h3 := h1
  simp only [Pla.has, decide_eq_true_eq] at h3
  unfold behindK
  rw [if_neg (by omega), if_neg (by simp), if_neg (by simp [h1]), h2]
  simp
theorem pageK_cur {p : Pla} {l : List Sea} (hwf : Wf p l) (k S : Nat) (hk : k ≤ l.length) (hS : 1 ≤ S ∧ S ≤ 30) :
  pageK p l (curAt p l k).1 (curAt p l k).2.1 (curAt p l k).2.2 (S : Int) = ⟨(l.drop k).take S, (lastAt (curAt p l k).1 (curAt p l k).2.1 ((l.drop k).take S)).1, (lastAt (curAt p l k).1 (curAt p l k).2.1 ((l.drop k).take S)).2, p.ep, decide (k + ((l.drop k).take S).length < l.length), 0⟩ := by
 unfold pageK
 rw [if_neg (by omega), behind_cur hwf k hk]
 simp
theorem pageK_more {p : Pla} {l : List Sea} (hwf : Wf p l) (k S : Nat) (hS : 1 ≤ S ∧ S ≤ 30) (hm : k + S < l.length) :
  pageK p l (curAt p l k).1 (curAt p l k).2.1 (curAt p l k).2.2 (S : Int) = ⟨(l.drop k).take S, (curAt p l (k + S)).1, (curAt p l (k + S)).2.1, p.ep, true, 0⟩ ∧ (curAt p l (k + S)).2.2 = p.ep ∧ ((l.drop k).take S).length = S ∧ l.take k ++ (l.drop k).take S = l.take (k + S) := by
 have hlen : ((l.drop k).take S).length = S := by rw [List.length_take, List.length_drop]; omega
 obtain ⟨T, rfl⟩ : ∃ T, S = T + 1 := ⟨S - 1, by omega⟩
 have hlast : ((l.drop k).take (T + 1)).getLast? = some l[k + T] := by
  rw [List.getLast?_eq_getElem?, hlen, Nat.add_sub_cancel, List.getElem?_take, if_pos (by omega), List.getElem?_drop, List.getElem?_eq_getElem (by omega)]
 rw [pageK_cur hwf k (T + 1) (by omega) hS, hlen, show k + (T + 1) = (k + T) + 1 by omega, curAt_succ p l (k + T) (by omega)]
 refine ⟨?_, rfl, rfl, ?_⟩
 ·unfold lastAt
  rw [hlast]
  simp
  omega
 ·exact List.take_add.symm
theorem pageK_last {p : Pla} {l : List Sea} (hwf : Wf p l) (k S : Nat) (hS : 1 ≤ S ∧ S ≤ 30) (hk : k ≤ l.length) (hm : l.length ≤ k + S) : ∃ r c,
  pageK p l (curAt p l k).1 (curAt p l k).2.1 (curAt p l k).2.2 (S : Int) = ⟨l.drop k, r, c, p.ep, false, 0⟩ := by
 have hD : (l.drop k).take S = l.drop k := List.take_of_length_le (by rw [List.length_drop]; omega)
 rw [pageK_cur hwf k S hk hS, hD]
 have : decide (k + (l.drop k).length < l.length) = false := by simp; omega
 rw [this]
 exact ⟨_, _, rfl⟩
structure SeI (w wr : World) (p : Pla) (l : List Sea) (k : Nat) (v : Value) : Prop where
 row : wr.ownsRow 0 61 6 v k ((l.take k).flatMap seaL)
 cur : Has wr w.heap.size #[.int .i64 (curAt p l k).1, .int .i64 (curAt p l k).2.1, .int .i64 (curAt p l k).2.2] 63
 new : ∀ j, v.ownBlock = some j → w.heap.size < j
 mod : Mod No w wr
structure SeatsTold (w w' : World) (e : Ending) (l : List Sea) : Prop where
 ex : ∃ a c, e = .returned (.tuple #[.slice a l.length c, .bool true]) ∧ w'.ownsRow 0 61 6 (.slice a l.length c) l.length (l.flatMap seaL) ∧ ∀ k, (Value.slice a l.length c).ownBlock = some k → w.heap.size ≤ k
 mod : Mod No w w'
theorem SeI.put {w w2 w3 : World} {p : Pla} {l : List Sea} {k : Nat} {v v' : Value} {o : Obj} (h : SeI w w2 p l k v) (hg : (w2.alloc o).grownBy w3 v.ownBlock) (hs : Stays (w2.alloc o) v v') :
  Mod (fun j => v.ownBlock = some j) w2 w3 ∧ (∀ j, v'.ownBlock = some j → w.heap.size < j) := by
 refine ⟨((Mod.refl _ w2).alloc o).grown hg (fun k hk => .inl hk), fun j hj => ?_⟩
 have := h.cur.lt
 rcases hs j hj with h1 | h1
 ·exact h.new j h1
 ·simp at h1; omega
theorem SeI.next {w w2 w3 : World} {p : Pla} {l D : List Sea} {k S : Nat} {v v' : Value} {o : Obj} (h : SeI w w2 p l k v) (hg : (w2.alloc o).grownBy w3 v.ownBlock) (hs : Stays (w2.alloc o) v v') (ho : w3.ownsRow 0 61 6 v' (k + S) ((l.take k).flatMap seaL ++ D.flatMap seaL))
  (e4 : l.take k ++ D = l.take (k + S)) (e2 : (curAt p l (k + S)).2.2 = p.ep) :
  SeI w (((w3.setCell ⟨w.heap.size, 0, none⟩ (.int .i64 (curAt p l (k + S)).1)).setCell ⟨w.heap.size, 1, none⟩ (.int .i64 (curAt p l (k + S)).2.1)).setCell ⟨w.heap.size, 2, none⟩ (.int .i64 p.ep)) p l (k + S) v' := by
 obtain ⟨hm, hn⟩ := h.put hg hs
 have m2 : Mod (fun j => j = w.heap.size) w3 (((w3.setCell ⟨w.heap.size, 0, none⟩ (.int .i64 (curAt p l (k + S)).1)).setCell ⟨w.heap.size, 1, none⟩ (.int .i64 (curAt p l (k + S)).2.1)).setCell ⟨w.heap.size, 2, none⟩ (.int .i64 p.ep)) := (((Mod.refl _ w3).at 0 _).at 1 _).at 2 _
 have hc := hm.has h.cur (fun e => by have := h.new _ e; omega)
 refine ⟨?_, ?_, hn, ?_⟩
 ·rw [← e4, List.flatMap_append]
  exact m2.owns ho (fun j hj e => by have := hn j hj; omega)
 ·rw [e2]
  exact ((hc.set 0 _).set 1 _).set 2 _
 ·exact (h.mod.trans' hm (fun i hi hl => (show False from by have := h.new i hi; omega))).trans' m2 (fun i hi hl => (show False from by omega))
theorem seatsAll_walk {w : World} {p : Pla} {l : List Sea} (hwf : Wf p l) (kb : Nat) (n : Int) (S : Nat) (hS : 1 ≤ S ∧ S ≤ 30)
  (hSt : ∀ W, Mod No w W → ∀ r c e, Calls Try.prog 27 #[.pointer (some ⟨kb, 0, none⟩), .int .i64 n, .agg #[.int .i64 r, .int .i64 c, .int .i64 e], .int .i64 (S : Int)] W fun e' w' => Told W w' e' (pageK p l r c e S)) :
  Calls Try.prog 20 #[.pointer (some ⟨kb, 0, none⟩), .int .i64 n, .int .i64 (S : Int)] w fun e w' => SeatsTold w w' e l := by
 have hl120 : l.length ≤ 120 := Fli.wf.len_le hwf
 have hBd := hwf.bounds
 simp only at hBd
 have hlen := hwf.len
 simp only at hlen
 have hpos : 0 < l.length := by
  have : 0 < p.rows * p.cols := Int.mul_pos (by omega) (by omega)
  omega
 have HST := hide hSt
 have HWF := hide hwf
 have I0 := hide (⟨World.ownsRow_nil _ _ _ _, Has.new w _ _, fun j hj => by simp [Value.ownBlock] at hj, (Mod.refl _ w).alloc _⟩ : SeI w (w.alloc (.cells #[.int .i64 0, .int .i64 0, .int .i64 0] 63)) p l 0 (.slice none 0 0))
 obtain ⟨i114, q0, q1, q2, q3⟩ := info_parts info114
 have HONE : Hid (∀ D : List Sea, ∀ u ∈ D.flatMap seaL, u.oneCell' = true) := hide fun D u hu => by
  rw [List.mem_flatMap] at hu
  obtain ⟨s, _, hu⟩ := hu
  simp [seaL, seaV] at hu
  rcases hu with rfl | rfl | rfl | rfl | rfl | rfl <;> rfl
 clear hSt hwf hBd hlen
 go_enter Try.func20, Try.ntmps20
 go_wp2_with fail
 go_loopw [8, 10] (fun s8 s10 wr => ∃ (i k : Nat), s10 = .int .i64 (i : Int) ∧ i ≤ k ∧ k < l.length ∧ Hid (SeI w wr p l k s8)) (fun _ s10 _ => 200 - (intOf s10).toNat)
 case atStart => exact ⟨0, 0, rfl, Nat.le_refl _, hpos, I0⟩
 case round =>
  obtain ⟨i, k, rfl, hik, hkl, I⟩ := hrel
  obtain ⟨a1, c1, rfl⟩ := slice_of_owns (unhide I).row
  have hi200 : (i : Int) < 200 := by omega
  have hw1 : IntKind.i64.wrap ((i : Int) + 1) = ((i + 1 : Nat) : Int) := by rw [wrap_id _ (by omega) (by omega)]; rfl
  have cc := (unhide I).cur.cell
  have lc := (unhide I).cur.lt
  have fc := (unhide I).cur.frozen
  by_cases hm : k + S < l.length
  ·obtain ⟨e1, e2, e3, e4⟩ := pageK_more (unhide HWF) k S hS hm
   have HP := hide (show Calls Try.prog 27 #[.pointer (some ⟨kb, 0, none⟩), .int .i64 n, .agg #[.int .i64 (curAt p l k).1, .int .i64 (curAt p l k).2.1, .int .i64 (curAt p l k).2.2], .int .i64 (S : Int)] wr fun e' w' => Told wr w' e' ⟨(l.drop k).take S, (curAt p l (k + S)).1, (curAt p l (k + S)).2.1, p.ep, true, 0⟩ from by
    rw [← e1]
    exact (unhide HST) wr (unhide I).mod _ _ _)
   generalize (l.drop k).take S = D at *
   have E2 := hide e2
   have E4 := hide e4
   have g1 : ¬ ((S : Int) > (S : Int)) := by omega
   have g2 : ¬ ((S : Int) < (S : Int)) := by omega
   clear e1 e2 e4
   go_wp2_with fail
   refine (unhide HP).mono ?_
   rintro e5 w5 ⟨⟨v5, rfl, ho5, hn5⟩, m5⟩
   simp only [e3] at ho5
   obtain ⟨a5, c5, rfl⟩ := slice_of_owns ho5
   have I5 := hide (show SeI w w5 p l k (.slice a1 k c1) from ⟨m5.owns (unhide I).row (fun _ _ x => x), m5.has (unhide I).cur (fun x => x), (unhide I).new, (unhide I).mod.trans m5⟩)
   have cc5 := (unhide I5).cur.cell
   have lc5 := (unhide I5).cur.lt
   have fc5 := (unhide I5).cur.frozen
   have mA : Mod No w5 (w5.alloc (.cells #[.slice a5 S c5, .int .i64 (curAt p l (k + S)).1, .int .i64 (curAt p l (k + S)).2.1, .int .i64 p.ep, .bool true] 65)) := (Mod.refl _ w5).alloc _
   have HROW := hide (mA.owns (unhide I5).row (fun _ _ x => x))
   have HREAD := hide (reads_of_owns (mA.owns ho5 (fun _ _ x => x)))
   have HO5 := hide ho5
   have PG := Has.new w5 #[.slice a5 S c5, .int .i64 (curAt p l (k + S)).1, .int .i64 (curAt p l (k + S)).2.1, .int .i64 p.ep, .bool true] 65
   have HPG := hide PG
   have HCC := hide (mA.has (unhide I5).cur (fun x => x))
   have HLEN := hide (show (D.flatMap seaL).length = S * 6 from by rw [flat_len 6 seaL seaL_len D, e3])
   have HNE := hide (show Option.some w.heap.size ≠ (Value.slice a1 k c1).ownBlock from fun e => by have := (unhide I).new _ e.symm; omega)
   have HNE2 := hide (show Option.some w5.heap.size ≠ (Value.slice a1 k c1).ownBlock from fun e => by have := owns_lt (unhide I5).row _ e.symm; omega)
   clear mA ho5 hn5 m5 HP HST I0 PG
   go_wp2_with (first | (at_builtin; refine wpList_append_row rfl (.tmp 45) (.tmp 47) 48 rfl 61 i114 _ 6 48 Try.underlying48 q0 q1 q2 q3 rfl (by decide) (.slice a1 k c1) k _ (by simp [Act.eval]) (by exact unhide HROW) (.slice a5 S c5) S (D.flatMap seaL) (by simp [Act.eval]) (by exact unhide HREAD) (unhide HLEN) ((unhide HONE) D) (by unfold maxLen; omega) (by omega) ?_; intro v6 w6 ho6 hg6 hs6; obtain ⟨a6, c6, rfl⟩ := slice_of_owns ho6; have cc6 := (Has.grown (unhide HCC) hg6 (unhide HNE)).cell; have fc6 := (Has.grown (unhide HCC) hg6 (unhide HNE)).frozen; have lc6 := (Has.grown (unhide HCC) hg6 (unhide HNE)).lt; have pc6 := (Has.grown (unhide HPG) hg6 (unhide HNE2)).cell; have pl6 := (Has.grown (unhide HPG) hg6 (unhide HNE2)).lt))
   have hS6 := (unhide I5).next hg6 hs6 ho6 (unhide E4) (unhide E2)
   exact ⟨⟨i + 1, k + S, rfl, by omega, by omega, hide hS6⟩, by simp [intOf]; omega⟩
  ·obtain ⟨r1, r2, e1⟩ := pageK_last (unhide HWF) k S hS (by omega) (by omega)
   have HP := hide (show Calls Try.prog 27 #[.pointer (some ⟨kb, 0, none⟩), .int .i64 n, .agg #[.int .i64 (curAt p l k).1, .int .i64 (curAt p l k).2.1, .int .i64 (curAt p l k).2.2], .int .i64 (S : Int)] wr fun e' w' => Told wr w' e' ⟨l.drop k, r1, r2, p.ep, false, 0⟩ from by
    rw [← e1]
    exact (unhide HST) wr (unhide I).mod _ _ _)
   obtain ⟨L, hL⟩ : ∃ L, L = (l.drop k).length := ⟨_, rfl⟩
   have hL2 := hL
   rw [List.length_drop] at hL2
   have g1 : ¬ ((L : Int) > (S : Int)) := by omega
   have g2 : ¬ (S < L) := by omega
   have HL2 := hide hL2
   have HKL := hide (show k + L = l.length ∧ L ≤ 120 from by omega)
   clear e1 hL2
   go_wp2_with fail
   refine (unhide HP).mono ?_
   rintro e5 w5 ⟨⟨v5, rfl, ho5, hn5⟩, m5⟩
   simp only [← hL] at ho5
   obtain ⟨a5, c5, rfl⟩ := slice_of_owns ho5
   have I5 := hide (show SeI w w5 p l k (.slice a1 k c1) from ⟨m5.owns (unhide I).row (fun _ _ x => x), m5.has (unhide I).cur (fun x => x), (unhide I).new, (unhide I).mod.trans m5⟩)
   have mA : Mod No w5 (w5.alloc (.cells #[.slice a5 L c5, .int .i64 r1, .int .i64 r2, .int .i64 p.ep, .bool false] 65)) := (Mod.refl _ w5).alloc _
   have HROW := hide (mA.owns (unhide I5).row (fun _ _ x => x))
   have HREAD := hide (reads_of_owns (mA.owns ho5 (fun _ _ x => x)))
   have PG := Has.new w5 #[.slice a5 L c5, .int .i64 r1, .int .i64 r2, .int .i64 p.ep, .bool false] 65
   have HPG := hide PG
   have HCC := hide (mA.has (unhide I5).cur (fun x => x))
   have HLEN := hide (show ((l.drop k).flatMap seaL).length = L * 6 from by rw [flat_len 6 seaL seaL_len (l.drop k), hL])
   have HNE := hide (show Option.some w.heap.size ≠ (Value.slice a1 k c1).ownBlock from fun e => by have := (unhide I).new _ e.symm; omega)
   have HNE2 := hide (show Option.some w5.heap.size ≠ (Value.slice a1 k c1).ownBlock from fun e => by have := owns_lt (unhide I5).row _ e.symm; omega)
   clear mA ho5 hn5 m5 HP HST I0 PG hL
   go_wp2_with (first | (at_builtin; refine wpList_append_row rfl (.tmp 45) (.tmp 47) 48 rfl 61 i114 _ 6 48 Try.underlying48 q0 q1 q2 q3 rfl (by decide) (.slice a1 k c1) k _ (by simp [Act.eval]) (by exact unhide HROW) (.slice a5 L c5) L ((l.drop k).flatMap seaL) (by simp [Act.eval]) (by exact unhide HREAD) (unhide HLEN) ((unhide HONE) _) (by unfold maxLen; have := unhide HKL; omega) (by have := unhide HKL; omega) ?_; intro v6 w6 ho6 hg6 hs6; obtain ⟨a6, c6, rfl⟩ := slice_of_owns ho6; have cc6 := (Has.grown (unhide HCC) hg6 (unhide HNE)).cell; have fc6 := (Has.grown (unhide HCC) hg6 (unhide HNE)).frozen; have lc6 := (Has.grown (unhide HCC) hg6 (unhide HNE)).lt; have pc6 := (Has.grown (unhide HPG) hg6 (unhide HNE2)).cell; have pl6 := (Has.grown (unhide HPG) hg6 (unhide HNE2)).lt))
   go_ret2
   obtain ⟨hm6, hn6⟩ := (unhide I5).put hg6 hs6
   rw [← List.flatMap_append, List.take_append_drop, (unhide HKL).1] at ho6
   rw [(unhide HKL).1] at hn6 ⊢
   have m2 : Mod (fun j => j = w.heap.size) w6 (((w6.setCell ⟨w.heap.size, 0, none⟩ (.int .i64 r1)).setCell ⟨w.heap.size, 1, none⟩ (.int .i64 r2)).setCell ⟨w.heap.size, 2, none⟩ (.int .i64 p.ep)) := (((Mod.refl _ w6).at 0 _).at 1 _).at 2 _
   refine ⟨⟨a6, c6, rfl, m2.owns ho6 (fun j hj e => by have := hn6 j hj; omega), fun j hj => Nat.le_of_lt (hn6 j hj)⟩, ?_⟩
   exact ((unhide I5).mod.trans' hm6 (fun i hi hl => (show False from by have := (unhide I5).new i hi; omega))).trans' m2 (fun i hi hl => (show False from by omega))
end Go.Proofs.Ythhibagcpjeihaa
