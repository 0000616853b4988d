import Derived.Test.YthhibagcpjeihaaGreatHRef16ToSwap1
import Derived.Test.YthhibagcpjeihaaGreatHKeepDToRef17
namespace Go.Proofs.YthhibagcpjeihaaGreat
open Go.RowKit
open M
set_option linter.unusedVariables false
set_option linter.unusedSimpArgs false
set_option maxRecDepth 100000
set_option maxHeartbeats 20000000
theorem Has.froz0 {w : World} {b : Nat} {cs : Array Value} {T : TypeId} (h : Has w b cs T) : ∀ o, w.frozen? ⟨b, o, none⟩ = false := fun o => h.frozen o
theorem size51 : (Tryz.prog.info? 91).map (·.size) = some 12 := by kernel_rfl
theorem row51 : (Tryz.prog.underlying 91).map (·.isRow) = some true := by kernel_rfl
structure CntI (w wx : World) (x : FR) (i : Nat) : Prop where
 mod : Mod No w wx
 res : Has wx w.heap.size zero51 91
 box : Has wx (w.heap.size + 1) (friV x) 134
 tot : Has wx (w.heap.size + 1 + 1) (tF (cA x.f.pla (x.f.seats.take i)) (cB x.f.pla (x.f.seats.take i)) (cS (x.f.seats.take i))) 91
theorem CntI.start (w : World) (x : FR) : CntI w (((w.alloc (.cells zero51 91)).alloc (.cells (friV x) 134)).alloc (.cells zero51 91)) x 0 := by
 refine ⟨(((Mod.refl No w).alloc _).alloc _).alloc _, ((Has.new w zero51 91).alloc _).alloc _, ?_, ?_⟩
 ·have := (Has.new (w.alloc (.cells zero51 91)) (friV x) 134).alloc (.cells zero51 91)
  rw [World.size_alloc] at this
  exact this
 ·have := Has.new ((w.alloc (.cells zero51 91)).alloc (.cells (friV x) 134)) zero51 91
  rw [World.size_alloc, World.size_alloc] at this
  exact this
theorem CntI.alloc {w wx : World} {x : FR} {i : Nat} (h : CntI w wx x i) (o : Obj) : CntI w (wx.alloc o) x i := ⟨h.mod.alloc _, h.res.alloc _, h.box.alloc _, h.tot.alloc _⟩
theorem CntI.put {w wx : World} {x : FR} {i j : Nat} (h : CntI w wx x i) (o : Nat) (v : Value) (ht : (tF (cA x.f.pla (x.f.seats.take i)) (cB x.f.pla (x.f.seats.take i)) (cS (x.f.seats.take i))).setIfInBounds o v = tF (cA x.f.pla (x.f.seats.take j)) (cB x.f.pla (x.f.seats.take j)) (cS (x.f.seats.take j))) :
  CntI w (wx.setCell ⟨w.heap.size + 1 + 1, o, none⟩ v) x j :=
 ⟨h.mod.setCell (.inr (by show w.heap.size ≤ w.heap.size + 1 + 1; omega)) _, h.res.set_ne (by show w.heap.size ≠ w.heap.size + 1 + 1; omega) _, h.box.set_ne (by show w.heap.size + 1 ≠ w.heap.size + 1 + 1; omega) _, by rw [← ht]; exact h.tot.set o v⟩
theorem CntI.put2 {w wx : World} {x : FR} {i j : Nat} (h : CntI w wx x i) (o o' : Nat) (v v' : Value) (ht : ((tF (cA x.f.pla (x.f.seats.take i)) (cB x.f.pla (x.f.seats.take i)) (cS (x.f.seats.take i))).setIfInBounds o v).setIfInBounds o' v' = tF (cA x.f.pla (x.f.seats.take j)) (cB x.f.pla (x.f.seats.take j)) (cS (x.f.seats.take j))) :
  CntI w ((wx.setCell ⟨w.heap.size + 1 + 1, o, none⟩ v).setCell ⟨w.heap.size + 1 + 1, o', none⟩ v') x j :=
 ⟨(h.mod.setCell (p := ⟨w.heap.size + 1 + 1, o, none⟩) (.inr (by show w.heap.size ≤ w.heap.size + 1 + 1; omega)) _).setCell (.inr (by show w.heap.size ≤ w.heap.size + 1 + 1; omega)) _,
  (h.res.set_ne (a := ⟨w.heap.size + 1 + 1, o, none⟩) (by show w.heap.size ≠ w.heap.size + 1 + 1; omega) _).set_ne (by show w.heap.size ≠ w.heap.size + 1 + 1; omega) _,
  (h.box.set_ne (a := ⟨w.heap.size + 1 + 1, o, none⟩) (by show w.heap.size + 1 ≠ w.heap.size + 1 + 1; omega) _).set_ne (by show w.heap.size + 1 ≠ w.heap.size + 1 + 1; omega) _, by rw [← ht]; exact (h.tot.set o v).set o' v'⟩
theorem wcount_no {w : World} {ow : Nat → Nat} {wb : Nat} {v : Value} {xs : List FR} {now : Int} (h : WorR w ow wb v xs now) (n : Int) (hn : findN xs n = -1) :
  Calls Tryz.prog 36 #[.pointer (some ⟨wb, 0, none⟩), .int .i64 n] w fun e w' => e = .returned (.tuple #[.agg zero51, .int .i64 2]) ∧ Mod No w w' := by
 have HF := (h.mod ((Mod.refl No w).alloc (.cells zero51 91)) (fun _ _ x => x)).find n
 rw [hn] at HF
 have HF := hide HF
 have M0 := hide ((Mod.refl No w).alloc (.cells zero51 91))
 have B0 := hide (Has.new w zero51 91)
 clear h hn
 unfold zero51 at *
 go_enter Tryz.func36, Tryz.ntmps36
 go_wp2_with fail
 refine (unhide HF).mono ?_
 rintro e w1 ⟨rfl, rfl⟩
 go_wp2
 go_returns
 exact ⟨rfl, unhide M0⟩
theorem wcount_yes {w : World} {ow : Nat → Nat} {wb gf cap : Nat} {xs : List FR} {now : Int} (h : WorR w ow wb (.slice (some ⟨gf, 0, none⟩) xs.length cap) xs now) (n : Int) (i : Nat) (hi : i < xs.length) (hn : findN xs n = i) :
  Calls Tryz.prog 36 #[.pointer (some ⟨wb, 0, none⟩), .int .i64 n] w fun e w' => e = .returned (.tuple #[.agg (totV xs[i].f.pla xs[i].f.seats), .int .i64 0]) ∧ Mod No w w' := by
 have h1 := h.mod ((Mod.refl No w).alloc (.cells zero51 91)) (fun _ _ x => x)
 have HF := h1.find n
 rw [hn] at HF
 have HF := hide HF
 obtain ⟨og, rf⟩ := h1.parts rfl (by omega)
 obtain ⟨rs, os, wf⟩ := h.seats i hi
 have hc := h1.has.cell
 have fc : ∀ j, j < 10 → (w.alloc (.cells zero51 91)).cell? ⟨gf, i * 10 + j, none⟩ = (friV xs[i])[j]? := fun j hj => rf.cell i hi j hj
 have I0 := hide (CntI.start w xs[i])
 have RS := hide rs
 have WF := hide wf
 have hl120 : xs[i].f.seats.length ≤ 120 := wf_len wf
 have h0 : ¬ (i : Int) < 0 := by omega
 have h1 : (i : Int) < (xs.length : Int) := by omega
 clear h h1 rf rs os wf og
 generalize xs[i] = x at *
 have g0 : (w.alloc (.cells zero51 91)).cell? ⟨gf, i * 10, none⟩ = some (.int .i64 x.f.num) := fc 0 (by omega)
 have g1 : (w.alloc (.cells zero51 91)).cell? ⟨gf, i * 10 + 1, none⟩ = some (.int .i64 x.f.pla.rows) := fc 1 (by omega)
 have g2 : (w.alloc (.cells zero51 91)).cell? ⟨gf, i * 10 + 2, none⟩ = some (.int .i64 x.f.pla.cols) := fc 2 (by omega)
 have g3 : (w.alloc (.cells zero51 91)).cell? ⟨gf, i * 10 + 3, none⟩ = some (.int .i64 x.f.pla.front) := fc 3 (by omega)
 have g4 : (w.alloc (.cells zero51 91)).cell? ⟨gf, i * 10 + 4, none⟩ = some (.int .i64 x.f.pla.l0) := fc 4 (by omega)
 have g5 : (w.alloc (.cells zero51 91)).cell? ⟨gf, i * 10 + 5, none⟩ = some (.int .i64 x.f.pla.l1) := fc 5 (by omega)
 have g6 : (w.alloc (.cells zero51 91)).cell? ⟨gf, i * 10 + 6, none⟩ = some (.int .i64 x.f.pla.l2) := fc 6 (by omega)
 have g7 : (w.alloc (.cells zero51 91)).cell? ⟨gf, i * 10 + 7, none⟩ = some (.int .i64 x.f.pla.l3) := fc 7 (by omega)
 have g8 : (w.alloc (.cells zero51 91)).cell? ⟨gf, i * 10 + 8, none⟩ = some (.slice (some ⟨x.g, 0, none⟩) x.f.seats.length x.cap) := fc 8 (by omega)
 have g9 : (w.alloc (.cells zero51 91)).cell? ⟨gf, i * 10 + 9, none⟩ = some (.int .i64 x.f.ep) := fc 9 (by omega)
 have h1 : (i : Int) < (xs.length : Int) := by omega
 clear fc
 unfold zero51 friV at *
 go_enter Tryz.func36, Tryz.ntmps36
 go_wp2_with fail
 refine (unhide HF).mono ?_
 rintro e w1 ⟨rfl, rfl⟩
 go_wp2_with fail
 go_loopw [9] (fun s9 wx => ∃ q : Nat, s9 = .int .i64 q ∧ q ≤ x.f.seats.length ∧ Hid (CntI w wx x q)) (fun s9 _ => x.f.seats.length - (intOf s9).toNat)
 case atStart => exact ⟨0, rfl, by omega, I0⟩
 case round =>
  obtain ⟨q, rfl, hq, I1⟩ := hrel
  clear I0 g0 g1 g2 g3 g4 g5 g6 g7 g8 g9 hc HF
  have b3 : wr.cell? ⟨w.heap.size + 1, 3, none⟩ = some (.int .i64 x.f.pla.front) := (unhide I1).box.cell 3
  have b8 : wr.cell? ⟨w.heap.size + 1, 8, none⟩ = some (.slice (some ⟨x.g, 0, none⟩) x.f.seats.length x.cap) := (unhide I1).box.cell 8
  by_cases hql : q < x.f.seats.length
  ·have hqi : (q : Int) < (x.f.seats.length : Int) := by omega
   have hq0 : (0 : Int) ≤ q := by omega
   have hq1 : IntKind.i64.wrap ((q : Int) + 1) = ((q + 1 : Nat) : Int) := by rw [wrap_id _ (by omega) (by omega)]; rfl
   have R1 := (unhide RS).mod (unhide I1).mod (fun x => x)
   have c0 := R1.row q hql
   have c1 := R1.col q hql
   have c2 := R1.st q hql
   have c3 := R1.pa q hql
   have c4 := R1.cl q hql
   have c5 := R1.un q hql
   have sw := (unhide WF).seat _ (List.getElem_mem hql)
   obtain ⟨k, hk⟩ : ∃ k : Nat, x.f.seats[q].cl = (k : Int) := ⟨x.f.seats[q].cl.toNat, by have := sw.c0; omega⟩
   have hk4 : k < 4 := by have := sw.c1; omega
   have hk4i : (k : Int) < 4 := by omega
   have hk0i : (0 : Int) ≤ k := by omega
   have hst : x.f.seats[q].st = 0 ∨ x.f.seats[q].st = 1 ∨ x.f.seats[q].st = 2 ∨ x.f.seats[q].st = 3 := by have := sw.s0; have := sw.s1; omega
   have HK := hide hk
   rw [hk] at c4
   have tz := (unhide I1).tot.froz0
   have sm := cnt_small x.f.pla x.f.seats q hl120
   have tcell := (unhide I1).tot.cell
   have ts : wr.cell? ⟨w.heap.size + 1 + 1, 8 + k, none⟩ = some (.int .i64 (cS (x.f.seats.take q) k)) := by rw [tcell, tF_s _ _ _ _ hk4]
   have lw := (unhide I1).tot.lt
   have lbx := (unhide I1).box.lt
   have ws : IntKind.i64.wrap (cS (x.f.seats.take q) k + 1) = cS (x.f.seats.take q) k + 1 := by have := (sm k).2.2; exact wrap_fit _ (by omega) (by omega)
   have CSY := hide (cS_sold x.f.seats q k hql hk)
   have CSN := hide (cS_not x.f.seats q hql)
   clear R1 sw hk
   rcases hst with hst | hst | hst | hst
   ·have CF := hide (cA_front x.f.pla x.f.seats q 0 hql hst)
    have CR := hide (cB_rear x.f.pla x.f.seats q 0 hql hst)
    have HS := hide (show x.f.seats[q].sold = false from by unfold Sea.sold; rw [hst]; rfl)
    rw [hst] at c2
    have ta : wr.cell? ⟨w.heap.size + 1 + 1, 0, none⟩ = some (.int .i64 (cA x.f.pla (x.f.seats.take q) 0)) := tcell 0
    have tb : wr.cell? ⟨w.heap.size + 1 + 1, 4, none⟩ = some (.int .i64 (cB x.f.pla (x.f.seats.take q) 0)) := tcell 4
    have wa : IntKind.i64.wrap (cA x.f.pla (x.f.seats.take q) 0 + 1) = cA x.f.pla (x.f.seats.take q) 0 + 1 := by have := (sm 0).1; exact wrap_fit _ (by omega) (by omega)
    have wb' : IntKind.i64.wrap (cB x.f.pla (x.f.seats.take q) 0 + 1) = cB x.f.pla (x.f.seats.take q) 0 + 1 := by have := (sm 0).2.1; exact wrap_fit _ (by omega) (by omega)
    clear hst tcell sm
    by_cases hf : x.f.seats[q].row ≤ x.f.pla.front
    ·have FIN := hide ((unhide I1).put (j := q + 1) 0 (.int .i64 (cA x.f.pla (x.f.seats.take q) 0 + 1)) (by rw [tF_seta _ _ _ 0 (by omega), ((unhide CF) hf).1, ((unhide CF) hf).2, (unhide CSN) (unhide HS)]))
     clear CF CR CSY CSN I1 HS HK RS WF
     go_wp2
     exact ⟨⟨q + 1, rfl, by omega, (unhide FIN).alloc _⟩, by simp [intOf]; omega⟩
    ·have FIN := hide ((unhide I1).put (j := q + 1) (4 + 0) (.int .i64 (cB x.f.pla (x.f.seats.take q) 0 + 1)) (by rw [tF_setb _ _ _ 0 (by omega), ((unhide CR) hf).1, ((unhide CR) hf).2, (unhide CSN) (unhide HS)]))
     clear CF CR CSY CSN I1 HS HK RS WF
     go_wp2
     exact ⟨⟨q + 1, rfl, by omega, (unhide FIN).alloc _⟩, by simp [intOf]; omega⟩
   ·have CF := hide (cA_front x.f.pla x.f.seats q 1 hql hst)
    have CR := hide (cB_rear x.f.pla x.f.seats q 1 hql hst)
    have HS := hide (show x.f.seats[q].sold = true from by unfold Sea.sold; rw [hst]; rfl)
    rw [hst] at c2
    have ta : wr.cell? ⟨w.heap.size + 1 + 1, 1, none⟩ = some (.int .i64 (cA x.f.pla (x.f.seats.take q) 1)) := tcell 1
    have tb : wr.cell? ⟨w.heap.size + 1 + 1, 5, none⟩ = some (.int .i64 (cB x.f.pla (x.f.seats.take q) 1)) := tcell 5
    have wa : IntKind.i64.wrap (cA x.f.pla (x.f.seats.take q) 1 + 1) = cA x.f.pla (x.f.seats.take q) 1 + 1 := by have := (sm 1).1; exact wrap_fit _ (by omega) (by omega)
    have wb' : IntKind.i64.wrap (cB x.f.pla (x.f.seats.take q) 1 + 1) = cB x.f.pla (x.f.seats.take q) 1 + 1 := by have := (sm 1).2.1; exact wrap_fit _ (by omega) (by omega)
    clear hst tcell sm
    by_cases hf : x.f.seats[q].row ≤ x.f.pla.front
    ·have FIN := hide ((unhide I1).put2 (j := q + 1) 1 (8 + k) (.int .i64 (cA x.f.pla (x.f.seats.take q) 1 + 1)) (.int .i64 (cS (x.f.seats.take q) k + 1)) (by rw [tF_seta _ _ _ 1 (by omega), tF_sets _ _ _ k hk4, ((unhide CF) hf).1, ((unhide CF) hf).2, (unhide CSY) (unhide HS)]))
     clear CF CR CSY CSN I1 HS HK RS WF
     go_wp2
     exact ⟨⟨q + 1, rfl, by omega, (unhide FIN).alloc _⟩, by simp [intOf]; omega⟩
    ·have FIN := hide ((unhide I1).put2 (j := q + 1) (4 + 1) (8 + k) (.int .i64 (cB x.f.pla (x.f.seats.take q) 1 + 1)) (.int .i64 (cS (x.f.seats.take q) k + 1)) (by rw [tF_setb _ _ _ 1 (by omega), tF_sets _ _ _ k hk4, ((unhide CR) hf).1, ((unhide CR) hf).2, (unhide CSY) (unhide HS)]))
     clear CF CR CSY CSN I1 HS HK RS WF
     go_wp2
     exact ⟨⟨q + 1, rfl, by omega, (unhide FIN).alloc _⟩, by simp [intOf]; omega⟩
   ·have CF := hide (cA_front x.f.pla x.f.seats q 2 hql hst)
    have CR := hide (cB_rear x.f.pla x.f.seats q 2 hql hst)
    have HS := hide (show x.f.seats[q].sold = true from by unfold Sea.sold; rw [hst]; rfl)
    rw [hst] at c2
    have ta : wr.cell? ⟨w.heap.size + 1 + 1, 2, none⟩ = some (.int .i64 (cA x.f.pla (x.f.seats.take q) 2)) := tcell 2
    have tb : wr.cell? ⟨w.heap.size + 1 + 1, 6, none⟩ = some (.int .i64 (cB x.f.pla (x.f.seats.take q) 2)) := tcell 6
    have wa : IntKind.i64.wrap (cA x.f.pla (x.f.seats.take q) 2 + 1) = cA x.f.pla (x.f.seats.take q) 2 + 1 := by have := (sm 2).1; exact wrap_fit _ (by omega) (by omega)
    have wb' : IntKind.i64.wrap (cB x.f.pla (x.f.seats.take q) 2 + 1) = cB x.f.pla (x.f.seats.take q) 2 + 1 := by have := (sm 2).2.1; exact wrap_fit _ (by omega) (by omega)
    clear hst tcell sm
    by_cases hf : x.f.seats[q].row ≤ x.f.pla.front
    ·have FIN := hide ((unhide I1).put2 (j := q + 1) 2 (8 + k) (.int .i64 (cA x.f.pla (x.f.seats.take q) 2 + 1)) (.int .i64 (cS (x.f.seats.take q) k + 1)) (by rw [tF_seta _ _ _ 2 (by omega), tF_sets _ _ _ k hk4, ((unhide CF) hf).1, ((unhide CF) hf).2, (unhide CSY) (unhide HS)]))
     clear CF CR CSY CSN I1 HS HK RS WF
     go_wp2
     exact ⟨⟨q + 1, rfl, by omega, (unhide FIN).alloc _⟩, by simp [intOf]; omega⟩
    ·have FIN := hide ((unhide I1).put2 (j := q + 1) (4 + 2) (8 + k) (.int .i64 (cB x.f.pla (x.f.seats.take q) 2 + 1)) (.int .i64 (cS (x.f.seats.take q) k + 1)) (by rw [tF_setb _ _ _ 2 (by omega), tF_sets _ _ _ k hk4, ((unhide CR) hf).1, ((unhide CR) hf).2, (unhide CSY) (unhide HS)]))
     clear CF CR CSY CSN I1 HS HK RS WF
     go_wp2
     exact ⟨⟨q + 1, rfl, by omega, (unhide FIN).alloc _⟩, by simp [intOf]; omega⟩
   ·have CF := hide (cA_front x.f.pla x.f.seats q 3 hql hst)
    have CR := hide (cB_rear x.f.pla x.f.seats q 3 hql hst)
    have HS := hide (show x.f.seats[q].sold = false from by unfold Sea.sold; rw [hst]; rfl)
    rw [hst] at c2
    have ta : wr.cell? ⟨w.heap.size + 1 + 1, 3, none⟩ = some (.int .i64 (cA x.f.pla (x.f.seats.take q) 3)) := tcell 3
    have tb : wr.cell? ⟨w.heap.size + 1 + 1, 7, none⟩ = some (.int .i64 (cB x.f.pla (x.f.seats.take q) 3)) := tcell 7
    have wa : IntKind.i64.wrap (cA x.f.pla (x.f.seats.take q) 3 + 1) = cA x.f.pla (x.f.seats.take q) 3 + 1 := by have := (sm 3).1; exact wrap_fit _ (by omega) (by omega)
    have wb' : IntKind.i64.wrap (cB x.f.pla (x.f.seats.take q) 3 + 1) = cB x.f.pla (x.f.seats.take q) 3 + 1 := by have := (sm 3).2.1; exact wrap_fit _ (by omega) (by omega)
    clear hst tcell sm
    by_cases hf : x.f.seats[q].row ≤ x.f.pla.front
    ·have FIN := hide ((unhide I1).put (j := q + 1) 3 (.int .i64 (cA x.f.pla (x.f.seats.take q) 3 + 1)) (by rw [tF_seta _ _ _ 3 (by omega), ((unhide CF) hf).1, ((unhide CF) hf).2, (unhide CSN) (unhide HS)]))
     clear CF CR CSY CSN I1 HS HK RS WF
     go_wp2
     exact ⟨⟨q + 1, rfl, by omega, (unhide FIN).alloc _⟩, by simp [intOf]; omega⟩
    ·have FIN := hide ((unhide I1).put (j := q + 1) (4 + 3) (.int .i64 (cB x.f.pla (x.f.seats.take q) 3 + 1)) (by rw [tF_setb _ _ _ 3 (by omega), ((unhide CR) hf).1, ((unhide CR) hf).2, (unhide CSN) (unhide HS)]))
     clear CF CR CSY CSN I1 HS HK RS WF
     go_wp2
     exact ⟨⟨q + 1, rfl, by omega, (unhide FIN).alloc _⟩, by simp [intOf]; omega⟩
  ·have hqi : ¬ (q : Int) < (x.f.seats.length : Int) := by omega
   have e : q = x.f.seats.length := by omega
   subst e
   have hT := (unhide I1).tot
   rw [List.take_length] at hT
   have hR := (unhide I1).res
   have HM := hide (unhide I1).mod
   clear RS WF
   go_upto_region 15 with fail
   clear b3 b8
   refine wp_region_list ?_
   refine (wpList_load_has rfl 91 _ rfl (w.heap.size + 1 + 1) 0 rfl (tF (cA x.f.pla x.f.seats) (cB x.f.pla x.f.seats) (cS x.f.seats)) 91 hT (tF (cA x.f.pla x.f.seats) (cB x.f.pla x.f.seats) (cS x.f.seats)) (fun j v h => by rw [Nat.zero_add]; simpa using h) row51 size51 ?_)
   refine (wpList_store_has rfl 91 _ _ rfl (w.heap.size) (tF (cA x.f.pla x.f.seats) (cB x.f.pla x.f.seats) (cS x.f.seats)) rfl rfl zero51 91 hR rfl size51 (by simp [tF, Value.oneCell']) ?_)
   intro w5 h5 m5
   have d0 : w5.cell? ⟨w.heap.size, 0, none⟩ = some (.int .i64 (cA x.f.pla x.f.seats 0)) := h5.cell 0
   have d1 : w5.cell? ⟨w.heap.size, 1, none⟩ = some (.int .i64 (cA x.f.pla x.f.seats 1)) := h5.cell 1
   have d2 : w5.cell? ⟨w.heap.size, 2, none⟩ = some (.int .i64 (cA x.f.pla x.f.seats 2)) := h5.cell 2
   have d3 : w5.cell? ⟨w.heap.size, 3, none⟩ = some (.int .i64 (cA x.f.pla x.f.seats 3)) := h5.cell 3
   have d4 : w5.cell? ⟨w.heap.size, 4, none⟩ = some (.int .i64 (cB x.f.pla x.f.seats 0)) := h5.cell 4
   have d5 : w5.cell? ⟨w.heap.size, 5, none⟩ = some (.int .i64 (cB x.f.pla x.f.seats 1)) := h5.cell 5
   have d6 : w5.cell? ⟨w.heap.size, 6, none⟩ = some (.int .i64 (cB x.f.pla x.f.seats 2)) := h5.cell 6
   have d7 : w5.cell? ⟨w.heap.size, 7, none⟩ = some (.int .i64 (cB x.f.pla x.f.seats 3)) := h5.cell 7
   have d8 : w5.cell? ⟨w.heap.size, 8, none⟩ = some (.int .i64 (cS x.f.seats 0)) := h5.cell 8
   have d9 : w5.cell? ⟨w.heap.size, 9, none⟩ = some (.int .i64 (cS x.f.seats 1)) := h5.cell 9
   have d10 : w5.cell? ⟨w.heap.size, 10, none⟩ = some (.int .i64 (cS x.f.seats 2)) := h5.cell 10
   have d11 : w5.cell? ⟨w.heap.size, 11, none⟩ = some (.int .i64 (cS x.f.seats 3)) := h5.cell 11
   have M5 := hide ((unhide HM).trans' (S := No) m5 (fun i e hl => by subst e; omega))
   have l5 := h5.lt
   clear m5 h5 hR hT I1
   go_wp2
   refine bodyPost_ret (by simp [results, Tryz.results36, go_sem, d0, d1, d2, d3, d4, d5, d6, d7, d8, d9, d10, d11]; try rfl) rfl ?_
   exact ⟨rfl, unhide M5⟩
set_option maxHeartbeats 4000000
def friL (x : FR) : List Value := (friV x).toList
theorem friL_len (x : FR) : (friL x).length = 10 := rfl
theorem rowF_of {w : World} {g n cap : Nat} {l : List FR} (h : w.ownsRow 0 134 10 (.slice (some ⟨g, 0, none⟩) n cap) l.length (l.flatMap friL)) : n = l.length ∧ RowF w g cap l := by
 obtain ⟨h0, h1 | ⟨g', cap', cur, hv, hb, hg, hn, hm, hsz, ht⟩⟩ := h
 ·exact absurd h1.1 (by simp)
 ·injection hv with e1 e2 e3
  injection e1 with e1
  injection e1 with e1
  subst e1 e2 e3
  refine ⟨rfl, ⟨cur, hg, hsz, fun i hi j hj => ?_⟩, hn, hm⟩
  have := flat_at 10 (by omega) friL friL_len l i hi j hj
  rw [← ht, List.getElem?_take, if_pos (by omega)] at this
  rw [← Array.getElem?_toList, this]
  simp [friL]
theorem rowF_owns {w : World} {g cap : Nat} {l : List FR} (h : RowF w g cap l) : w.ownsRow 0 134 10 (.slice (some ⟨g, 0, none⟩) l.length cap) l.length (l.flatMap friL) := by
 obtain ⟨cur, h1, h2, h3⟩ := h.cur
 refine ⟨flat_len 10 friL friL_len l, .inr ⟨g, cap, cur, rfl, Nat.zero_le _, h1, h.le, h.max, h2, ?_⟩⟩
 apply List.ext_getElem?
 intro k
 rw [List.getElem?_take]
 by_cases hk : k < l.length * 10
 ·rw [if_pos hk]
  have hi : k / 10 < l.length := by omega
  have e : k = k / 10 * 10 + k % 10 := by omega
  rw [e, flat_at 10 (by omega) friL friL_len l (k / 10) hi (k % 10) (by omega), Array.getElem?_toList, h3 _ hi _ (by omega)]
  simp [friL]
 ·rw [if_neg hk, List.getElem?_eq_none (by rw [flat_len 10 friL friL_len]; omega)]
theorem worR_owns {w : World} {ow : Nat → Nat} {wb : Nat} {v : Value} {xs : List FR} {now : Int} (h : WorR w ow wb v xs now) : w.ownsRow 0 134 10 v xs.length (xs.flatMap friL) ∧ ∀ k, v.ownBlock = some k → ow k = 2 := by
 rcases h.fls with ⟨rfl, rfl⟩ | ⟨gf, cap, rfl, h2, h3⟩
 ·exact ⟨by simpa using World.ownsRow_nil _ _ _ _, fun k hk => by simp [Value.ownBlock] at hk⟩
 ·exact ⟨rowF_owns h2, fun k hk => by simp [Value.ownBlock] at hk; rw [← hk]; exact h3⟩
structure CopyI (w wx : World) (cb : Nat) (xs : List FR) (now : Int) (i : Nat) (v : Value) (ys : List FR) (ow : Nat → Nat) : Prop where
 wor : WorR wx ow cb v ys now
 new : ∀ k, ow k ≠ 0 → w.heap.size ≤ k
 len : ys.length = i
 same : ∀ j (h : j < ys.length) (h' : j < xs.length), ys[j].f = xs[j].f
 mod : Mod No w wx
theorem copy_next {w wx w3 w4 : World} {cb i n c3 : Nat} {xs ys : List FR} {now : Int} {v v2 : Value} {ow : Nat → Nat} {a3 : Option Addr} (h : CopyI w wx cb xs now i v ys ow) (hi : i < xs.length) (h20 : xs.length ≤ 20)
  (hwf : Wf xs[i].f.pla xs[i].f.seats) (hn : n = xs[i].f.seats.length)
  (ho3 : w3.ownsRow 0 63 6 (.slice a3 n c3) n (xs[i].f.seats.flatMap seaL)) (hg3 : (wx.alloc (.cells (friV xs[i]) 134)).grownBy w3 (Value.slice none 0 0).ownBlock) (hs3 : Stays (wx.alloc (.cells (friV xs[i]) 134)) (.slice none 0 0) (.slice a3 n c3))
  (o : Obj) (hv2 : ∀ g', a3 = some ⟨g', 0, none⟩ → w4.ownsRow 0 134 10 v2 (i + 1) (ys.flatMap friL ++ friL ⟨xs[i].f, g', c3⟩))
  (hg4 : ((w3.setCell ⟨wx.heap.size, 8, none⟩ (.slice a3 n c3)).alloc o).drew.grownBy w4 v.ownBlock) (hs4 : Stays ((w3.setCell ⟨wx.heap.size, 8, none⟩ (.slice a3 n c3)).alloc o).drew v v2) :
  ∃ ys' ow', CopyI w (w4.setCell ⟨cb, 0, none⟩ v2) cb xs now (i + 1) v2 ys' ow' := by
 have hpos : 0 < xs[i].f.seats.length := by
  have h1 := hwf.len
  obtain ⟨b1, _, b2, _⟩ := Fli.wf.bounds hwf
  have h1 : (xs[i].f.seats.length : Int) = xs[i].f.pla.rows * xs[i].f.pla.cols := h1
  have b1 : 1 ≤ xs[i].f.pla.rows := b1
  have b2 : 1 ≤ xs[i].f.pla.cols := b2
  have : 0 < xs[i].f.pla.rows * xs[i].f.pla.cols := Int.mul_pos (by omega) (by omega)
  omega
 obtain ⟨g', rfl⟩ : ∃ g', a3 = some ⟨g', 0, none⟩ := by
  obtain ⟨_, h1 | ⟨g, cap, cur, hv, _⟩⟩ := ho3
  ·omega
  ·injection hv with e1
   exact ⟨g, e1⟩
 rw [hn] at ho3 hg4 hs4
 have hrs := (rowS_of ho3).2
 have hgn : wx.heap.size < g' := by
  rcases hs3 g' rfl with h1 | h1
  ·simp [Value.ownBlock] at h1
  ·simp at h1; omega
 have hg3l := hrs.lt
 have m3 : Mod No wx w3 := ((Mod.refl No wx).alloc _).grown hg3 (by simp [Value.ownBlock])
 have m3' : Mod No wx (w3.setCell ⟨wx.heap.size, 8, none⟩ (.slice (some ⟨g', 0, none⟩) xs[i].f.seats.length c3)) := m3.setCell (.inr (Nat.le_refl _)) _
 obtain ⟨hown, hv2k⟩ := worR_owns h.wor
 have m4 : Mod (fun k => ow k = 2) wx w4 := by
  refine ((m3'.mono (S' := fun k => ow k = 2) (fun _ _ x => x.elim)).alloc o).drew.grown hg4 (fun k hk => .inl ?_)
  exact hv2k k hk
 have hcb : ow cb = 1 := h.wor.mine
 have hcbl := h.wor.has.lt
 have ho4 := hv2 g' rfl
 obtain ⟨gf, cf, hv2e⟩ : ∃ gf cf, v2 = .slice (some ⟨gf, 0, none⟩) (i + 1) cf := by
  obtain ⟨_, h1 | ⟨g, cap, cur, hv, _⟩⟩ := ho4
  ·omega
  ·exact ⟨g, cap, hv⟩
 subst hv2e
 have hy : (ys ++ [(⟨xs[i].f, g', c3⟩ : FR)]).length = i + 1 := by simp [h.len]
 have hrf : RowF w4 gf cf (ys ++ [⟨xs[i].f, g', c3⟩]) := by
  have := ho4
  rw [← hy] at this
  refine (rowF_of (n := (ys ++ [(⟨xs[i].f, g', c3⟩ : FR)]).length) ?_).2
  simpa using this
 have w3l : wx.heap.size < w3.heap.size := by omega
 have hgf : ow gf = 2 ∨ w3.heap.size ≤ gf := by
  rcases hs4 gf rfl with h1 | h1
  ·exact .inl (hv2k gf h1)
  ·right; simp at h1; omega
 have gfcb : gf ≠ cb := by
  rintro rfl
  rcases hgf with h1 | h1 <;> omega
 have gfg : gf ≠ g' := by
  rintro rfl
  rcases hgf with h1 | h1
  ·have := h.wor.old gf (by omega); omega
  ·omega
 have hlast : ∀ j (hj : j < (ys ++ [(⟨xs[i].f, g', c3⟩ : FR)]).length), j < i ∨ j = i := fun j hj => by rw [hy] at hj; omega
 have g'cb : g' ≠ cb := by omega
 have ow0 : ow g' = 0 := by
  by_cases e : ow g' = 0
  ·exact e
  ·have := h.wor.old g' e; omega
 refine ⟨ys ++ [⟨xs[i].f, g', c3⟩], fun k => if k = g' then i + 3 else if k = gf then 2 else ow k, ⟨?_, ?_, ?_, ?_, ?_, ?_⟩, fun k hk => ?_, hy, fun j hj hj' => ?_, ?_⟩
 ·exact (m4.has h.wor.has (by rw [hcb]; omega)).set 0 _
 ·refine .inr ⟨gf, cf, by rw [hy], hrf.mod (S := fun k => k = cb) ((Mod.refl (fun k => k = cb) w4).setCell (p := ⟨cb, 0, none⟩) (.inl rfl) _) gfcb, ?_⟩
  simp [gfg]
 ·simp [g'cb.symm, gfcb.symm, hcb]
 ·intro k hk
  have l4 : w3.heap.size ≤ w4.heap.size := by
   have := hg4.size
   simp at this
   omega
  simp only [World.size_setCell]
  by_cases e : k = g'
  ·omega
  ·by_cases e2 : k = gf
   ·rw [e2]; exact hrf.lt
   ·simp only [if_neg e, if_neg e2] at hk
    have := h.wor.old k hk
    omega
 ·intro j hj
  have mc : Mod (fun k => k = cb) w4 (w4.setCell ⟨cb, 0, none⟩ (.slice (some ⟨gf, 0, none⟩) (i + 1) cf)) := (Mod.refl (fun k => k = cb) w4).setCell (p := ⟨cb, 0, none⟩) (.inl rfl) _
  rcases hlast j hj with e | e
  ·have hjy : j < ys.length := by rw [h.len]; exact e
   rw [List.getElem_append_left hjy]
   obtain ⟨s1, s2, s3⟩ := h.wor.seats j hjy
   have n1 : ys[j].g ≠ g' := fun q => by rw [q, ow0] at s2; omega
   have n2 : ys[j].g ≠ gf := fun q => by
    rcases hgf with h1 | h1
    ·rw [q, h1] at s2; omega
    ·have := h.wor.old ys[j].g (by rw [s2]; omega); omega
   have n3 : ys[j].g ≠ cb := fun q => by rw [q, hcb] at s2; omega
   refine ⟨(s1.mod m4 (by rw [s2]; omega)).mod mc n3, by simp [n1, n2, s2], s3⟩
  ·subst e
   have hge : ¬ j < ys.length := by rw [h.len]; omega
   rw [List.getElem_append_right (by omega)]
   simp only [h.len, Nat.sub_self, List.getElem_cons_zero]
   have r2 : RowS (w3.setCell ⟨wx.heap.size, 8, none⟩ (.slice (some ⟨g', 0, none⟩) xs[j].f.seats.length c3)) g' c3 xs[j].f.seats := hrs.ne_cell (by show g' ≠ wx.heap.size; omega) _
   have r3 : RowS w4 g' c3 xs[j].f.seats := r2.mod (S := fun k => ow k = 2) (((Mod.refl (fun k => ow k = 2) _).alloc o).drew.grown hg4 (fun k hk => .inl (hv2k k hk))) (by rw [ow0]; omega)
   exact ⟨r3.mod mc g'cb, by simp, hwf⟩
 ·rw [hy]; omega
 ·by_cases e : k = g'
  ·have := h.mod.size; omega
  ·by_cases e2 : k = gf
   ·have := h.mod.size
    rcases hgf with h1 | h1
    ·rw [e2]; exact h.new gf (by omega)
    ·omega
   ·simp only [if_neg e, if_neg e2] at hk
    exact h.new k hk
 ·rcases hlast j hj with e | e
  ·have hjy : j < ys.length := by rw [h.len]; exact e
   rw [List.getElem_append_left hjy]
   exact h.same j hjy hj'
  ·subst e
   rw [List.getElem_append_right (by rw [h.len]; omega)]
   simp [h.len]
 ·refine (h.mod.trans' m4 (fun k hk hl => ?_)).setCell (.inr ?_) _
  ·have := h.new k (by omega)
   omega
  ·exact h.new cb (by omega)
set_option maxHeartbeats 8000000
theorem info157 : (Tryz.prog.info? 134).map (fun i => (i.zero, i.size, i.bytes)) = some (some (.agg #[.int .i64 0, .int .i64 0, .int .i64 0, .int .i64 0, .int .i64 0, .int .i64 0, .int .i64 0, .int .i64 0, .slice none 0 0, .int .i64 0]), 10, 96) := by kernel_rfl
theorem seaL_one (l : List Sea) : ∀ u ∈ l.flatMap seaL, u.oneCell' = true := by
 intro u hu
 obtain ⟨s, _, hs⟩ := List.mem_flatMap.1 hu
 simp [seaL, seaV] at hs
 rcases hs with rfl | rfl | rfl | rfl | rfl | rfl <;> rfl
theorem copy_start (w : World) (now : Int) (xs : List FR) : CopyI w (w.alloc (.cells #[.slice none 0 0, .int .i64 now] 72)) w.heap.size xs now 0 (.slice none 0 0) [] (fun k => if k = w.heap.size then 1 else 0) := by
 refine ⟨⟨Has.new w _ _, .inl ⟨rfl, rfl⟩, if_pos rfl, fun k hk => ?_, fun i hi => absurd hi (Nat.not_lt_zero _), by simp⟩, fun k hk => ?_, rfl, fun j hj => absurd hj (Nat.not_lt_zero _), (Mod.refl No w).alloc _⟩
 ·by_cases e : k = w.heap.size
  ·simp [e]
  ·exact absurd (if_neg e) hk
 ·by_cases e : k = w.heap.size
  ·omega
  ·exact absurd (if_neg e) hk
theorem wcopy_row {w : World} {ow : Nat → Nat} {wb gf cap : Nat} {xs : List FR} {now : Int} (h : WorR w ow wb (.slice (some ⟨gf, 0, none⟩) xs.length cap) xs now) (hne : 0 < xs.length) :
  Calls Tryz.prog 26 #[.pointer (some ⟨wb, 0, none⟩)] w fun e w' => ∃ v ys ow', e = .returned (.pointer (some ⟨w.heap.size, 0, none⟩)) ∧ CopyI w w' w.heap.size xs now xs.length v ys ow' := by
 have hc := h.has.cell
 have H := hide h
 have few := h.few
 have I0 := hide (copy_start w now xs)
 obtain ⟨og, rf⟩ := h.parts rfl hne
 have RF := hide rf
 have HW := hide h.has
 clear h rf og hne
 obtain ⟨i114, q0, q1, q2, q3⟩ := info_parts info114
 obtain ⟨i157, r0, r1, r2, r3⟩ := info_parts info157
 go_enter Tryz.func26, Tryz.ntmps26
 go_wp2_with fail
 generalize hcb : w.heap.size = cb at *
 go_loopw [4] (fun s4 wr => ∃ i : Nat, s4 = .int .i64 i ∧ i ≤ xs.length ∧ ∃ v ys ow', Hid (CopyI w wr cb xs now i v ys ow')) (fun s4 _ => xs.length - (intOf s4).toNat)
 case atStart => exact ⟨0, rfl, by omega, _, _, _, I0⟩
 case round =>
  obtain ⟨i, rfl, hi, v, ys, ow', I1⟩ := hrel
  clear I0 hc
  have v0 : wr.cell? ⟨wb, 0, none⟩ = some (.slice (some ⟨gf, 0, none⟩) xs.length cap) := ((unhide I1).mod.has (unhide HW) (fun x => x)).cell 0
  by_cases hix : i < xs.length
  ·have hixi : (i : Int) < (xs.length : Int) := by omega
   have h0i : (0 : Int) ≤ i := by omega
   have hi1 : IntKind.i64.wrap ((i : Int) + 1) = ((i + 1 : Nat) : Int) := by rw [wrap_id _ (by omega) (by omega)]; rfl
   have rf1 := (unhide RF).mod (unhide I1).mod (fun x => x)
   have g0 : wr.cell? ⟨gf, i * 10, none⟩ = some (.int .i64 xs[i].f.num) := rf1.cell i hix 0 (by omega)
   have g1 : wr.cell? ⟨gf, i * 10 + 1, none⟩ = some (.int .i64 xs[i].f.pla.rows) := rf1.cell i hix 1 (by omega)
   have g2 : wr.cell? ⟨gf, i * 10 + 2, none⟩ = some (.int .i64 xs[i].f.pla.cols) := rf1.cell i hix 2 (by omega)
   have g3 : wr.cell? ⟨gf, i * 10 + 3, none⟩ = some (.int .i64 xs[i].f.pla.front) := rf1.cell i hix 3 (by omega)
   have g4 : wr.cell? ⟨gf, i * 10 + 4, none⟩ = some (.int .i64 xs[i].f.pla.l0) := rf1.cell i hix 4 (by omega)
   have g5 : wr.cell? ⟨gf, i * 10 + 5, none⟩ = some (.int .i64 xs[i].f.pla.l1) := rf1.cell i hix 5 (by omega)
   have g6 : wr.cell? ⟨gf, i * 10 + 6, none⟩ = some (.int .i64 xs[i].f.pla.l2) := rf1.cell i hix 6 (by omega)
   have g7 : wr.cell? ⟨gf, i * 10 + 7, none⟩ = some (.int .i64 xs[i].f.pla.l3) := rf1.cell i hix 7 (by omega)
   have g8 : wr.cell? ⟨gf, i * 10 + 8, none⟩ = some (.slice (some ⟨xs[i].g, 0, none⟩) xs[i].f.seats.length xs[i].cap) := rf1.cell i hix 8 (by omega)
   have g9 : wr.cell? ⟨gf, i * 10 + 9, none⟩ = some (.int .i64 xs[i].f.ep) := rf1.cell i hix 9 (by omega)
   obtain ⟨rs, os, wf⟩ := (unhide H).seats i hix
   have hl120 : xs[i].f.seats.length ≤ 120 := wf_len wf
   have rs1 := rs.mod (unhide I1).mod (fun x => x)
   have rs2 := rs1.mod ((Mod.refl No wr).alloc (.cells (friV xs[i]) 134)) (fun x => x)
   have HREAD := hide (reads_of_owns (rowS_owns rs2))
   have HONE := hide (seaL_one xs[i].f.seats)
   have HLEN := hide (flat_len 6 seaL seaL_len xs[i].f.seats)
   have WF := hide wf
   have FB := hide (Has.new wr (friV xs[i]) 134)
   have hown := worR_owns (unhide I1).wor
   rw [(unhide I1).len] at hown
   obtain ⟨a2, c2, rfl⟩ := slice_of_owns hown.1
   have HOWN := hide hown
   have CB := hide ((unhide I1).wor.has.alloc (.cells (friV xs[i]) 134))
   have LCB := (unhide I1).wor.has.lt
   have NEX := hide fun (w3 w4 : World) (a3 : Option Addr) (c3 : Nat) (v2 : Value) => copy_next (w3 := w3) (w4 := w4) (a3 := a3) (c3 := c3) (v2 := v2) (unhide I1) hix (by omega) wf rfl
   clear rf1 rs os wf rs1 rs2 hown
   unfold friV at *
   go_wp2_with (first | (at_builtin; refine wpList_append_row rfl (.tmp 29) (.tmp 31) 61 rfl 63 i114 _ 6 48 Tryz.underlying61 q0 q1 q2 q3 rfl (by decide) (.slice none 0 0) 0 [] (by simp [Act.eval]) (by exact World.ownsRow_nil _ _ _ _) (.slice (some ⟨xs[i].g, 0, none⟩) xs[i].f.seats.length xs[i].cap) xs[i].f.seats.length (xs[i].f.seats.flatMap seaL) (by simp [Act.eval]) (by exact unhide HREAD) (unhide HLEN) (unhide HONE) (by unfold maxLen; omega) (by omega) ?_; intro v' w3 ho3 hg3 hs3; obtain ⟨a3, c3, rfl⟩ := slice_of_owns ho3; have fb3 := (Has.grown (unhide FB) hg3 (by simp [Value.ownBlock])).cell; have ff3 := (Has.grown (unhide FB) hg3 (by simp [Value.ownBlock])).frozen; have cb3 : w3.cell? ⟨cb, 0, none⟩ = some (.slice a2 i c2) := (Has.grown (unhide CB) hg3 (by simp [Value.ownBlock])).cell 0; have cf3 := (Has.grown (unhide CB) hg3 (by simp [Value.ownBlock])).frozen; have lf3 := (Has.grown (unhide FB) hg3 (by simp [Value.ownBlock])).lt))
   rw [Nat.zero_add, List.nil_append] at ho3
   simp only [Nat.zero_add] at hs3
   have lcb3 : cb < w3.heap.size := by omega
   have M3 : Mod No wr (w3.setCell ⟨wr.heap.size, 8, none⟩ (.slice a3 xs[i].f.seats.length c3)) := (((Mod.refl No wr).alloc _).grown hg3 (by simp [Value.ownBlock])).setCell (.inr (Nat.le_refl _)) _
   have M4 : Mod No wr (((w3.setCell ⟨wr.heap.size, 8, none⟩ (.slice a3 xs[i].f.seats.length c3)).alloc (.cells #[.int .i64 xs[i].f.num, .int .i64 xs[i].f.pla.rows, .int .i64 xs[i].f.pla.cols, .int .i64 xs[i].f.pla.front, .int .i64 xs[i].f.pla.l0, .int .i64 xs[i].f.pla.l1, .int .i64 xs[i].f.pla.l2, .int .i64 xs[i].f.pla.l3, .slice a3 xs[i].f.seats.length c3, .int .i64 xs[i].f.ep] 134)).drew) := (M3.alloc _).drew
   have HOWN4 := hide (M4.owns (unhide HOWN).1 (fun _ _ x => x))
   have HREAD4 := hide (show Reads (((w3.setCell ⟨wr.heap.size, 8, none⟩ (.slice a3 xs[i].f.seats.length c3)).alloc (.cells #[.int .i64 xs[i].f.num, .int .i64 xs[i].f.pla.rows, .int .i64 xs[i].f.pla.cols, .int .i64 xs[i].f.pla.front, .int .i64 xs[i].f.pla.l0, .int .i64 xs[i].f.pla.l1, .int .i64 xs[i].f.pla.l2, .int .i64 xs[i].f.pla.l3, .slice a3 xs[i].f.seats.length c3, .int .i64 xs[i].f.ep] 134)).drew) (.slice (some ⟨w3.heap.size, 0, none⟩) 1 1) 1 [.int .i64 xs[i].f.num, .int .i64 xs[i].f.pla.rows, .int .i64 xs[i].f.pla.cols, .int .i64 xs[i].f.pla.front, .int .i64 xs[i].f.pla.l0, .int .i64 xs[i].f.pla.l1, .int .i64 xs[i].f.pla.l2, .int .i64 xs[i].f.pla.l3, .slice a3 xs[i].f.seats.length c3, .int .i64 xs[i].f.ep] from
    .inr ⟨⟨w3.heap.size, 0, none⟩, 1, rfl, fun j u hu => by
     have hN := (Has.new (w3.setCell ⟨wr.heap.size, 8, none⟩ (.slice a3 xs[i].f.seats.length c3)) #[.int .i64 xs[i].f.num, .int .i64 xs[i].f.pla.rows, .int .i64 xs[i].f.pla.cols, .int .i64 xs[i].f.pla.front, .int .i64 xs[i].f.pla.l0, .int .i64 xs[i].f.pla.l1, .int .i64 xs[i].f.pla.l2, .int .i64 xs[i].f.pla.l3, .slice a3 xs[i].f.seats.length c3, .int .i64 xs[i].f.ep] 134).drew
     rw [World.size_setCell] at hN
     rw [Addr.add_mid, Nat.zero_add, hN.cell, ← Array.getElem?_toList]
     exact hu⟩)
   have HCB4 := hide (M4.has (unhide I1).wor.has (fun x => x))
   have HNE := hide (show Option.some cb ≠ (Value.slice a2 i c2).ownBlock from fun e => by
    have h2 := (unhide HOWN).2 cb e.symm
    have h1 := (unhide I1).wor.mine
    omega)
   have NEX3 := hide fun (w4 : World) (v2 : Value) => (unhide NEX) w3 w4 a3 c3 v2 ho3 hg3 hs3 (.cells #[.int .i64 xs[i].f.num, .int .i64 xs[i].f.pla.rows, .int .i64 xs[i].f.pla.cols, .int .i64 xs[i].f.pla.front, .int .i64 xs[i].f.pla.l0, .int .i64 xs[i].f.pla.l1, .int .i64 xs[i].f.pla.l2, .int .i64 xs[i].f.pla.l3, .slice a3 xs[i].f.seats.length c3, .int .i64 xs[i].f.ep] 134)
   have HO4 := hide (show ∀ u ∈ ([.int .i64 xs[i].f.num, .int .i64 xs[i].f.pla.rows, .int .i64 xs[i].f.pla.cols, .int .i64 xs[i].f.pla.front, .int .i64 xs[i].f.pla.l0, .int .i64 xs[i].f.pla.l1, .int .i64 xs[i].f.pla.l2, .int .i64 xs[i].f.pla.l3, .slice a3 xs[i].f.seats.length c3, .int .i64 xs[i].f.ep] : List Value), u.oneCell' = true from by
    intro u hu
    simp at hu
    rcases hu with rfl | rfl | rfl | rfl | rfl | rfl | rfl | rfl | rfl | rfl <;> rfl)
   clear M3 M4 NEX ho3 hg3 hs3 HOWN HREAD HONE HLEN WF FB CB I1 g0 g1 g2 g3 g4 g5 g6 g7 g8 g9 v0
   go_region_law (refine step_append_row rfl (.tmp 38) (.tmp 40) 70 rfl 134 i157 _ 10 96 Tryz.underlying70 r0 r1 r2 r3 rfl (by decide) (.slice a2 i c2) i (ys.flatMap friL) (by simp [Act.eval, Act.put]) (by exact unhide HOWN4) (.slice (some ⟨w3.heap.size, 0, none⟩) 1 1) 1 [.int .i64 xs[i].f.num, .int .i64 xs[i].f.pla.rows, .int .i64 xs[i].f.pla.cols, .int .i64 xs[i].f.pla.front, .int .i64 xs[i].f.pla.l0, .int .i64 xs[i].f.pla.l1, .int .i64 xs[i].f.pla.l2, .int .i64 xs[i].f.pla.l3, .slice a3 xs[i].f.seats.length c3, .int .i64 xs[i].f.ep] (by simp [Act.eval, Act.put]) (by exact unhide HREAD4) rfl (unhide HO4) (by unfold maxLen; omega) (by omega) ?_; intro v2 w4 ho4 hg4 hs4; obtain ⟨a4, c4, rfl⟩ := slice_of_owns ho4; have hk4 := (Has.grown (by exact unhide HCB4) hg4 (unhide HNE)).cell 0; have hf4 := (Has.grown (by exact unhide HCB4) hg4 (unhide HNE)).frozen)
   all_goals go_wp2
   all_goals
    obtain ⟨ys', ow2, hC⟩ := (unhide NEX3) _ _ (fun g' hg' => by subst hg'; exact ho4) hg4 hs4
    exact ⟨⟨i + 1, rfl, by omega, _, _, _, hC⟩, by simp [intOf]; omega⟩
  ·have hixi : ¬ (i : Int) < (xs.length : Int) := by omega
   have e : i = xs.length := by omega
   subst e
   go_wp2
   go_ret
   exact ⟨rfl, v, ys, ow', unhide I1⟩
theorem wcopy_nil {w : World} {wb : Nat} {now : Int} (h : Has w wb #[.slice none 0 0, .int .i64 now] 72) :
  Calls Tryz.prog 26 #[.pointer (some ⟨wb, 0, none⟩)] w fun e w' => e = .returned (.pointer (some ⟨w.heap.size, 0, none⟩)) ∧ w' = w.alloc (.cells #[.slice none 0 0, .int .i64 now] 72) := by
 have hc := h.cell
 have hlt := h.lt
 clear h
 go_enter Tryz.func26, Tryz.ntmps26
 go_wp2_with fail
 go_loopw [4] (fun s4 wr => s4 = .int .i64 0 ∧ wr = w.alloc (.cells #[.slice none 0 0, .int .i64 now] 72)) (fun _ _ => 0)
 case atStart => exact ⟨rfl, rfl⟩
 case round =>
  obtain ⟨rfl, rfl⟩ := hrel
  go_wp2
  go_ret
  exact ⟨rfl, rfl⟩
theorem wcopy_any {w : World} {ow : Nat → Nat} {wb : Nat} {v : Value} {xs : List FR} {now : Int} (h : WorR w ow wb v xs now) :
  Calls Tryz.prog 26 #[.pointer (some ⟨wb, 0, none⟩)] w fun e w' => ∃ v' ys ow', e = .returned (.pointer (some ⟨w.heap.size, 0, none⟩)) ∧ CopyI w w' w.heap.size xs now xs.length v' ys ow' := by
 have h0 := h
 rcases h.fls with ⟨rfl, rfl⟩ | ⟨gf, cap, rfl, h2, h3⟩
 ·refine (wcopy_nil h.has).mono ?_
  rintro e w' ⟨rfl, rfl⟩
  exact ⟨_, _, _, rfl, copy_start w now []⟩
 ·by_cases hne : 0 < xs.length
  ·exact wcopy_row h hne
  ·have : xs = [] := List.eq_nil_of_length_eq_zero (by omega)
   subst this
   have hc := h.has.cell
   have hlt := h.has.lt
   clear h h0 h2 h3 hne
   have I0 := hide (copy_start w now ([] : List FR))
   go_enter Tryz.func26, Tryz.ntmps26
   go_wp2_with fail
   go_loopw [4] (fun s4 wr => s4 = .int .i64 0 ∧ wr = w.alloc (.cells #[.slice none 0 0, .int .i64 now] 72)) (fun _ _ => 0)
   case atStart => exact ⟨rfl, rfl⟩
   case round =>
    obtain ⟨rfl, rfl⟩ := hrel
    go_wp2
    go_ret
    exact ⟨_, _, _, rfl, unhide I0⟩
theorem added_twice {w : World} {ow : Nat → Nat} {wb : Nat} {v : Value} {xs : List FR} {now : Int} (h : WorR w ow wb v xs now) (c : Cmd) (i : Nat) (hf : findN xs c.flight = i) :
  Calls Tryz.prog 53 #[.pointer (some ⟨wb, 0, none⟩), .agg (cmdCells c)] w fun e w' => e = .returned (.int .i64 3) ∧ Mod No w w' := by
 have HF := (h.mod ((Mod.refl No w).alloc (.cells (cmdCells c) 41)) (fun _ _ x => x)).find c.flight
 rw [hf] at HF
 have HF := hide HF
 have M0 := hide ((Mod.refl No w).alloc (.cells (cmdCells c) 41))
 have h0 : (i : Int) ≥ 0 := by omega
 clear h hf
 unfold cmdCells at *
 go_enter Tryz.func53, Tryz.ntmps53
 go_wp2_with fail
 refine (unhide HF).mono ?_
 rintro e w1 ⟨rfl, rfl⟩
 go_wp2
 go_ret
 exact ⟨rfl, unhide M0⟩
theorem added_shape {w : World} {ow : Nat → Nat} {wb : Nat} {v : Value} {xs : List FR} {now : Int} (h : WorR w ow wb v xs now) (c : Cmd) (hf : findN xs c.flight = -1) (hp : ¬ (c.pla.sized = true ∧ c.pla.limited = true)) :
  Calls Tryz.prog 53 #[.pointer (some ⟨wb, 0, none⟩), .agg (cmdCells c)] w fun e w' => e = .returned (.int .i64 4) ∧ Mod No w w' := by
 have HF := (h.mod ((Mod.refl No w).alloc (.cells (cmdCells c) 41)) (fun _ _ x => x)).find c.flight
 rw [hf] at HF
 have HF := hide HF
 have HS := hide fun W => rsized_any c.pla W
 have HL := hide fun W => rlimited_any c.pla W
 have M0 := hide ((Mod.refl No w).alloc (.cells (cmdCells c) 41))
 have B0 := hide (Has.new w (cmdCells c) 41)
 clear h hf
 unfold plaV at HS HL
 unfold cmdCells at *
 have hps : c.pla.sized = false ∨ (c.pla.sized = true ∧ c.pla.limited = false) := by
  cases h1 : c.pla.sized <;> cases h2 : c.pla.limited <;> simp_all
 clear hp
 rcases hps with h1 | ⟨h1, h2⟩
 ·rw [h1] at HS
  generalize c.pla.limited = lm at *
  clear h1
  go_enter Tryz.func53, Tryz.ntmps53
  go_wp2_with fail
  refine (unhide HF).mono ?_
  rintro e w1 ⟨rfl, rfl⟩
  have hb := (unhide B0).cell
  have lb := (unhide B0).lt
  go_wp2_with fail
  refine ((unhide HS) _).mono ?_
  rintro e w2 ⟨rfl, m2⟩
  have hb2 := (m2.has (unhide B0) (fun x => x)).cell
  have lb2 := (m2.has (unhide B0) (fun x => x)).lt
  clear hb lb
  go_wp2_with fail
  refine ((unhide HL) _).mono ?_
  rintro e w3 ⟨rfl, m3⟩
  go_wp2
  go_ret
  exact ⟨rfl, ((unhide M0).trans m2).trans m3⟩
 ·rw [h1] at HS
  rw [h2] at HL
  clear h1 h2
  go_enter Tryz.func53, Tryz.ntmps53
  go_wp2_with fail
  refine (unhide HF).mono ?_
  rintro e w1 ⟨rfl, rfl⟩
  have hb := (unhide B0).cell
  have lb := (unhide B0).lt
  go_wp2_with fail
  refine ((unhide HS) _).mono ?_
  rintro e w2 ⟨rfl, m2⟩
  have hb2 := (m2.has (unhide B0) (fun x => x)).cell
  have lb2 := (m2.has (unhide B0) (fun x => x)).lt
  clear hb lb
  go_wp2_with fail
  refine ((unhide HL) _).mono ?_
  rintro e w3 ⟨rfl, m3⟩
  go_wp2
  go_ret
  exact ⟨rfl, ((unhide M0).trans m2).trans m3⟩
end Go.Proofs.YthhibagcpjeihaaGreat
