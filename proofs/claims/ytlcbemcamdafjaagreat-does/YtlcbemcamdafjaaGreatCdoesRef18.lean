import Derived.Test.YtlcbemcamdafjaaGreatCdoesRef16Keep2
import Derived.Test.YtlcbemcamdafjaaGreatCdoesTape2Ref17
/- The document's answer: the counts of a flight. -/
namespace Go.Proofs.YtlcbemcamdafjaaGreat
open Go.RowKit
open M
set_option linter.unusedVariables false
set_option linter.unusedSimpArgs false
set_option maxRecDepth 100000
set_option maxHeartbeats 20000000

theorem Has.froz0 {w : World} {b : Nat} {cs : Array Value} {T : TypeId} (h : Has w b cs T) : ∀ o, w.frozen? ⟨b, o, none⟩ = false := fun o => h.frozen o
theorem size51 : (Tryz.prog.info? 91).map (·.size) = some 12 := by kernel_rfl
theorem row51 : (Tryz.prog.underlying 91).map (·.isRow) = some true := by kernel_rfl

/-- What stands while seats are counted. -/
structure CntI (w wx : World) (x : FR) (i : Nat) : Prop where
  mod : Mod No w wx
  res : Has wx w.heap.size zero51 91
  box : Has wx (w.heap.size + 1) (friV x) 126
  tot : Has wx (w.heap.size + 1 + 1) (tF (cA x.f.pla (x.f.seats.take i)) (cB x.f.pla (x.f.seats.take i)) (cS (x.f.seats.take i))) 91

theorem CntI.start (w : World) (x : FR) : CntI w (((w.alloc (.cells zero51 91)).alloc (.cells (friV x) 126)).alloc (.cells zero51 91)) x 0 := by
  refine ⟨(((Mod.refl No w).alloc _).alloc _).alloc _, ((Has.new w zero51 91).alloc _).alloc _, ?_, ?_⟩
  · have := (Has.new (w.alloc (.cells zero51 91)) (friV x) 126).alloc (.cells zero51 91)
    rw [World.size_alloc] at this
    exact this
  · have := Has.new ((w.alloc (.cells zero51 91)).alloc (.cells (friV x) 126)) zero51 91
    rw [World.size_alloc, World.size_alloc] at this
    exact this

theorem CntI.alloc {w wx : World} {x : FR} {i : Nat} (h : CntI w wx x i) (o : Obj) : CntI w (wx.alloc o) x i := ⟨h.mod.alloc _, h.res.alloc _, h.box.alloc _, h.tot.alloc _⟩

/-- A cell of the counts is written. -/
theorem CntI.put {w wx : World} {x : FR} {i j : Nat} (h : CntI w wx x i) (o : Nat) (v : Value) (ht : (tF (cA x.f.pla (x.f.seats.take i)) (cB x.f.pla (x.f.seats.take i)) (cS (x.f.seats.take i))).setIfInBounds o v = tF (cA x.f.pla (x.f.seats.take j)) (cB x.f.pla (x.f.seats.take j)) (cS (x.f.seats.take j))) :
    CntI w (wx.setCell ⟨w.heap.size + 1 + 1, o, none⟩ v) x j :=
  ⟨h.mod.setCell (.inr (by show w.heap.size ≤ w.heap.size + 1 + 1; omega)) _, h.res.set_ne (by show w.heap.size ≠ w.heap.size + 1 + 1; omega) _, h.box.set_ne (by show w.heap.size + 1 ≠ w.heap.size + 1 + 1; omega) _, by rw [← ht]; exact h.tot.set o v⟩

theorem CntI.put2 {w wx : World} {x : FR} {i j : Nat} (h : CntI w wx x i) (o o' : Nat) (v v' : Value) (ht : ((tF (cA x.f.pla (x.f.seats.take i)) (cB x.f.pla (x.f.seats.take i)) (cS (x.f.seats.take i))).setIfInBounds o v).setIfInBounds o' v' = tF (cA x.f.pla (x.f.seats.take j)) (cB x.f.pla (x.f.seats.take j)) (cS (x.f.seats.take j))) :
    CntI w ((wx.setCell ⟨w.heap.size + 1 + 1, o, none⟩ v).setCell ⟨w.heap.size + 1 + 1, o', none⟩ v') x j :=
  ⟨(h.mod.setCell (p := ⟨w.heap.size + 1 + 1, o, none⟩) (.inr (by show w.heap.size ≤ w.heap.size + 1 + 1; omega)) _).setCell (.inr (by show w.heap.size ≤ w.heap.size + 1 + 1; omega)) _,
    (h.res.set_ne (a := ⟨w.heap.size + 1 + 1, o, none⟩) (by show w.heap.size ≠ w.heap.size + 1 + 1; omega) _).set_ne (by show w.heap.size ≠ w.heap.size + 1 + 1; omega) _,
    (h.box.set_ne (a := ⟨w.heap.size + 1 + 1, o, none⟩) (by show w.heap.size + 1 ≠ w.heap.size + 1 + 1; omega) _).set_ne (by show w.heap.size + 1 ≠ w.heap.size + 1 + 1; omega) _, by rw [← ht]; exact (h.tot.set o v).set o' v'⟩

theorem wcount_no {w : World} {ow : Nat → Nat} {wb : Nat} {v : Value} {xs : List FR} {now : Int} (h : WorR w ow wb v xs now) (n : Int) (hn : findN xs n = -1) :
    Calls Tryz.prog 36 #[.pointer (some ⟨wb, 0, none⟩), .int .i64 n] w fun e w' => e = .returned (.tuple #[.agg zero51, .int .i64 2]) ∧ Mod No w w' := by
  have HF := (h.mod ((Mod.refl No w).alloc (.cells zero51 91)) (fun _ _ x => x)).find n
  rw [hn] at HF
  have HF := hide HF
  have M0 := hide ((Mod.refl No w).alloc (.cells zero51 91))
  have B0 := hide (Has.new w zero51 91)
  clear h hn
  unfold zero51 at *
  go_enter Tryz.func36, Tryz.ntmps36
  go_wp2_with fail
  refine (unhide HF).mono ?_
  rintro e w1 ⟨rfl, rfl⟩
  go_wp2
  go_returns
  exact ⟨rfl, unhide M0⟩

theorem wcount_yes {w : World} {ow : Nat → Nat} {wb gf cap : Nat} {xs : List FR} {now : Int} (h : WorR w ow wb (.slice (some ⟨gf, 0, none⟩) xs.length cap) xs now) (n : Int) (i : Nat) (hi : i < xs.length) (hn : findN xs n = i) :
    Calls Tryz.prog 36 #[.pointer (some ⟨wb, 0, none⟩), .int .i64 n] w fun e w' => e = .returned (.tuple #[.agg (totV xs[i].f.pla xs[i].f.seats), .int .i64 0]) ∧ Mod No w w' := by
  have h1 := h.mod ((Mod.refl No w).alloc (.cells zero51 91)) (fun _ _ x => x)
  have HF := h1.find n
  rw [hn] at HF
  have HF := hide HF
  obtain ⟨og, rf⟩ := h1.parts rfl (by omega)
  obtain ⟨rs, os, wf⟩ := h.seats i hi
  have hc := h1.has.cell
  have fc : ∀ j, j < 10 → (w.alloc (.cells zero51 91)).cell? ⟨gf, i * 10 + j, none⟩ = (friV xs[i])[j]? := fun j hj => rf.cell i hi j hj
  have I0 := hide (CntI.start w xs[i])
  have RS := hide rs
  have WF := hide wf
  have hl120 : xs[i].f.seats.length ≤ 120 := wf_len wf
  have h0 : ¬ (i : Int) < 0 := by omega
  have h1 : (i : Int) < (xs.length : Int) := by omega
  clear h h1 rf rs os wf og
  generalize xs[i] = x at *
  have g0 : (w.alloc (.cells zero51 91)).cell? ⟨gf, i * 10, none⟩ = some (.int .i64 x.f.num) := fc 0 (by omega)
  have g1 : (w.alloc (.cells zero51 91)).cell? ⟨gf, i * 10 + 1, none⟩ = some (.int .i64 x.f.pla.rows) := fc 1 (by omega)
  have g2 : (w.alloc (.cells zero51 91)).cell? ⟨gf, i * 10 + 2, none⟩ = some (.int .i64 x.f.pla.cols) := fc 2 (by omega)
  have g3 : (w.alloc (.cells zero51 91)).cell? ⟨gf, i * 10 + 3, none⟩ = some (.int .i64 x.f.pla.front) := fc 3 (by omega)
  have g4 : (w.alloc (.cells zero51 91)).cell? ⟨gf, i * 10 + 4, none⟩ = some (.int .i64 x.f.pla.l0) := fc 4 (by omega)
  have g5 : (w.alloc (.cells zero51 91)).cell? ⟨gf, i * 10 + 5, none⟩ = some (.int .i64 x.f.pla.l1) := fc 5 (by omega)
  have g6 : (w.alloc (.cells zero51 91)).cell? ⟨gf, i * 10 + 6, none⟩ = some (.int .i64 x.f.pla.l2) := fc 6 (by omega)
  have g7 : (w.alloc (.cells zero51 91)).cell? ⟨gf, i * 10 + 7, none⟩ = some (.int .i64 x.f.pla.l3) := fc 7 (by omega)
  have g8 : (w.alloc (.cells zero51 91)).cell? ⟨gf, i * 10 + 8, none⟩ = some (.slice (some ⟨x.g, 0, none⟩) x.f.seats.length x.cap) := fc 8 (by omega)
  have g9 : (w.alloc (.cells zero51 91)).cell? ⟨gf, i * 10 + 9, none⟩ = some (.int .i64 x.f.ep) := fc 9 (by omega)
  have h1 : (i : Int) < (xs.length : Int) := by omega
  clear fc
  unfold zero51 friV at *
  go_enter Tryz.func36, Tryz.ntmps36
  go_wp2_with fail
  refine (unhide HF).mono ?_
  rintro e w1 ⟨rfl, rfl⟩
  go_wp2_with fail
  go_loopw [9] (fun s9 wx => ∃ q : Nat, s9 = .int .i64 q ∧ q ≤ x.f.seats.length ∧ Hid (CntI w wx x q)) (fun s9 _ => x.f.seats.length - (intOf s9).toNat)
  case atStart => exact ⟨0, rfl, by omega, I0⟩
  case round =>
    obtain ⟨q, rfl, hq, I1⟩ := hrel
    clear I0 g0 g1 g2 g3 g4 g5 g6 g7 g8 g9 hc HF
    have b3 : wr.cell? ⟨w.heap.size + 1, 3, none⟩ = some (.int .i64 x.f.pla.front) := (unhide I1).box.cell 3
    have b8 : wr.cell? ⟨w.heap.size + 1, 8, none⟩ = some (.slice (some ⟨x.g, 0, none⟩) x.f.seats.length x.cap) := (unhide I1).box.cell 8
    by_cases hql : q < x.f.seats.length
    · have hqi : (q : Int) < (x.f.seats.length : Int) := by omega
      have hq0 : (0 : Int) ≤ q := by omega
      have hq1 : IntKind.i64.wrap ((q : Int) + 1) = ((q + 1 : Nat) : Int) := by rw [wrap_id _ (by omega) (by omega)]; rfl
      have R1 := (unhide RS).mod (unhide I1).mod (fun x => x)
      have c0 := R1.row q hql
      have c1 := R1.col q hql
      have c2 := R1.st q hql
      have c3 := R1.pa q hql
      have c4 := R1.cl q hql
      have c5 := R1.un q hql
      have sw := (unhide WF).seat _ (List.getElem_mem hql)
      obtain ⟨k, hk⟩ : ∃ k : Nat, x.f.seats[q].cl = (k : Int) := ⟨x.f.seats[q].cl.toNat, by have := sw.c0; omega⟩
      have hk4 : k < 4 := by have := sw.c1; omega
      have hk4i : (k : Int) < 4 := by omega
      have hk0i : (0 : Int) ≤ k := by omega
      have hst : x.f.seats[q].st = 0 ∨ x.f.seats[q].st = 1 ∨ x.f.seats[q].st = 2 ∨ x.f.seats[q].st = 3 := by have := sw.s0; have := sw.s1; omega
      have HK := hide hk
      rw [hk] at c4
      have tz := (unhide I1).tot.froz0
      have sm := cnt_small x.f.pla x.f.seats q hl120
      have tcell := (unhide I1).tot.cell
      have ts : wr.cell? ⟨w.heap.size + 1 + 1, 8 + k, none⟩ = some (.int .i64 (cS (x.f.seats.take q) k)) := by rw [tcell, tF_s _ _ _ _ hk4]
      have lw := (unhide I1).tot.lt
      have lbx := (unhide I1).box.lt
      have ws : IntKind.i64.wrap (cS (x.f.seats.take q) k + 1) = cS (x.f.seats.take q) k + 1 := by have := (sm k).2.2; exact wrap_fit _ (by omega) (by omega)
      have CSY := hide (cS_sold x.f.seats q k hql hk)
      have CSN := hide (cS_not x.f.seats q hql)
      clear R1 sw hk
      rcases hst with hst | hst | hst | hst
      · have CF := hide (cA_front x.f.pla x.f.seats q 0 hql hst)
        have CR := hide (cB_rear x.f.pla x.f.seats q 0 hql hst)
        have HS := hide (show x.f.seats[q].sold = false from by unfold Sea.sold; rw [hst]; rfl)
        rw [hst] at c2
        have ta : wr.cell? ⟨w.heap.size + 1 + 1, 0, none⟩ = some (.int .i64 (cA x.f.pla (x.f.seats.take q) 0)) := tcell 0
        have tb : wr.cell? ⟨w.heap.size + 1 + 1, 4, none⟩ = some (.int .i64 (cB x.f.pla (x.f.seats.take q) 0)) := tcell 4
        have wa : IntKind.i64.wrap (cA x.f.pla (x.f.seats.take q) 0 + 1) = cA x.f.pla (x.f.seats.take q) 0 + 1 := by have := (sm 0).1; exact wrap_fit _ (by omega) (by omega)
        have wb' : IntKind.i64.wrap (cB x.f.pla (x.f.seats.take q) 0 + 1) = cB x.f.pla (x.f.seats.take q) 0 + 1 := by have := (sm 0).2.1; exact wrap_fit _ (by omega) (by omega)
        clear hst tcell sm
        by_cases hf : x.f.seats[q].row ≤ x.f.pla.front
        · have FIN := hide ((unhide I1).put (j := q + 1) 0 (.int .i64 (cA x.f.pla (x.f.seats.take q) 0 + 1)) (by rw [tF_seta _ _ _ 0 (by omega), ((unhide CF) hf).1, ((unhide CF) hf).2, (unhide CSN) (unhide HS)]))
          clear CF CR CSY CSN I1 HS HK RS WF
          go_wp2
          exact ⟨⟨q + 1, rfl, by omega, (unhide FIN).alloc _⟩, by simp [intOf]; omega⟩
        · have FIN := hide ((unhide I1).put (j := q + 1) (4 + 0) (.int .i64 (cB x.f.pla (x.f.seats.take q) 0 + 1)) (by rw [tF_setb _ _ _ 0 (by omega), ((unhide CR) hf).1, ((unhide CR) hf).2, (unhide CSN) (unhide HS)]))
          clear CF CR CSY CSN I1 HS HK RS WF
          go_wp2
          exact ⟨⟨q + 1, rfl, by omega, (unhide FIN).alloc _⟩, by simp [intOf]; omega⟩
      · have CF := hide (cA_front x.f.pla x.f.seats q 1 hql hst)
        have CR := hide (cB_rear x.f.pla x.f.seats q 1 hql hst)
        have HS := hide (show x.f.seats[q].sold = true from by unfold Sea.sold; rw [hst]; rfl)
        rw [hst] at c2
        have ta : wr.cell? ⟨w.heap.size + 1 + 1, 1, none⟩ = some (.int .i64 (cA x.f.pla (x.f.seats.take q) 1)) := tcell 1
        have tb : wr.cell? ⟨w.heap.size + 1 + 1, 5, none⟩ = some (.int .i64 (cB x.f.pla (x.f.seats.take q) 1)) := tcell 5
        have wa : IntKind.i64.wrap (cA x.f.pla (x.f.seats.take q) 1 + 1) = cA x.f.pla (x.f.seats.take q) 1 + 1 := by have := (sm 1).1; exact wrap_fit _ (by omega) (by omega)
        have wb' : IntKind.i64.wrap (cB x.f.pla (x.f.seats.take q) 1 + 1) = cB x.f.pla (x.f.seats.take q) 1 + 1 := by have := (sm 1).2.1; exact wrap_fit _ (by omega) (by omega)
        clear hst tcell sm
        by_cases hf : x.f.seats[q].row ≤ x.f.pla.front
        · have FIN := hide ((unhide I1).put2 (j := q + 1) 1 (8 + k) (.int .i64 (cA x.f.pla (x.f.seats.take q) 1 + 1)) (.int .i64 (cS (x.f.seats.take q) k + 1)) (by rw [tF_seta _ _ _ 1 (by omega), tF_sets _ _ _ k hk4, ((unhide CF) hf).1, ((unhide CF) hf).2, (unhide CSY) (unhide HS)]))
          clear CF CR CSY CSN I1 HS HK RS WF
          go_wp2
          exact ⟨⟨q + 1, rfl, by omega, (unhide FIN).alloc _⟩, by simp [intOf]; omega⟩
        · have FIN := hide ((unhide I1).put2 (j := q + 1) (4 + 1) (8 + k) (.int .i64 (cB x.f.pla (x.f.seats.take q) 1 + 1)) (.int .i64 (cS (x.f.seats.take q) k + 1)) (by rw [tF_setb _ _ _ 1 (by omega), tF_sets _ _ _ k hk4, ((unhide CR) hf).1, ((unhide CR) hf).2, (unhide CSY) (unhide HS)]))
          clear CF CR CSY CSN I1 HS HK RS WF
          go_wp2
          exact ⟨⟨q + 1, rfl, by omega, (unhide FIN).alloc _⟩, by simp [intOf]; omega⟩
      · have CF := hide (cA_front x.f.pla x.f.seats q 2 hql hst)
        have CR := hide (cB_rear x.f.pla x.f.seats q 2 hql hst)
        have HS := hide (show x.f.seats[q].sold = true from by unfold Sea.sold; rw [hst]; rfl)
        rw [hst] at c2
        have ta : wr.cell? ⟨w.heap.size + 1 + 1, 2, none⟩ = some (.int .i64 (cA x.f.pla (x.f.seats.take q) 2)) := tcell 2
        have tb : wr.cell? ⟨w.heap.size + 1 + 1, 6, none⟩ = some (.int .i64 (cB x.f.pla (x.f.seats.take q) 2)) := tcell 6
        have wa : IntKind.i64.wrap (cA x.f.pla (x.f.seats.take q) 2 + 1) = cA x.f.pla (x.f.seats.take q) 2 + 1 := by have := (sm 2).1; exact wrap_fit _ (by omega) (by omega)
        have wb' : IntKind.i64.wrap (cB x.f.pla (x.f.seats.take q) 2 + 1) = cB x.f.pla (x.f.seats.take q) 2 + 1 := by have := (sm 2).2.1; exact wrap_fit _ (by omega) (by omega)
        clear hst tcell sm
        by_cases hf : x.f.seats[q].row ≤ x.f.pla.front
        · have FIN := hide ((unhide I1).put2 (j := q + 1) 2 (8 + k) (.int .i64 (cA x.f.pla (x.f.seats.take q) 2 + 1)) (.int .i64 (cS (x.f.seats.take q) k + 1)) (by rw [tF_seta _ _ _ 2 (by omega), tF_sets _ _ _ k hk4, ((unhide CF) hf).1, ((unhide CF) hf).2, (unhide CSY) (unhide HS)]))
          clear CF CR CSY CSN I1 HS HK RS WF
          go_wp2
          exact ⟨⟨q + 1, rfl, by omega, (unhide FIN).alloc _⟩, by simp [intOf]; omega⟩
        · have FIN := hide ((unhide I1).put2 (j := q + 1) (4 + 2) (8 + k) (.int .i64 (cB x.f.pla (x.f.seats.take q) 2 + 1)) (.int .i64 (cS (x.f.seats.take q) k + 1)) (by rw [tF_setb _ _ _ 2 (by omega), tF_sets _ _ _ k hk4, ((unhide CR) hf).1, ((unhide CR) hf).2, (unhide CSY) (unhide HS)]))
          clear CF CR CSY CSN I1 HS HK RS WF
          go_wp2
          exact ⟨⟨q + 1, rfl, by omega, (unhide FIN).alloc _⟩, by simp [intOf]; omega⟩
      · have CF := hide (cA_front x.f.pla x.f.seats q 3 hql hst)
        have CR := hide (cB_rear x.f.pla x.f.seats q 3 hql hst)
        have HS := hide (show x.f.seats[q].sold = false from by unfold Sea.sold; rw [hst]; rfl)
        rw [hst] at c2
        have ta : wr.cell? ⟨w.heap.size + 1 + 1, 3, none⟩ = some (.int .i64 (cA x.f.pla (x.f.seats.take q) 3)) := tcell 3
        have tb : wr.cell? ⟨w.heap.size + 1 + 1, 7, none⟩ = some (.int .i64 (cB x.f.pla (x.f.seats.take q) 3)) := tcell 7
        have wa : IntKind.i64.wrap (cA x.f.pla (x.f.seats.take q) 3 + 1) = cA x.f.pla (x.f.seats.take q) 3 + 1 := by have := (sm 3).1; exact wrap_fit _ (by omega) (by omega)
        have wb' : IntKind.i64.wrap (cB x.f.pla (x.f.seats.take q) 3 + 1) = cB x.f.pla (x.f.seats.take q) 3 + 1 := by have := (sm 3).2.1; exact wrap_fit _ (by omega) (by omega)
        clear hst tcell sm
        by_cases hf : x.f.seats[q].row ≤ x.f.pla.front
        · have FIN := hide ((unhide I1).put (j := q + 1) 3 (.int .i64 (cA x.f.pla (x.f.seats.take q) 3 + 1)) (by rw [tF_seta _ _ _ 3 (by omega), ((unhide CF) hf).1, ((unhide CF) hf).2, (unhide CSN) (unhide HS)]))
          clear CF CR CSY CSN I1 HS HK RS WF
          go_wp2
          exact ⟨⟨q + 1, rfl, by omega, (unhide FIN).alloc _⟩, by simp [intOf]; omega⟩
        · have FIN := hide ((unhide I1).put (j := q + 1) (4 + 3) (.int .i64 (cB x.f.pla (x.f.seats.take q) 3 + 1)) (by rw [tF_setb _ _ _ 3 (by omega), ((unhide CR) hf).1, ((unhide CR) hf).2, (unhide CSN) (unhide HS)]))
          clear CF CR CSY CSN I1 HS HK RS WF
          go_wp2
          exact ⟨⟨q + 1, rfl, by omega, (unhide FIN).alloc _⟩, by simp [intOf]; omega⟩
    · have hqi : ¬ (q : Int) < (x.f.seats.length : Int) := by omega
      have e : q = x.f.seats.length := by omega
      subst e
      have hT := (unhide I1).tot
      rw [List.take_length] at hT
      have hR := (unhide I1).res
      have HM := hide (unhide I1).mod
      clear RS WF
      go_upto_region 15 with fail
      clear b3 b8
      refine wp_region_list ?_
      refine (wpList_load_has rfl 91 _ rfl (w.heap.size + 1 + 1) 0 rfl (tF (cA x.f.pla x.f.seats) (cB x.f.pla x.f.seats) (cS x.f.seats)) 91 hT (tF (cA x.f.pla x.f.seats) (cB x.f.pla x.f.seats) (cS x.f.seats)) (fun j v h => by rw [Nat.zero_add]; simpa using h) row51 size51 ?_)
      refine (wpList_store_has rfl 91 _ _ rfl (w.heap.size) (tF (cA x.f.pla x.f.seats) (cB x.f.pla x.f.seats) (cS x.f.seats)) rfl rfl zero51 91 hR rfl size51 (by simp [tF, Value.oneCell']) ?_)
      intro w5 h5 m5
      have d0 : w5.cell? ⟨w.heap.size, 0, none⟩ = some (.int .i64 (cA x.f.pla x.f.seats 0)) := h5.cell 0
      have d1 : w5.cell? ⟨w.heap.size, 1, none⟩ = some (.int .i64 (cA x.f.pla x.f.seats 1)) := h5.cell 1
      have d2 : w5.cell? ⟨w.heap.size, 2, none⟩ = some (.int .i64 (cA x.f.pla x.f.seats 2)) := h5.cell 2
      have d3 : w5.cell? ⟨w.heap.size, 3, none⟩ = some (.int .i64 (cA x.f.pla x.f.seats 3)) := h5.cell 3
      have d4 : w5.cell? ⟨w.heap.size, 4, none⟩ = some (.int .i64 (cB x.f.pla x.f.seats 0)) := h5.cell 4
      have d5 : w5.cell? ⟨w.heap.size, 5, none⟩ = some (.int .i64 (cB x.f.pla x.f.seats 1)) := h5.cell 5
      have d6 : w5.cell? ⟨w.heap.size, 6, none⟩ = some (.int .i64 (cB x.f.pla x.f.seats 2)) := h5.cell 6
      have d7 : w5.cell? ⟨w.heap.size, 7, none⟩ = some (.int .i64 (cB x.f.pla x.f.seats 3)) := h5.cell 7
      have d8 : w5.cell? ⟨w.heap.size, 8, none⟩ = some (.int .i64 (cS x.f.seats 0)) := h5.cell 8
      have d9 : w5.cell? ⟨w.heap.size, 9, none⟩ = some (.int .i64 (cS x.f.seats 1)) := h5.cell 9
      have d10 : w5.cell? ⟨w.heap.size, 10, none⟩ = some (.int .i64 (cS x.f.seats 2)) := h5.cell 10
      have d11 : w5.cell? ⟨w.heap.size, 11, none⟩ = some (.int .i64 (cS x.f.seats 3)) := h5.cell 11
      have M5 := hide ((unhide HM).trans' (S := No) m5 (fun i e hl => by subst e; omega))
      have l5 := h5.lt
      clear m5 h5 hR hT I1
      go_wp2
      refine bodyPost_ret (by simp [results, Tryz.results36, go_sem, d0, d1, d2, d3, d4, d5, d6, d7, d8, d9, d10, d11]; try rfl) rfl ?_
      exact ⟨rfl, unhide M5⟩
end Go.Proofs.YtlcbemcamdafjaaGreat
