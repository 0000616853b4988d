import Derived.Test.YthhibagcpjeihaaGreatGLook8ToRef8
import Derived.Deep.DeepCutAuto
/- The document's answer: a seat is moved. -/
namespace Go.Proofs.YthhibagcpjeihaaGreat
open Go.RowKit
open M
set_option linter.unusedVariables false
set_option linter.unusedSimpArgs false
set_option maxRecDepth 100000
set_option maxHeartbeats 8000000

theorem RowS.put {w : World} {g cap : Nat} {l : List Sea} {i : Nat} {s0 : Sea} (h : RowS w g cap (l.set i s0)) (hi : i < l.length) (j : Nat) (hj : j < 6) (v : Value) (s : Sea) (hs : seaV s = (seaV s0).setIfInBounds j v) :
    RowS (w.setCell ⟨g, i * 6 + j, none⟩ v) g cap (l.set i s) := by
  have := h.set i (by simpa using hi) j hj v s (by simpa using hs)
  rwa [List.set_set] at this

theorem RowS.put6 {w : World} {g cap : Nat} {l : List Sea} (h : RowS w g cap l) (i : Nat) (hi : i < l.length) (s : Sea) :
    RowS ((((((w.setCell ⟨g, i * 6, none⟩ (.int .i64 s.row)).setCell ⟨g, i * 6 + 1, none⟩ (.int .i64 s.col)).setCell ⟨g, i * 6 + 2, none⟩ (.int .i64 s.st)).setCell ⟨g, i * 6 + 3, none⟩ (.int .i64 s.pa)).setCell ⟨g, i * 6 + 4, none⟩ (.int .i64 s.cl)).setCell ⟨g, i * 6 + 5, none⟩ (.int .i64 s.un)) g cap (l.set i s) := by
  have h0 : RowS w g cap (l.set i l[i]) := by rw [List.set_getElem_self]; exact h
  exact (((((h0.put hi 0 (by omega) (.int .i64 s.row) ⟨s.row, l[i].col, l[i].st, l[i].pa, l[i].cl, l[i].un⟩ rfl).put hi 1 (by omega) (.int .i64 s.col) ⟨s.row, s.col, l[i].st, l[i].pa, l[i].cl, l[i].un⟩ rfl).put hi 2 (by omega) (.int .i64 s.st) ⟨s.row, s.col, s.st, l[i].pa, l[i].cl, l[i].un⟩ rfl).put hi 3 (by omega) (.int .i64 s.pa) ⟨s.row, s.col, s.st, s.pa, l[i].cl, l[i].un⟩ rfl).put hi 4 (by omega) (.int .i64 s.cl) ⟨s.row, s.col, s.st, s.pa, s.cl, l[i].un⟩ rfl).put hi 5 (by omega) (.int .i64 s.un) s rfl

theorem Mod.put6 {S : Nat → Prop} {a w : World} (h : Mod S a w) {g : Nat} (hg : S g) (i : Nat) (v0 v1 v2 v3 v4 v5 : Value) :
    Mod S a ((((((w.setCell ⟨g, i * 6, none⟩ v0).setCell ⟨g, i * 6 + 1, none⟩ v1).setCell ⟨g, i * 6 + 2, none⟩ v2).setCell ⟨g, i * 6 + 3, none⟩ v3).setCell ⟨g, i * 6 + 4, none⟩ v4).setCell ⟨g, i * 6 + 5, none⟩ v5) :=
  (((((h.setCell (p := ⟨g, i * 6, none⟩) (.inl hg) _).setCell (p := ⟨g, i * 6 + 1, none⟩) (.inl hg) _).setCell (p := ⟨g, i * 6 + 2, none⟩) (.inl hg) _).setCell (p := ⟨g, i * 6 + 3, none⟩) (.inl hg) _).setCell (p := ⟨g, i * 6 + 4, none⟩) (.inl hg) _).setCell (p := ⟨g, i * 6 + 5, none⟩) (.inl hg) _

theorem move_none (gf fo g cap i : Nat) (p : Pla) (l : List Sea) (party : Int) (w : World) (h : FlR w gf fo g cap p l) :
    Calls Tryz.prog 88 #[.pointer (some ⟨gf, fo, none⟩), .int .i64 i, .int .i64 (-1), .int .i64 party] w fun e w' => e = .returned (.int .i64 5) ∧ SaleOk w w' gf fo g cap p l l := by
  have H := hide h
  clear h
  go_enter Tryz.func88, Tryz.ntmps88
  go_wp2
  go_ret
  exact ⟨rfl, SaleOk.same (unhide H) (Mod.refl _ _)⟩

theorem move_not (gf fo g cap i j : Nat) (p : Pla) (l : List Sea) (party : Int) (w : World) (h : FlR w gf fo g cap p l) (s t : Sea) (hi : i < l.length) (hs : l[i] = s) (hj : j < l.length) (ht : l[j] = t) (e : Int)
    (he : e ≠ 0) (hcase : e = ownerN s.st s.pa party ∨ (ownerN s.st s.pa party = 0 ∧ t.st ≠ 0 ∧ e = 9)) :
    Calls Tryz.prog 88 #[.pointer (some ⟨gf, fo, none⟩), .int .i64 i, .int .i64 j, .int .i64 party] w fun e' w' => e' = .returned (.int .i64 e) ∧ SaleOk w w' gf fo g cap p l l := by
  have hsl := h.slice
  have HT := hide fun W => taken_any s party W
  have c0 := h.row.row i hi
  have c1 := h.row.col i hi
  have c2 := h.row.st i hi
  have c3 := h.row.pa i hi
  have c4 := h.row.cl i hi
  have c5 := h.row.un i hi
  have t2 := h.row.st j hj
  rw [hs] at c0 c1 c2 c3 c4 c5
  rw [ht] at t2
  have T2 := hide fun W (hW : Mod No w W) => cell_keep hW t2 (fun x => x)
  have SL := hide fun W (hW : Mod No w W) => cell_keep hW hsl (fun x => x)
  have hij : (i : Int) < (l.length : Int) ∧ (j : Int) < (l.length : Int) := by omega
  have hi1 := hij.1
  have hj1 := hij.2
  have h0i : (0 : Int) ≤ i := by omega
  have h0j : (0 : Int) ≤ j := by omega
  have hn0 : ¬ (j : Int) < 0 := by omega
  have H := hide h
  clear h hs ht t2 hi hj hij
  unfold seaV at HT
  rcases hcase with rfl | ⟨h1, h2, rfl⟩
  · generalize ownerN s.st s.pa party = ee at *
    have hd : (ee != 0) = true := by simpa using he
    clear he
    go_enter Tryz.func88, Tryz.ntmps88
    go_wp2_with fail
    refine ((unhide HT) _).mono ?_
    rintro e' w1 ⟨rfl, m1⟩
    go_wp2
    go_ret
    exact ⟨rfl, SaleOk.same (unhide H) m1⟩
  · rw [h1] at HT
    have hd : (t.st != 0) = true := by simpa using h2
    clear h1 h2 he
    go_enter Tryz.func88, Tryz.ntmps88
    go_wp2_with fail
    refine ((unhide HT) _).mono ?_
    rintro e' w1 ⟨rfl, m1⟩
    have t21 := (unhide T2) _ m1
    have sl1 := (unhide SL) _ m1
    clear c0 c1 c2 c3 c4 c5
    go_wp2
    go_ret
    exact ⟨rfl, SaleOk.same (unhide H) m1⟩

theorem move_yes (gf fo g cap i j : Nat) (p : Pla) (l : List Sea) (party : Int) (w : World) (h : FlR w gf fo g cap p l) (s t : Sea) (hi : i < l.length) (hs : l[i] = s) (hj : j < l.length) (ht : l[j] = t) (hij0 : i ≠ j)
    (h1 : ownerN s.st s.pa party = 0) (h2 : t.st = 0) :
    Calls Tryz.prog 88 #[.pointer (some ⟨gf, fo, none⟩), .int .i64 i, .int .i64 j, .int .i64 party] w fun e' w' => e' = .returned (.int .i64 0) ∧
      SaleOk w w' gf fo g cap p l ((l.set j ⟨t.row, t.col, s.st, s.pa, s.cl, s.un⟩).set i s.freed) := by
  have hsl := h.slice
  have hgl := h.row.lt
  have HT := hide fun W => taken_any s party W
  rw [h1] at HT
  have c0 := h.row.row i hi
  have c1 := h.row.col i hi
  have c2 := h.row.st i hi
  have c3 := h.row.pa i hi
  have c4 := h.row.cl i hi
  have c5 := h.row.un i hi
  rw [hs] at c0 c1 c2 c3 c4 c5
  have HR := hide h.row
  have NE := hide h.ne
  have SL := hide fun (S : Nat → Prop) W (hW : Mod S w W) (hS : ¬ S gf) => cell_keep hW hsl hS
  have hij : (i : Int) < (l.length : Int) ∧ (j : Int) < (l.length : Int) := by omega
  have hi1 := hij.1
  have hj1 := hij.2
  have h0i : (0 : Int) ≤ i := by omega
  have h0j : (0 : Int) ≤ j := by omega
  have hn0 : ¬ (j : Int) < 0 := by omega
  have HI := hide hi
  have HJ := hide hj
  have HS := hide hs
  have HTT := hide ht
  have H2 := hide h2
  have HIJ := hide hij0
  clear h hs ht hij h1 h2 hij0
  unfold seaV at HT
  go_enter Tryz.func88, Tryz.ntmps88
  go_wp2_with fail
  refine ((unhide HT) _).mono ?_
  rintro e' w1 ⟨rfl, m1⟩
  have R1 := (unhide HR).mod m1 (fun x => x)
  have d0 : w1.cell? ⟨g, j * 6, none⟩ = some (.int .i64 t.row) := by have := R1.row j (unhide HJ); rw [unhide HTT] at this; exact this
  have d1 : w1.cell? ⟨g, j * 6 + 1, none⟩ = some (.int .i64 t.col) := by have := R1.col j (unhide HJ); rw [unhide HTT] at this; exact this
  have d2 : w1.cell? ⟨g, j * 6 + 2, none⟩ = some (.int .i64 0) := by have := R1.st j (unhide HJ); rw [unhide HTT, unhide H2] at this; exact this
  have sl1 := (unhide SL) No _ m1 (fun x => x)
  have M1 := hide m1
  have RR1 := hide R1
  clear c0 c1 c2 c3 c4 c5 m1 R1 HT HR
  go_upto_region 9 with fail
  have BB := hide (Has.new w1 #[.int .i64 t.row, .int .i64 t.col] 36)
  have R2 := (unhide RR1).mod ((Mod.refl No w1).alloc (.cells #[.int .i64 t.row, .int .i64 t.col] 36)) (fun x => x)
  have M2 := hide ((unhide M1).alloc (.cells #[.int .i64 t.row, .int .i64 t.col] 36))
  have gb : g < w1.heap.size := (unhide RR1).lt
  generalize hbb : w1.heap.size = bb at *
  generalize w1.alloc (.cells #[.int .i64 t.row, .int .i64 t.col] 36) = w2 at *
  clear d0 d1 d2 sl1 RR1 M1
  go_cut [] (fun wx => Hid (RowS wx g cap (l.set j s)) ∧ Hid (Mod (fun k => k = g) w wx) ∧ Hid (Has wx bb #[.int .i64 t.row, .int .i64 t.col] 36))
  case first =>
    have sl2 := (unhide SL) No _ (unhide M2) (fun x => x)
    have c0 : w2.cell? ⟨g, i * 6, none⟩ = some (.int .i64 s.row) := by have := R2.row i (unhide HI); rw [unhide HS] at this; exact this
    have c1 : w2.cell? ⟨g, i * 6 + 1, none⟩ = some (.int .i64 s.col) := by have := R2.col i (unhide HI); rw [unhide HS] at this; exact this
    have c2 : w2.cell? ⟨g, i * 6 + 2, none⟩ = some (.int .i64 s.st) := by have := R2.st i (unhide HI); rw [unhide HS] at this; exact this
    have c3 : w2.cell? ⟨g, i * 6 + 3, none⟩ = some (.int .i64 s.pa) := by have := R2.pa i (unhide HI); rw [unhide HS] at this; exact this
    have c4 : w2.cell? ⟨g, i * 6 + 4, none⟩ = some (.int .i64 s.cl) := by have := R2.cl i (unhide HI); rw [unhide HS] at this; exact this
    have c5 : w2.cell? ⟨g, i * 6 + 5, none⟩ = some (.int .i64 s.un) := by have := R2.un i (unhide HI); rw [unhide HS] at this; exact this
    have e0 := R2.row j (unhide HJ)
    have e1 := R2.col j (unhide HJ)
    have e2 := R2.st j (unhide HJ)
    have e3 := R2.pa j (unhide HJ)
    have e4 := R2.cl j (unhide HJ)
    have e5 := R2.un j (unhide HJ)
    have fz := R2.froz
    have RR := hide R2
    have BN : bb ≠ g := by omega
    have FIN := hide (show Hid (RowS ((((((w2.setCell ⟨g, j * 6, none⟩ (.int .i64 s.row)).setCell ⟨g, j * 6 + 1, none⟩ (.int .i64 s.col)).setCell ⟨g, j * 6 + 2, none⟩ (.int .i64 s.st)).setCell ⟨g, j * 6 + 3, none⟩ (.int .i64 s.pa)).setCell ⟨g, j * 6 + 4, none⟩ (.int .i64 s.cl)).setCell ⟨g, j * 6 + 5, none⟩ (.int .i64 s.un)).drew g cap (l.set j s)) ∧
        Hid (Mod (fun k => k = g) w ((((((w2.setCell ⟨g, j * 6, none⟩ (.int .i64 s.row)).setCell ⟨g, j * 6 + 1, none⟩ (.int .i64 s.col)).setCell ⟨g, j * 6 + 2, none⟩ (.int .i64 s.st)).setCell ⟨g, j * 6 + 3, none⟩ (.int .i64 s.pa)).setCell ⟨g, j * 6 + 4, none⟩ (.int .i64 s.cl)).setCell ⟨g, j * 6 + 5, none⟩ (.int .i64 s.un)).drew) ∧
        Hid (Has ((((((w2.setCell ⟨g, j * 6, none⟩ (.int .i64 s.row)).setCell ⟨g, j * 6 + 1, none⟩ (.int .i64 s.col)).setCell ⟨g, j * 6 + 2, none⟩ (.int .i64 s.st)).setCell ⟨g, j * 6 + 3, none⟩ (.int .i64 s.pa)).setCell ⟨g, j * 6 + 4, none⟩ (.int .i64 s.cl)).setCell ⟨g, j * 6 + 5, none⟩ (.int .i64 s.un)).drew bb #[.int .i64 t.row, .int .i64 t.col] 36) from
      ⟨((unhide RR).put6 j (unhide HJ) s).mod (Mod.refl No _).drew (fun x => x), (((unhide M2).mono (S' := fun k => k = g) (fun _ _ x => x.elim)).put6 (S := fun k => k = g) rfl j _ _ _ _ _ _).drew, (((((((unhide BB).set_ne (a := ⟨g, j * 6, none⟩) BN _).set_ne (a := ⟨g, j * 6 + 1, none⟩) BN _).set_ne (a := ⟨g, j * 6 + 2, none⟩) BN _).set_ne (a := ⟨g, j * 6 + 3, none⟩) BN _).set_ne (a := ⟨g, j * 6 + 4, none⟩) BN _).set_ne (a := ⟨g, j * 6 + 5, none⟩) BN _).drew⟩)
    clear R2 RR M2 BB BN
    go_region
    all_goals go_wp2
    all_goals go_meet
    all_goals exact unhide FIN
  case rest =>
    obtain ⟨R3, M3, B3⟩ := hcut
    clear R2 M2 BB
    generalize wc = w3 at *
    clear w2
    go_upto_region 10 with fail
    go_cut [] (fun wx => Hid (RowS wx g cap (l.set j ⟨t.row, t.col, s.st, s.pa, s.cl, s.un⟩)) ∧ Hid (Mod (fun k => k = g) w wx))
    case first =>
      have sl3 := (unhide SL) (fun k => k = g) _ (unhide M3) (unhide NE)
      have hj3 : j < (l.set j s).length := by simpa using hj
      have e0 := (unhide R3).row j hj3
      have e1 := (unhide R3).col j hj3
      have b0 : w3.cell? ⟨bb, 0, none⟩ = some (.int .i64 t.row) := (unhide B3).cell 0
      have b1 : w3.cell? ⟨bb, 1, none⟩ = some (.int .i64 t.col) := (unhide B3).cell 1
      have fz := (unhide R3).froz
      have FIN := hide (show Hid (RowS ((w3.setCell ⟨g, j * 6, none⟩ (.int .i64 t.row)).setCell ⟨g, j * 6 + 1, none⟩ (.int .i64 t.col)).drew g cap (l.set j ⟨t.row, t.col, s.st, s.pa, s.cl, s.un⟩)) ∧ Hid (Mod (fun k => k = g) w ((w3.setCell ⟨g, j * 6, none⟩ (.int .i64 t.row)).setCell ⟨g, j * 6 + 1, none⟩ (.int .i64 t.col)).drew) from
        ⟨(((unhide R3).put hj 0 (by omega) (.int .i64 t.row) ⟨t.row, s.col, s.st, s.pa, s.cl, s.un⟩ rfl).put hj 1 (by omega) (.int .i64 t.col) ⟨t.row, t.col, s.st, s.pa, s.cl, s.un⟩ rfl).mod (Mod.refl No _).drew (fun x => x),
         (((unhide M3).setCell (p := ⟨g, j * 6, none⟩) (.inl rfl) _).setCell (p := ⟨g, j * 6 + 1, none⟩) (.inl rfl) _).drew⟩)
      clear R3 M3 B3
      go_region
      all_goals go_wp2
      all_goals go_meet
      all_goals exact unhide FIN
    case rest =>
      obtain ⟨R4, M4⟩ := hcut
      clear R3 M3 B3
      generalize wc = w4 at *
      have sl4 := (unhide SL) (fun k => k = g) _ (unhide M4) (unhide NE)
      have hi4 : i < (l.set j ⟨t.row, t.col, s.st, s.pa, s.cl, s.un⟩).length := by simpa using hi
      have hel : (l.set j ⟨t.row, t.col, s.st, s.pa, s.cl, s.un⟩)[i] = s := by rw [List.getElem_set_ne (fun e => (unhide HIJ) e.symm)]; exact unhide HS
      have e0 := (unhide R4).row i hi4
      have e1 := (unhide R4).col i hi4
      have e2 := (unhide R4).st i hi4
      have e3 := (unhide R4).pa i hi4
      have e4 := (unhide R4).cl i hi4
      have e5 := (unhide R4).un i hi4
      rw [hel] at e0 e1 e2 e3 e4 e5
      have fz := (unhide R4).froz
      have FIN := hide (show SaleOk w ((((((w4.setCell ⟨g, i * 6, none⟩ (.int .i64 s.row)).setCell ⟨g, i * 6 + 1, none⟩ (.int .i64 s.col)).setCell ⟨g, i * 6 + 2, none⟩ (.int .i64 0)).setCell ⟨g, i * 6 + 3, none⟩ (.int .i64 0)).setCell ⟨g, i * 6 + 4, none⟩ (.int .i64 0)).setCell ⟨g, i * 6 + 5, none⟩ (.int .i64 0)).drew gf fo g cap p l ((l.set j ⟨t.row, t.col, s.st, s.pa, s.cl, s.un⟩).set i s.freed) from
        ⟨((unhide R4).put6 i hi4 s.freed).mod (Mod.refl No _).drew (fun x => x), ((unhide M4).put6 (S := fun k => k = g) rfl i _ _ _ _ _ _).drew⟩)
      clear R4 M4 hel
      go_wp2_with fail
      go_region
      all_goals go_wp2
      all_goals go_ret
      all_goals exact ⟨rfl, unhide FIN⟩
end Go.Proofs.YthhibagcpjeihaaGreat
/- The document's answer: a command to a seat, as it is walked. -/
namespace Go.Proofs.YthhibagcpjeihaaGreat
open Go.RowKit
open M
set_option linter.unusedVariables false
set_option linter.unusedSimpArgs false
set_option maxRecDepth 100000
set_option maxHeartbeats 8000000

/-- Where a place of the plane stands. -/
theorem rseat_has {gf fo g cap : Nat} {p : Pla} {l : List Sea} {w : World} (h : FlR w gf fo g cap p l) (hwf : Wf p l) (r c : Int) (hh : p.has r c = true) :
    Calls Tryz.prog 85 #[.pointer (some ⟨gf, fo, none⟩), .agg #[.int .i64 r, .int .i64 c]] w fun e w' => e = .returned (.int .i64 (p.idx r c : Nat)) ∧ Mod No w w' := by
  refine (rseat_any gf fo g cap l r c w h.row h.len h.slice).mono ?_
  rintro e w' ⟨hm, ⟨i, hi, h1, h2, rfl⟩ | ⟨hn, rfl⟩⟩
  · obtain ⟨h3, h4⟩ := Fli.wf.idx_place hwf hh
    have : i = p.idx r c := Fli.wf.place_inj hwf hi (Fli.wf.idx_lt hwf hh) (by rw [h3]; exact h1) (by rw [h4]; exact h2)
    rw [this]
    exact ⟨rfl, hm⟩
  · exact absurd (Fli.wf.idx_place hwf hh) (hn _ (Fli.wf.idx_lt hwf hh))
theorem rseat_no {gf fo g cap : Nat} {p : Pla} {l : List Sea} {w : World} (h : FlR w gf fo g cap p l) (hwf : Wf p l) (r c : Int) (hh : p.has r c = false) :
    Calls Tryz.prog 85 #[.pointer (some ⟨gf, fo, none⟩), .agg #[.int .i64 r, .int .i64 c]] w fun e w' => e = .returned (.int .i64 (-1)) ∧ Mod No w w' := by
  refine (rseat_any gf fo g cap l r c w h.row h.len h.slice).mono ?_
  rintro e w' ⟨hm, ⟨i, hi, h1, h2, rfl⟩ | ⟨hn, rfl⟩⟩
  · have := (Fli.wf.place_has hwf hi).1
    have e : p.has l[i].row l[i].col = p.has r c := by rw [h1, h2]
    have e2 : p.has l[i].row l[i].col = true := this
    rw [e, hh] at e2
    cases e2
  · exact ⟨rfl, hm⟩

theorem seated_no (wb gf fo : Nat) (c : Cmd) (w : World) (HF : ∀ W, Mod No w W → Calls Tryz.prog 85 #[.pointer (some ⟨gf, fo, none⟩), .agg #[.int .i64 c.ar, .int .i64 c.ac]] W fun e w' => e = .returned (.int .i64 (-1)) ∧ Mod No W w') :
    Calls Tryz.prog 55 #[.pointer (some ⟨wb, 0, none⟩), .pointer (some ⟨gf, fo, none⟩), .agg (cmdCells c)] w fun e w' => e = .returned (.int .i64 5) ∧ Mod No w w' := by
  have HF := hide HF
  have M0 := hide ((Mod.refl No w).alloc (.cells (cmdCells c) 41))
  unfold cmdCells at *
  go_enter Tryz.func55, Tryz.ntmps55
  go_wp2_with fail
  refine ((unhide HF) _ (unhide M0)).mono ?_
  rintro e w1 ⟨rfl, m1⟩
  go_wp2
  go_ret
  exact ⟨rfl, (unhide M0).trans m1⟩

theorem seated_2 (wb gf fo g cap i : Nat) (p : Pla) (l : List Sea) (flight ar ac tr tc party cls time : Int) (pl : Pla) (w : World) (h : FlR w gf fo g cap p l) (s : Sea) (hi : i < l.length) (hse : l[i] = s)
    (HF : ∀ W, Mod No w W → Calls Tryz.prog 85 #[.pointer (some ⟨gf, fo, none⟩), .agg #[.int .i64 ar, .int .i64 ac]] W fun e w' => e = .returned (.int .i64 (i : Nat)) ∧ Mod No W w') (er : Int) (l' : List Sea)
    (HS : ∀ W, Mod No w W → Calls Tryz.prog 86 #[.pointer (some ⟨wb, 0, none⟩), .pointer (some ⟨gf, fo, none⟩), .pointer (some ⟨g, i * 6, none⟩), .agg #[.int .i64 2, .int .i64 flight, .int .i64 ar, .int .i64 ac, .int .i64 tr, .int .i64 tc, .int .i64 party, .int .i64 cls, .int .i64 time, .int .i64 pl.rows, .int .i64 pl.cols, .int .i64 pl.front, .int .i64 pl.l0, .int .i64 pl.l1, .int .i64 pl.l2, .int .i64 pl.l3]] W fun e w' => e = .returned (.int .i64 er) ∧ SaleOk W w' gf fo g cap p l l') :
    Calls Tryz.prog 55 #[.pointer (some ⟨wb, 0, none⟩), .pointer (some ⟨gf, fo, none⟩), .agg #[.int .i64 2, .int .i64 flight, .int .i64 ar, .int .i64 ac, .int .i64 tr, .int .i64 tc, .int .i64 party, .int .i64 cls, .int .i64 time, .int .i64 pl.rows, .int .i64 pl.cols, .int .i64 pl.front, .int .i64 pl.l0, .int .i64 pl.l1, .int .i64 pl.l2, .int .i64 pl.l3]] w fun e w' => e = .returned (.int .i64 er) ∧ SaleOk w w' gf fo g cap p l l' := by
  have HS := hide HS
  have HF := hide HF
  have SL := hide fun W (hW : Mod No w W) => cell_keep hW h.slice (fun x => x)
  have hi1 : (i : Int) < (l.length : Int) := by omega
  have hi0 : (0 : Int) ≤ i := by omega
  have hn0 : ¬ (i : Int) < 0 := by omega
  have H := hide h
  have HSE := hide hse
  have M0 := hide ((Mod.refl No w).alloc (.cells #[.int .i64 2, .int .i64 flight, .int .i64 ar, .int .i64 ac, .int .i64 tr, .int .i64 tc, .int .i64 party, .int .i64 cls, .int .i64 time, .int .i64 pl.rows, .int .i64 pl.cols, .int .i64 pl.front, .int .i64 pl.l0, .int .i64 pl.l1, .int .i64 pl.l2, .int .i64 pl.l3] 41))
  have B0 := hide (Has.new w #[.int .i64 2, .int .i64 flight, .int .i64 ar, .int .i64 ac, .int .i64 tr, .int .i64 tc, .int .i64 party, .int .i64 cls, .int .i64 time, .int .i64 pl.rows, .int .i64 pl.cols, .int .i64 pl.front, .int .i64 pl.l0, .int .i64 pl.l1, .int .i64 pl.l2, .int .i64 pl.l3] 41)
  clear h hse
  go_enter Tryz.func55, Tryz.ntmps55
  go_wp2_with fail
  refine ((unhide HF) _ (unhide M0)).mono ?_
  rintro e w1 ⟨rfl, m1⟩
  have M1 := hide ((unhide M0).trans m1)
  have sl1 := (unhide SL) _ (unhide M1)
  have hb := (m1.has (unhide B0) (fun x => x)).cell
  have lb := (m1.has (unhide B0) (fun x => x)).lt
  have BX := hide (m1.has (unhide B0) (fun x => x))
  have R1 := (unhide H).row.mod (unhide M1) (fun x => x)
  have c0 : w1.cell? ⟨g, i * 6, none⟩ = some (.int .i64 s.row) := by have := R1.row i hi; rw [unhide HSE] at this; exact this
  have c1 : w1.cell? ⟨g, i * 6 + 1, none⟩ = some (.int .i64 s.col) := by have := R1.col i hi; rw [unhide HSE] at this; exact this
  have c2 : w1.cell? ⟨g, i * 6 + 2, none⟩ = some (.int .i64 s.st) := by have := R1.st i hi; rw [unhide HSE] at this; exact this
  have c3 : w1.cell? ⟨g, i * 6 + 3, none⟩ = some (.int .i64 s.pa) := by have := R1.pa i hi; rw [unhide HSE] at this; exact this
  have c4 : w1.cell? ⟨g, i * 6 + 4, none⟩ = some (.int .i64 s.cl) := by have := R1.cl i hi; rw [unhide HSE] at this; exact this
  have c5 : w1.cell? ⟨g, i * 6 + 5, none⟩ = some (.int .i64 s.un) := by have := R1.un i hi; rw [unhide HSE] at this; exact this
  have fz := R1.froz
  have RR1 := hide R1
  clear m1 R1
  clear c0 c1 c2 c3 c4 c5
  go_wp2_with fail
  refine ((unhide HS) _ (unhide M1)).mono ?_
  rintro e w2 ⟨rfl, hr, hm⟩
  have H2 := hide (show SaleOk w w2 gf fo g cap p l l' from ⟨hr, ((unhide M1).mono (fun _ _ x => x.elim)).trans hm⟩)
  clear hr hm hb
  go_wp2
  go_ret
  exact ⟨rfl, unhide H2⟩

theorem seated_3 (wb gf fo g cap i : Nat) (p : Pla) (l : List Sea) (flight ar ac tr tc party cls time : Int) (pl : Pla) (w : World) (h : FlR w gf fo g cap p l) (s : Sea) (hi : i < l.length) (hse : l[i] = s)
    (HF : ∀ W, Mod No w W → Calls Tryz.prog 85 #[.pointer (some ⟨gf, fo, none⟩), .agg #[.int .i64 ar, .int .i64 ac]] W fun e w' => e = .returned (.int .i64 (i : Nat)) ∧ Mod No W w') (er : Int) (l' : List Sea)
    (HS : ∀ W, Mod No w W → Calls Tryz.prog 86 #[.pointer (some ⟨wb, 0, none⟩), .pointer (some ⟨gf, fo, none⟩), .pointer (some ⟨g, i * 6, none⟩), .agg #[.int .i64 3, .int .i64 flight, .int .i64 ar, .int .i64 ac, .int .i64 tr, .int .i64 tc, .int .i64 party, .int .i64 cls, .int .i64 time, .int .i64 pl.rows, .int .i64 pl.cols, .int .i64 pl.front, .int .i64 pl.l0, .int .i64 pl.l1, .int .i64 pl.l2, .int .i64 pl.l3]] W fun e w' => e = .returned (.int .i64 er) ∧ SaleOk W w' gf fo g cap p l l') :
    Calls Tryz.prog 55 #[.pointer (some ⟨wb, 0, none⟩), .pointer (some ⟨gf, fo, none⟩), .agg #[.int .i64 3, .int .i64 flight, .int .i64 ar, .int .i64 ac, .int .i64 tr, .int .i64 tc, .int .i64 party, .int .i64 cls, .int .i64 time, .int .i64 pl.rows, .int .i64 pl.cols, .int .i64 pl.front, .int .i64 pl.l0, .int .i64 pl.l1, .int .i64 pl.l2, .int .i64 pl.l3]] w fun e w' => e = .returned (.int .i64 er) ∧ SaleOk w w' gf fo g cap p l l' := by
  have HS := hide HS
  have HF := hide HF
  have SL := hide fun W (hW : Mod No w W) => cell_keep hW h.slice (fun x => x)
  have hi1 : (i : Int) < (l.length : Int) := by omega
  have hi0 : (0 : Int) ≤ i := by omega
  have hn0 : ¬ (i : Int) < 0 := by omega
  have H := hide h
  have HSE := hide hse
  have M0 := hide ((Mod.refl No w).alloc (.cells #[.int .i64 3, .int .i64 flight, .int .i64 ar, .int .i64 ac, .int .i64 tr, .int .i64 tc, .int .i64 party, .int .i64 cls, .int .i64 time, .int .i64 pl.rows, .int .i64 pl.cols, .int .i64 pl.front, .int .i64 pl.l0, .int .i64 pl.l1, .int .i64 pl.l2, .int .i64 pl.l3] 41))
  have B0 := hide (Has.new w #[.int .i64 3, .int .i64 flight, .int .i64 ar, .int .i64 ac, .int .i64 tr, .int .i64 tc, .int .i64 party, .int .i64 cls, .int .i64 time, .int .i64 pl.rows, .int .i64 pl.cols, .int .i64 pl.front, .int .i64 pl.l0, .int .i64 pl.l1, .int .i64 pl.l2, .int .i64 pl.l3] 41)
  clear h hse
  go_enter Tryz.func55, Tryz.ntmps55
  go_wp2_with fail
  refine ((unhide HF) _ (unhide M0)).mono ?_
  rintro e w1 ⟨rfl, m1⟩
  have M1 := hide ((unhide M0).trans m1)
  have sl1 := (unhide SL) _ (unhide M1)
  have hb := (m1.has (unhide B0) (fun x => x)).cell
  have lb := (m1.has (unhide B0) (fun x => x)).lt
  have BX := hide (m1.has (unhide B0) (fun x => x))
  have R1 := (unhide H).row.mod (unhide M1) (fun x => x)
  have c0 : w1.cell? ⟨g, i * 6, none⟩ = some (.int .i64 s.row) := by have := R1.row i hi; rw [unhide HSE] at this; exact this
  have c1 : w1.cell? ⟨g, i * 6 + 1, none⟩ = some (.int .i64 s.col) := by have := R1.col i hi; rw [unhide HSE] at this; exact this
  have c2 : w1.cell? ⟨g, i * 6 + 2, none⟩ = some (.int .i64 s.st) := by have := R1.st i hi; rw [unhide HSE] at this; exact this
  have c3 : w1.cell? ⟨g, i * 6 + 3, none⟩ = some (.int .i64 s.pa) := by have := R1.pa i hi; rw [unhide HSE] at this; exact this
  have c4 : w1.cell? ⟨g, i * 6 + 4, none⟩ = some (.int .i64 s.cl) := by have := R1.cl i hi; rw [unhide HSE] at this; exact this
  have c5 : w1.cell? ⟨g, i * 6 + 5, none⟩ = some (.int .i64 s.un) := by have := R1.un i hi; rw [unhide HSE] at this; exact this
  have fz := R1.froz
  have RR1 := hide R1
  clear m1 R1
  clear c0 c1 c2 c3 c4 c5
  go_wp2_with fail
  refine ((unhide HS) _ (unhide M1)).mono ?_
  rintro e w2 ⟨rfl, hr, hm⟩
  have H2 := hide (show SaleOk w w2 gf fo g cap p l l' from ⟨hr, ((unhide M1).mono (fun _ _ x => x.elim)).trans hm⟩)
  clear hr hm hb
  go_wp2
  go_ret
  exact ⟨rfl, unhide H2⟩

theorem seated_4 (wb gf fo g cap i : Nat) (p : Pla) (l : List Sea) (flight ar ac tr tc party cls time : Int) (pl : Pla) (w : World) (h : FlR w gf fo g cap p l) (s : Sea) (hi : i < l.length) (hse : l[i] = s)
    (HF : ∀ W, Mod No w W → Calls Tryz.prog 85 #[.pointer (some ⟨gf, fo, none⟩), .agg #[.int .i64 ar, .int .i64 ac]] W fun e w' => e = .returned (.int .i64 (i : Nat)) ∧ Mod No W w')  :
    Calls Tryz.prog 55 #[.pointer (some ⟨wb, 0, none⟩), .pointer (some ⟨gf, fo, none⟩), .agg #[.int .i64 4, .int .i64 flight, .int .i64 ar, .int .i64 ac, .int .i64 tr, .int .i64 tc, .int .i64 party, .int .i64 cls, .int .i64 time, .int .i64 pl.rows, .int .i64 pl.cols, .int .i64 pl.front, .int .i64 pl.l0, .int .i64 pl.l1, .int .i64 pl.l2, .int .i64 pl.l3]] w fun e w' => e = .returned (.int .i64 (ownerN s.st s.pa party)) ∧ SaleOk w w' gf fo g cap p l (soldL (ownerN s.st s.pa party) l i s.freed) := by
  have HT := hide fun W => taken_any s party W
  unfold seaV at HT
  generalize ownerN s.st s.pa party = er at *
  have HF := hide HF
  have SL := hide fun W (hW : Mod No w W) => cell_keep hW h.slice (fun x => x)
  have hi1 : (i : Int) < (l.length : Int) := by omega
  have hi0 : (0 : Int) ≤ i := by omega
  have hn0 : ¬ (i : Int) < 0 := by omega
  have H := hide h
  have HSE := hide hse
  have M0 := hide ((Mod.refl No w).alloc (.cells #[.int .i64 4, .int .i64 flight, .int .i64 ar, .int .i64 ac, .int .i64 tr, .int .i64 tc, .int .i64 party, .int .i64 cls, .int .i64 time, .int .i64 pl.rows, .int .i64 pl.cols, .int .i64 pl.front, .int .i64 pl.l0, .int .i64 pl.l1, .int .i64 pl.l2, .int .i64 pl.l3] 41))
  have B0 := hide (Has.new w #[.int .i64 4, .int .i64 flight, .int .i64 ar, .int .i64 ac, .int .i64 tr, .int .i64 tc, .int .i64 party, .int .i64 cls, .int .i64 time, .int .i64 pl.rows, .int .i64 pl.cols, .int .i64 pl.front, .int .i64 pl.l0, .int .i64 pl.l1, .int .i64 pl.l2, .int .i64 pl.l3] 41)
  clear h hse
  go_enter Tryz.func55, Tryz.ntmps55
  go_wp2_with fail
  refine ((unhide HF) _ (unhide M0)).mono ?_
  rintro e w1 ⟨rfl, m1⟩
  have M1 := hide ((unhide M0).trans m1)
  have sl1 := (unhide SL) _ (unhide M1)
  have hb := (m1.has (unhide B0) (fun x => x)).cell
  have lb := (m1.has (unhide B0) (fun x => x)).lt
  have BX := hide (m1.has (unhide B0) (fun x => x))
  have R1 := (unhide H).row.mod (unhide M1) (fun x => x)
  have c0 : w1.cell? ⟨g, i * 6, none⟩ = some (.int .i64 s.row) := by have := R1.row i hi; rw [unhide HSE] at this; exact this
  have c1 : w1.cell? ⟨g, i * 6 + 1, none⟩ = some (.int .i64 s.col) := by have := R1.col i hi; rw [unhide HSE] at this; exact this
  have c2 : w1.cell? ⟨g, i * 6 + 2, none⟩ = some (.int .i64 s.st) := by have := R1.st i hi; rw [unhide HSE] at this; exact this
  have c3 : w1.cell? ⟨g, i * 6 + 3, none⟩ = some (.int .i64 s.pa) := by have := R1.pa i hi; rw [unhide HSE] at this; exact this
  have c4 : w1.cell? ⟨g, i * 6 + 4, none⟩ = some (.int .i64 s.cl) := by have := R1.cl i hi; rw [unhide HSE] at this; exact this
  have c5 : w1.cell? ⟨g, i * 6 + 5, none⟩ = some (.int .i64 s.un) := by have := R1.un i hi; rw [unhide HSE] at this; exact this
  have fz := R1.froz
  have RR1 := hide R1
  clear m1 R1
  have HQ := hide fun (w2 : World) (hm : Mod No w w2) => (show SaleOk w ((((((w2.setCell ⟨g, i * 6, none⟩ (.int .i64 s.row)).setCell ⟨g, i * 6 + 1, none⟩ (.int .i64 s.col)).setCell ⟨g, i * 6 + 2, none⟩ (.int .i64 0)).setCell ⟨g, i * 6 + 3, none⟩ (.int .i64 0)).setCell ⟨g, i * 6 + 4, none⟩ (.int .i64 0)).setCell ⟨g, i * 6 + 5, none⟩ (.int .i64 0)) gf fo g cap p l (soldL 0 l i s.freed) from
    ⟨((unhide H).row.mod hm (fun x => x)).put6 i hi s.freed, (hm.mono (S' := fun k => k = g) (fun _ _ x => x.elim)).put6 (S := fun k => k = g) rfl i _ _ _ _ _ _⟩)
  go_upto_region 10 with fail
  go_cut [9] (fun s9 wx => s9 = .int .i64 er ∧ Hid (Mod No w wx))
  case first =>
    go_region_with (go_at_call 87; refine ((unhide HT) _).mono ?_; rintro e w4 ⟨rfl, hm4⟩)
    all_goals go_wp2
    all_goals go_meet
    all_goals exact ⟨rfl, (unhide M1).drew.trans (by assumption)⟩
  case rest =>
    obtain ⟨rfl, M4⟩ := hcut
    generalize wc = w4 at *
    clear c0 c1 c2 c3 c4 c5 fz hb lb BX RR1 sl1 HT
    by_cases hz : er = 0
    · subst hz
      have R4 := (unhide H).row.mod (unhide M4) (fun x => x)
      have c0 : w4.cell? ⟨g, i * 6, none⟩ = some (.int .i64 s.row) := by have := R4.row i hi; rw [unhide HSE] at this; exact this
      have c1 : w4.cell? ⟨g, i * 6 + 1, none⟩ = some (.int .i64 s.col) := by have := R4.col i hi; rw [unhide HSE] at this; exact this
      have c2 := R4.st i hi
      have c3 := R4.pa i hi
      have c4 := R4.cl i hi
      have c5 := R4.un i hi
      have fz := R4.froz
      clear R4
      go_wp2
      go_ret
      exact ⟨rfl, (unhide HQ) _ (unhide M4)⟩
    · have hd : (er == 0) = false := by simpa using hz
      have HZ := hide hz
      clear hz
      go_wp2
      go_ret
      rw [soldL_no (unhide HZ)]
      exact ⟨rfl, SaleOk.same (unhide H) (unhide M4)⟩

theorem seated_6 (wb gf fo g cap i : Nat) (p : Pla) (l : List Sea) (flight ar ac tr tc party cls time : Int) (pl : Pla) (w : World) (h : FlR w gf fo g cap p l) (s : Sea) (hi : i < l.length) (hse : l[i] = s)
    (HF : ∀ W, Mod No w W → Calls Tryz.prog 85 #[.pointer (some ⟨gf, fo, none⟩), .agg #[.int .i64 ar, .int .i64 ac]] W fun e w' => e = .returned (.int .i64 (i : Nat)) ∧ Mod No W w') (hbare : s.st = 0 → s.pa = 0 ∧ s.cl = 0 ∧ s.un = 0) :
    Calls Tryz.prog 55 #[.pointer (some ⟨wb, 0, none⟩), .pointer (some ⟨gf, fo, none⟩), .agg #[.int .i64 6, .int .i64 flight, .int .i64 ar, .int .i64 ac, .int .i64 tr, .int .i64 tc, .int .i64 party, .int .i64 cls, .int .i64 time, .int .i64 pl.rows, .int .i64 pl.cols, .int .i64 pl.front, .int .i64 pl.l0, .int .i64 pl.l1, .int .i64 pl.l2, .int .i64 pl.l3]] w fun e w' => e = .returned (.int .i64 (if s.st ≠ 0 then 9 else 0)) ∧ SaleOk w w' gf fo g cap p l (soldL (if s.st ≠ 0 then 9 else 0) l i ⟨s.row, s.col, 3, 0, 0, 0⟩) := by
  have HBR := hide hbare
  clear hbare
  generalize hEE : (if s.st ≠ 0 then (9 : Int) else 0) = ee
  have HEE := hide hEE
  clear hEE
  have HF := hide HF
  have SL := hide fun W (hW : Mod No w W) => cell_keep hW h.slice (fun x => x)
  have hi1 : (i : Int) < (l.length : Int) := by omega
  have hi0 : (0 : Int) ≤ i := by omega
  have hn0 : ¬ (i : Int) < 0 := by omega
  have H := hide h
  have HSE := hide hse
  have M0 := hide ((Mod.refl No w).alloc (.cells #[.int .i64 6, .int .i64 flight, .int .i64 ar, .int .i64 ac, .int .i64 tr, .int .i64 tc, .int .i64 party, .int .i64 cls, .int .i64 time, .int .i64 pl.rows, .int .i64 pl.cols, .int .i64 pl.front, .int .i64 pl.l0, .int .i64 pl.l1, .int .i64 pl.l2, .int .i64 pl.l3] 41))
  have B0 := hide (Has.new w #[.int .i64 6, .int .i64 flight, .int .i64 ar, .int .i64 ac, .int .i64 tr, .int .i64 tc, .int .i64 party, .int .i64 cls, .int .i64 time, .int .i64 pl.rows, .int .i64 pl.cols, .int .i64 pl.front, .int .i64 pl.l0, .int .i64 pl.l1, .int .i64 pl.l2, .int .i64 pl.l3] 41)
  clear h hse
  go_enter Tryz.func55, Tryz.ntmps55
  go_wp2_with fail
  refine ((unhide HF) _ (unhide M0)).mono ?_
  rintro e w1 ⟨rfl, m1⟩
  have M1 := hide ((unhide M0).trans m1)
  have sl1 := (unhide SL) _ (unhide M1)
  have hb := (m1.has (unhide B0) (fun x => x)).cell
  have lb := (m1.has (unhide B0) (fun x => x)).lt
  have BX := hide (m1.has (unhide B0) (fun x => x))
  have R1 := (unhide H).row.mod (unhide M1) (fun x => x)
  have c0 : w1.cell? ⟨g, i * 6, none⟩ = some (.int .i64 s.row) := by have := R1.row i hi; rw [unhide HSE] at this; exact this
  have c1 : w1.cell? ⟨g, i * 6 + 1, none⟩ = some (.int .i64 s.col) := by have := R1.col i hi; rw [unhide HSE] at this; exact this
  have c2 : w1.cell? ⟨g, i * 6 + 2, none⟩ = some (.int .i64 s.st) := by have := R1.st i hi; rw [unhide HSE] at this; exact this
  have c3 : w1.cell? ⟨g, i * 6 + 3, none⟩ = some (.int .i64 s.pa) := by have := R1.pa i hi; rw [unhide HSE] at this; exact this
  have c4 : w1.cell? ⟨g, i * 6 + 4, none⟩ = some (.int .i64 s.cl) := by have := R1.cl i hi; rw [unhide HSE] at this; exact this
  have c5 : w1.cell? ⟨g, i * 6 + 5, none⟩ = some (.int .i64 s.un) := by have := R1.un i hi; rw [unhide HSE] at this; exact this
  have fz := R1.froz
  have RR1 := hide R1
  clear m1 R1
  by_cases hs : s.st = 0
  · have hd : (s.st != 0) = false := by simpa using hs
    have HE := hide (show ee = 0 from by rw [← unhide HEE, if_neg (by simpa using hs)])
    obtain ⟨b1, b2, b3⟩ := (unhide HBR) hs
    have HN := hide (show (⟨s.row, s.col, 3, s.pa, s.cl, s.un⟩ : Sea) = ⟨s.row, s.col, 3, 0, 0, 0⟩ from by rw [b1, b2, b3])
    have S0 := hide (SaleOk.same (unhide H) (unhide M1))
    clear c0 c1 c3 c4 c5 b1 b2 b3 HEE HBR hs
    go_wp2
    go_ret
    rw [unhide HE, soldL_yes, ← unhide HN]
    have S1 : SaleOk w w1 gf fo g cap p l (l.set i s) := by rw [← unhide HSE, List.set_getElem_self]; exact unhide S0
    exact ⟨rfl, S1.put hi 2 (by omega) (.int .i64 3) ⟨s.row, s.col, 3, s.pa, s.cl, s.un⟩ rfl⟩
  · have hd : (s.st != 0) = true := by simpa using hs
    have HE := hide (show ee = 9 from by rw [← unhide HEE, if_pos (by simpa using hs)])
    clear c0 c1 c3 c4 c5 HEE HBR hs
    go_wp2
    go_ret
    rw [unhide HE, soldL_no (by omega)]
    exact ⟨rfl, SaleOk.same (unhide H) (unhide M1)⟩

theorem seated_7 (wb gf fo g cap i : Nat) (p : Pla) (l : List Sea) (flight ar ac tr tc party cls time : Int) (pl : Pla) (w : World) (h : FlR w gf fo g cap p l) (s : Sea) (hi : i < l.length) (hse : l[i] = s)
    (HF : ∀ W, Mod No w W → Calls Tryz.prog 85 #[.pointer (some ⟨gf, fo, none⟩), .agg #[.int .i64 ar, .int .i64 ac]] W fun e w' => e = .returned (.int .i64 (i : Nat)) ∧ Mod No W w') (hbare : s.st = 3 → s.pa = 0 ∧ s.cl = 0 ∧ s.un = 0) :
    Calls Tryz.prog 55 #[.pointer (some ⟨wb, 0, none⟩), .pointer (some ⟨gf, fo, none⟩), .agg #[.int .i64 7, .int .i64 flight, .int .i64 ar, .int .i64 ac, .int .i64 tr, .int .i64 tc, .int .i64 party, .int .i64 cls, .int .i64 time, .int .i64 pl.rows, .int .i64 pl.cols, .int .i64 pl.front, .int .i64 pl.l0, .int .i64 pl.l1, .int .i64 pl.l2, .int .i64 pl.l3]] w fun e w' => e = .returned (.int .i64 (if s.st ≠ 3 then 10 else 0)) ∧ SaleOk w w' gf fo g cap p l (soldL (if s.st ≠ 3 then 10 else 0) l i ⟨s.row, s.col, 0, 0, 0, 0⟩) := by
  have HBR := hide hbare
  clear hbare
  generalize hEE : (if s.st ≠ 3 then (10 : Int) else 0) = ee
  have HEE := hide hEE
  clear hEE
  have HF := hide HF
  have SL := hide fun W (hW : Mod No w W) => cell_keep hW h.slice (fun x => x)
  have hi1 : (i : Int) < (l.length : Int) := by omega
  have hi0 : (0 : Int) ≤ i := by omega
  have hn0 : ¬ (i : Int) < 0 := by omega
  have H := hide h
  have HSE := hide hse
  have M0 := hide ((Mod.refl No w).alloc (.cells #[.int .i64 7, .int .i64 flight, .int .i64 ar, .int .i64 ac, .int .i64 tr, .int .i64 tc, .int .i64 party, .int .i64 cls, .int .i64 time, .int .i64 pl.rows, .int .i64 pl.cols, .int .i64 pl.front, .int .i64 pl.l0, .int .i64 pl.l1, .int .i64 pl.l2, .int .i64 pl.l3] 41))
  have B0 := hide (Has.new w #[.int .i64 7, .int .i64 flight, .int .i64 ar, .int .i64 ac, .int .i64 tr, .int .i64 tc, .int .i64 party, .int .i64 cls, .int .i64 time, .int .i64 pl.rows, .int .i64 pl.cols, .int .i64 pl.front, .int .i64 pl.l0, .int .i64 pl.l1, .int .i64 pl.l2, .int .i64 pl.l3] 41)
  clear h hse
  go_enter Tryz.func55, Tryz.ntmps55
  go_wp2_with fail
  refine ((unhide HF) _ (unhide M0)).mono ?_
  rintro e w1 ⟨rfl, m1⟩
  have M1 := hide ((unhide M0).trans m1)
  have sl1 := (unhide SL) _ (unhide M1)
  have hb := (m1.has (unhide B0) (fun x => x)).cell
  have lb := (m1.has (unhide B0) (fun x => x)).lt
  have BX := hide (m1.has (unhide B0) (fun x => x))
  have R1 := (unhide H).row.mod (unhide M1) (fun x => x)
  have c0 : w1.cell? ⟨g, i * 6, none⟩ = some (.int .i64 s.row) := by have := R1.row i hi; rw [unhide HSE] at this; exact this
  have c1 : w1.cell? ⟨g, i * 6 + 1, none⟩ = some (.int .i64 s.col) := by have := R1.col i hi; rw [unhide HSE] at this; exact this
  have c2 : w1.cell? ⟨g, i * 6 + 2, none⟩ = some (.int .i64 s.st) := by have := R1.st i hi; rw [unhide HSE] at this; exact this
  have c3 : w1.cell? ⟨g, i * 6 + 3, none⟩ = some (.int .i64 s.pa) := by have := R1.pa i hi; rw [unhide HSE] at this; exact this
  have c4 : w1.cell? ⟨g, i * 6 + 4, none⟩ = some (.int .i64 s.cl) := by have := R1.cl i hi; rw [unhide HSE] at this; exact this
  have c5 : w1.cell? ⟨g, i * 6 + 5, none⟩ = some (.int .i64 s.un) := by have := R1.un i hi; rw [unhide HSE] at this; exact this
  have fz := R1.froz
  have RR1 := hide R1
  clear m1 R1
  by_cases hs : s.st = 3
  · have hd : (s.st != 3) = false := by simpa using hs
    have HE := hide (show ee = 0 from by rw [← unhide HEE, if_neg (by simpa using hs)])
    obtain ⟨b1, b2, b3⟩ := (unhide HBR) hs
    have HN := hide (show (⟨s.row, s.col, 0, s.pa, s.cl, s.un⟩ : Sea) = ⟨s.row, s.col, 0, 0, 0, 0⟩ from by rw [b1, b2, b3])
    have S0 := hide (SaleOk.same (unhide H) (unhide M1))
    clear c0 c1 c3 c4 c5 b1 b2 b3 HEE HBR hs
    go_wp2
    go_ret
    rw [unhide HE, soldL_yes, ← unhide HN]
    have S1 : SaleOk w w1 gf fo g cap p l (l.set i s) := by rw [← unhide HSE, List.set_getElem_self]; exact unhide S0
    exact ⟨rfl, S1.put hi 2 (by omega) (.int .i64 0) ⟨s.row, s.col, 0, s.pa, s.cl, s.un⟩ rfl⟩
  · have hd : (s.st != 3) = true := by simpa using hs
    have HE := hide (show ee = 10 from by rw [← unhide HEE, if_pos (by simpa using hs)])
    clear c0 c1 c3 c4 c5 HEE HBR hs
    go_wp2
    go_ret
    rw [unhide HE, soldL_no (by omega)]
    exact ⟨rfl, SaleOk.same (unhide H) (unhide M1)⟩

end Go.Proofs.YthhibagcpjeihaaGreat
/- The document's answer: a command to a seat. -/
namespace Go.Proofs.YthhibagcpjeihaaGreat
open Go.RowKit
open M
set_option linter.unusedVariables false
set_option linter.unusedSimpArgs false
set_option maxRecDepth 100000
set_option maxHeartbeats 8000000

theorem seated_5 (wb gf fo g cap i : Nat) (p : Pla) (l : List Sea) (flight ar ac tr tc party cls time : Int) (pl : Pla) (w : World) (h : FlR w gf fo g cap p l) (s : Sea) (hi : i < l.length) (hse : l[i] = s)
    (HF : ∀ W, Mod No w W → Calls Tryz.prog 85 #[.pointer (some ⟨gf, fo, none⟩), .agg #[.int .i64 ar, .int .i64 ac]] W fun e w' => e = .returned (.int .i64 (i : Nat)) ∧ Mod No W w') (jv er : Int) (l' : List Sea)
    (HT : ∀ W, Mod No w W → Calls Tryz.prog 85 #[.pointer (some ⟨gf, fo, none⟩), .agg #[.int .i64 tr, .int .i64 tc]] W fun e w' => e = .returned (.int .i64 jv) ∧ Mod No W w')
    (HM : ∀ W, Mod No w W → Calls Tryz.prog 88 #[.pointer (some ⟨gf, fo, none⟩), .int .i64 i, .int .i64 jv, .int .i64 party] W fun e w' => e = .returned (.int .i64 er) ∧ SaleOk W w' gf fo g cap p l l') :
    Calls Tryz.prog 55 #[.pointer (some ⟨wb, 0, none⟩), .pointer (some ⟨gf, fo, none⟩), .agg #[.int .i64 5, .int .i64 flight, .int .i64 ar, .int .i64 ac, .int .i64 tr, .int .i64 tc, .int .i64 party, .int .i64 cls, .int .i64 time, .int .i64 pl.rows, .int .i64 pl.cols, .int .i64 pl.front, .int .i64 pl.l0, .int .i64 pl.l1, .int .i64 pl.l2, .int .i64 pl.l3]] w fun e w' => e = .returned (.int .i64 er) ∧ SaleOk w w' gf fo g cap p l l' := by
  have HT := hide HT
  have HM := hide HM
  have HF := hide HF
  have SL := hide fun W (hW : Mod No w W) => cell_keep hW h.slice (fun x => x)
  have hi1 : (i : Int) < (l.length : Int) := by omega
  have hi0 : (0 : Int) ≤ i := by omega
  have hn0 : ¬ (i : Int) < 0 := by omega
  have H := hide h
  have HSE := hide hse
  have M0 := hide ((Mod.refl No w).alloc (.cells #[.int .i64 5, .int .i64 flight, .int .i64 ar, .int .i64 ac, .int .i64 tr, .int .i64 tc, .int .i64 party, .int .i64 cls, .int .i64 time, .int .i64 pl.rows, .int .i64 pl.cols, .int .i64 pl.front, .int .i64 pl.l0, .int .i64 pl.l1, .int .i64 pl.l2, .int .i64 pl.l3] 41))
  have B0 := hide (Has.new w #[.int .i64 5, .int .i64 flight, .int .i64 ar, .int .i64 ac, .int .i64 tr, .int .i64 tc, .int .i64 party, .int .i64 cls, .int .i64 time, .int .i64 pl.rows, .int .i64 pl.cols, .int .i64 pl.front, .int .i64 pl.l0, .int .i64 pl.l1, .int .i64 pl.l2, .int .i64 pl.l3] 41)
  clear h hse
  go_enter Tryz.func55, Tryz.ntmps55
  go_wp2_with fail
  refine ((unhide HF) _ (unhide M0)).mono ?_
  rintro e w1 ⟨rfl, m1⟩
  have M1 := hide ((unhide M0).trans m1)
  have sl1 := (unhide SL) _ (unhide M1)
  have hb := (m1.has (unhide B0) (fun x => x)).cell
  have lb := (m1.has (unhide B0) (fun x => x)).lt
  have BX := hide (m1.has (unhide B0) (fun x => x))
  have R1 := (unhide H).row.mod (unhide M1) (fun x => x)
  have c0 : w1.cell? ⟨g, i * 6, none⟩ = some (.int .i64 s.row) := by have := R1.row i hi; rw [unhide HSE] at this; exact this
  have c1 : w1.cell? ⟨g, i * 6 + 1, none⟩ = some (.int .i64 s.col) := by have := R1.col i hi; rw [unhide HSE] at this; exact this
  have c2 : w1.cell? ⟨g, i * 6 + 2, none⟩ = some (.int .i64 s.st) := by have := R1.st i hi; rw [unhide HSE] at this; exact this
  have c3 : w1.cell? ⟨g, i * 6 + 3, none⟩ = some (.int .i64 s.pa) := by have := R1.pa i hi; rw [unhide HSE] at this; exact this
  have c4 : w1.cell? ⟨g, i * 6 + 4, none⟩ = some (.int .i64 s.cl) := by have := R1.cl i hi; rw [unhide HSE] at this; exact this
  have c5 : w1.cell? ⟨g, i * 6 + 5, none⟩ = some (.int .i64 s.un) := by have := R1.un i hi; rw [unhide HSE] at this; exact this
  have fz := R1.froz
  have RR1 := hide R1
  clear m1 R1
  clear c0 c1 c2 c3 c4 c5 fz RR1
  go_upto_region 15 with fail
  go_cut [6] (fun s6 wx => s6 = .int .i64 er ∧ Hid (SaleOk w wx gf fo g cap p l l'))
  case first =>
    have bn := fun W (hm : Mod No w1 W) => (hm.has (unhide BX) (fun x => x)).cell
    have BN := hide bn
    clear bn
    go_region_with (first
      | (go_at_call 85; refine ((unhide HT) _ (unhide M1).drew).mono ?_; rintro e w4 ⟨rfl, hm4⟩; have hb4 := (unhide BN) _ ((Mod.refl No w1).drew.trans hm4))
      | (go_at_call 88; refine ((unhide HM) _ ((unhide M1).drew.trans (by assumption))).mono ?_; rintro e w5 ⟨rfl, hr5, hm5⟩))
    all_goals go_wp2
    all_goals go_meet
    all_goals exact ⟨rfl, (by assumption), (((unhide M1).drew.trans (by assumption)).mono (fun _ _ x => x.elim)).trans (by assumption)⟩
  case rest =>
    obtain ⟨rfl, H6⟩ := hcut
    generalize wc = w6 at *
    clear hb lb BX sl1 M1
    go_wp2
    go_ret
    exact ⟨rfl, unhide H6⟩
end Go.Proofs.YthhibagcpjeihaaGreat
