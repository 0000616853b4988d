import Derived.Test.YtlcbemcamdafjaaGreatCdoesRef9
/- The document's answer: a command to a seat, as it is walked. -/
namespace Go.Proofs.YtlcbemcamdafjaaGreat
open Go.RowKit
open M
set_option linter.unusedVariables false
set_option linter.unusedSimpArgs false
set_option maxRecDepth 100000
set_option maxHeartbeats 8000000

/-- Where a place of the plane stands. -/
theorem rseat_has {gf fo g cap : Nat} {p : Pla} {l : List Sea} {w : World} (h : FlR w gf fo g cap p l) (hwf : Wf p l) (r c : Int) (hh : p.has r c = true) :
    Calls Tryz.prog 74 #[.pointer (some ⟨gf, fo, none⟩), .agg #[.int .i64 r, .int .i64 c]] w fun e w' => e = .returned (.int .i64 (p.idx r c : Nat)) ∧ Mod No w w' := by
  refine (rseat_any gf fo g cap l r c w h.row h.len h.slice).mono ?_
  rintro e w' ⟨hm, ⟨i, hi, h1, h2, rfl⟩ | ⟨hn, rfl⟩⟩
  · obtain ⟨h3, h4⟩ := Fli.wf.idx_place hwf hh
    have : i = p.idx r c := Fli.wf.place_inj hwf hi (Fli.wf.idx_lt hwf hh) (by rw [h3]; exact h1) (by rw [h4]; exact h2)
    rw [this]
    exact ⟨rfl, hm⟩
  · exact absurd (Fli.wf.idx_place hwf hh) (hn _ (Fli.wf.idx_lt hwf hh))
theorem rseat_no {gf fo g cap : Nat} {p : Pla} {l : List Sea} {w : World} (h : FlR w gf fo g cap p l) (hwf : Wf p l) (r c : Int) (hh : p.has r c = false) :
    Calls Tryz.prog 74 #[.pointer (some ⟨gf, fo, none⟩), .agg #[.int .i64 r, .int .i64 c]] w fun e w' => e = .returned (.int .i64 (-1)) ∧ Mod No w w' := by
  refine (rseat_any gf fo g cap l r c w h.row h.len h.slice).mono ?_
  rintro e w' ⟨hm, ⟨i, hi, h1, h2, rfl⟩ | ⟨hn, rfl⟩⟩
  · have := (Fli.wf.place_has hwf hi).1
    have e : p.has l[i].row l[i].col = p.has r c := by rw [h1, h2]
    have e2 : p.has l[i].row l[i].col = true := this
    rw [e, hh] at e2
    cases e2
  · exact ⟨rfl, hm⟩

theorem seated_no (wb gf fo : Nat) (c : Cmd) (w : World) (HF : ∀ W, Mod No w W → Calls Tryz.prog 74 #[.pointer (some ⟨gf, fo, none⟩), .agg #[.int .i64 c.ar, .int .i64 c.ac]] W fun e w' => e = .returned (.int .i64 (-1)) ∧ Mod No W w') :
    Calls Tryz.prog 53 #[.pointer (some ⟨wb, 0, none⟩), .pointer (some ⟨gf, fo, none⟩), .agg (cmdCells c)] w fun e w' => e = .returned (.int .i64 5) ∧ Mod No w w' := by
  have HF := hide HF
  have M0 := hide ((Mod.refl No w).alloc (.cells (cmdCells c) 41))
  unfold cmdCells at *
  go_enter Tryz.func53, Tryz.ntmps53
  go_wp2_with fail
  refine ((unhide HF) _ (unhide M0)).mono ?_
  rintro e w1 ⟨rfl, m1⟩
  go_wp2
  go_ret
  exact ⟨rfl, (unhide M0).trans m1⟩

theorem seated_2 (wb gf fo g cap i : Nat) (p : Pla) (l : List Sea) (flight ar ac tr tc party cls time : Int) (pl : Pla) (w : World) (h : FlR w gf fo g cap p l) (s : Sea) (hi : i < l.length) (hse : l[i] = s)
    (HF : ∀ W, Mod No w W → Calls Tryz.prog 74 #[.pointer (some ⟨gf, fo, none⟩), .agg #[.int .i64 ar, .int .i64 ac]] W fun e w' => e = .returned (.int .i64 (i : Nat)) ∧ Mod No W w') (er : Int) (l' : List Sea)
    (HS : ∀ W, Mod No w W → Calls Tryz.prog 75 #[.pointer (some ⟨wb, 0, none⟩), .pointer (some ⟨gf, fo, none⟩), .pointer (some ⟨g, i * 6, none⟩), .agg #[.int .i64 2, .int .i64 flight, .int .i64 ar, .int .i64 ac, .int .i64 tr, .int .i64 tc, .int .i64 party, .int .i64 cls, .int .i64 time, .int .i64 pl.rows, .int .i64 pl.cols, .int .i64 pl.front, .int .i64 pl.l0, .int .i64 pl.l1, .int .i64 pl.l2, .int .i64 pl.l3]] W fun e w' => e = .returned (.int .i64 er) ∧ SaleOk W w' gf fo g cap p l l') :
    Calls Tryz.prog 53 #[.pointer (some ⟨wb, 0, none⟩), .pointer (some ⟨gf, fo, none⟩), .agg #[.int .i64 2, .int .i64 flight, .int .i64 ar, .int .i64 ac, .int .i64 tr, .int .i64 tc, .int .i64 party, .int .i64 cls, .int .i64 time, .int .i64 pl.rows, .int .i64 pl.cols, .int .i64 pl.front, .int .i64 pl.l0, .int .i64 pl.l1, .int .i64 pl.l2, .int .i64 pl.l3]] w fun e w' => e = .returned (.int .i64 er) ∧ SaleOk w w' gf fo g cap p l l' := by
  have HS := hide HS
  have HF := hide HF
  have SL := hide fun W (hW : Mod No w W) => cell_keep hW h.slice (fun x => x)
  have hi1 : (i : Int) < (l.length : Int) := by omega
  have hi0 : (0 : Int) ≤ i := by omega
  have hn0 : ¬ (i : Int) < 0 := by omega
  have H := hide h
  have HSE := hide hse
  have M0 := hide ((Mod.refl No w).alloc (.cells #[.int .i64 2, .int .i64 flight, .int .i64 ar, .int .i64 ac, .int .i64 tr, .int .i64 tc, .int .i64 party, .int .i64 cls, .int .i64 time, .int .i64 pl.rows, .int .i64 pl.cols, .int .i64 pl.front, .int .i64 pl.l0, .int .i64 pl.l1, .int .i64 pl.l2, .int .i64 pl.l3] 41))
  have B0 := hide (Has.new w #[.int .i64 2, .int .i64 flight, .int .i64 ar, .int .i64 ac, .int .i64 tr, .int .i64 tc, .int .i64 party, .int .i64 cls, .int .i64 time, .int .i64 pl.rows, .int .i64 pl.cols, .int .i64 pl.front, .int .i64 pl.l0, .int .i64 pl.l1, .int .i64 pl.l2, .int .i64 pl.l3] 41)
  clear h hse
  go_enter Tryz.func53, Tryz.ntmps53
  go_wp2_with fail
  refine ((unhide HF) _ (unhide M0)).mono ?_
  rintro e w1 ⟨rfl, m1⟩
  have M1 := hide ((unhide M0).trans m1)
  have sl1 := (unhide SL) _ (unhide M1)
  have hb := (m1.has (unhide B0) (fun x => x)).cell
  have lb := (m1.has (unhide B0) (fun x => x)).lt
  have BX := hide (m1.has (unhide B0) (fun x => x))
  have R1 := (unhide H).row.mod (unhide M1) (fun x => x)
  have c0 : w1.cell? ⟨g, i * 6, none⟩ = some (.int .i64 s.row) := by have := R1.row i hi; rw [unhide HSE] at this; exact this
  have c1 : w1.cell? ⟨g, i * 6 + 1, none⟩ = some (.int .i64 s.col) := by have := R1.col i hi; rw [unhide HSE] at this; exact this
  have c2 : w1.cell? ⟨g, i * 6 + 2, none⟩ = some (.int .i64 s.st) := by have := R1.st i hi; rw [unhide HSE] at this; exact this
  have c3 : w1.cell? ⟨g, i * 6 + 3, none⟩ = some (.int .i64 s.pa) := by have := R1.pa i hi; rw [unhide HSE] at this; exact this
  have c4 : w1.cell? ⟨g, i * 6 + 4, none⟩ = some (.int .i64 s.cl) := by have := R1.cl i hi; rw [unhide HSE] at this; exact this
  have c5 : w1.cell? ⟨g, i * 6 + 5, none⟩ = some (.int .i64 s.un) := by have := R1.un i hi; rw [unhide HSE] at this; exact this
  have fz := R1.froz
  have RR1 := hide R1
  clear m1 R1
  clear c0 c1 c2 c3 c4 c5
  go_wp2_with fail
  refine ((unhide HS) _ (unhide M1)).mono ?_
  rintro e w2 ⟨rfl, hr, hm⟩
  have H2 := hide (show SaleOk w w2 gf fo g cap p l l' from ⟨hr, ((unhide M1).mono (fun _ _ x => x.elim)).trans hm⟩)
  clear hr hm hb
  go_wp2
  go_ret
  exact ⟨rfl, unhide H2⟩

theorem seated_3 (wb gf fo g cap i : Nat) (p : Pla) (l : List Sea) (flight ar ac tr tc party cls time : Int) (pl : Pla) (w : World) (h : FlR w gf fo g cap p l) (s : Sea) (hi : i < l.length) (hse : l[i] = s)
    (HF : ∀ W, Mod No w W → Calls Tryz.prog 74 #[.pointer (some ⟨gf, fo, none⟩), .agg #[.int .i64 ar, .int .i64 ac]] W fun e w' => e = .returned (.int .i64 (i : Nat)) ∧ Mod No W w') (er : Int) (l' : List Sea)
    (HS : ∀ W, Mod No w W → Calls Tryz.prog 75 #[.pointer (some ⟨wb, 0, none⟩), .pointer (some ⟨gf, fo, none⟩), .pointer (some ⟨g, i * 6, none⟩), .agg #[.int .i64 3, .int .i64 flight, .int .i64 ar, .int .i64 ac, .int .i64 tr, .int .i64 tc, .int .i64 party, .int .i64 cls, .int .i64 time, .int .i64 pl.rows, .int .i64 pl.cols, .int .i64 pl.front, .int .i64 pl.l0, .int .i64 pl.l1, .int .i64 pl.l2, .int .i64 pl.l3]] W fun e w' => e = .returned (.int .i64 er) ∧ SaleOk W w' gf fo g cap p l l') :
    Calls Tryz.prog 53 #[.pointer (some ⟨wb, 0, none⟩), .pointer (some ⟨gf, fo, none⟩), .agg #[.int .i64 3, .int .i64 flight, .int .i64 ar, .int .i64 ac, .int .i64 tr, .int .i64 tc, .int .i64 party, .int .i64 cls, .int .i64 time, .int .i64 pl.rows, .int .i64 pl.cols, .int .i64 pl.front, .int .i64 pl.l0, .int .i64 pl.l1, .int .i64 pl.l2, .int .i64 pl.l3]] w fun e w' => e = .returned (.int .i64 er) ∧ SaleOk w w' gf fo g cap p l l' := by
  have HS := hide HS
  have HF := hide HF
  have SL := hide fun W (hW : Mod No w W) => cell_keep hW h.slice (fun x => x)
  have hi1 : (i : Int) < (l.length : Int) := by omega
  have hi0 : (0 : Int) ≤ i := by omega
  have hn0 : ¬ (i : Int) < 0 := by omega
  have H := hide h
  have HSE := hide hse
  have M0 := hide ((Mod.refl No w).alloc (.cells #[.int .i64 3, .int .i64 flight, .int .i64 ar, .int .i64 ac, .int .i64 tr, .int .i64 tc, .int .i64 party, .int .i64 cls, .int .i64 time, .int .i64 pl.rows, .int .i64 pl.cols, .int .i64 pl.front, .int .i64 pl.l0, .int .i64 pl.l1, .int .i64 pl.l2, .int .i64 pl.l3] 41))
  have B0 := hide (Has.new w #[.int .i64 3, .int .i64 flight, .int .i64 ar, .int .i64 ac, .int .i64 tr, .int .i64 tc, .int .i64 party, .int .i64 cls, .int .i64 time, .int .i64 pl.rows, .int .i64 pl.cols, .int .i64 pl.front, .int .i64 pl.l0, .int .i64 pl.l1, .int .i64 pl.l2, .int .i64 pl.l3] 41)
  clear h hse
  go_enter Tryz.func53, Tryz.ntmps53
  go_wp2_with fail
  refine ((unhide HF) _ (unhide M0)).mono ?_
  rintro e w1 ⟨rfl, m1⟩
  have M1 := hide ((unhide M0).trans m1)
  have sl1 := (unhide SL) _ (unhide M1)
  have hb := (m1.has (unhide B0) (fun x => x)).cell
  have lb := (m1.has (unhide B0) (fun x => x)).lt
  have BX := hide (m1.has (unhide B0) (fun x => x))
  have R1 := (unhide H).row.mod (unhide M1) (fun x => x)
  have c0 : w1.cell? ⟨g, i * 6, none⟩ = some (.int .i64 s.row) := by have := R1.row i hi; rw [unhide HSE] at this; exact this
  have c1 : w1.cell? ⟨g, i * 6 + 1, none⟩ = some (.int .i64 s.col) := by have := R1.col i hi; rw [unhide HSE] at this; exact this
  have c2 : w1.cell? ⟨g, i * 6 + 2, none⟩ = some (.int .i64 s.st) := by have := R1.st i hi; rw [unhide HSE] at this; exact this
  have c3 : w1.cell? ⟨g, i * 6 + 3, none⟩ = some (.int .i64 s.pa) := by have := R1.pa i hi; rw [unhide HSE] at this; exact this
  have c4 : w1.cell? ⟨g, i * 6 + 4, none⟩ = some (.int .i64 s.cl) := by have := R1.cl i hi; rw [unhide HSE] at this; exact this
  have c5 : w1.cell? ⟨g, i * 6 + 5, none⟩ = some (.int .i64 s.un) := by have := R1.un i hi; rw [unhide HSE] at this; exact this
  have fz := R1.froz
  have RR1 := hide R1
  clear m1 R1
  clear c0 c1 c2 c3 c4 c5
  go_wp2_with fail
  refine ((unhide HS) _ (unhide M1)).mono ?_
  rintro e w2 ⟨rfl, hr, hm⟩
  have H2 := hide (show SaleOk w w2 gf fo g cap p l l' from ⟨hr, ((unhide M1).mono (fun _ _ x => x.elim)).trans hm⟩)
  clear hr hm hb
  go_wp2
  go_ret
  exact ⟨rfl, unhide H2⟩

theorem seated_4 (wb gf fo g cap i : Nat) (p : Pla) (l : List Sea) (flight ar ac tr tc party cls time : Int) (pl : Pla) (w : World) (h : FlR w gf fo g cap p l) (s : Sea) (hi : i < l.length) (hse : l[i] = s)
    (HF : ∀ W, Mod No w W → Calls Tryz.prog 74 #[.pointer (some ⟨gf, fo, none⟩), .agg #[.int .i64 ar, .int .i64 ac]] W fun e w' => e = .returned (.int .i64 (i : Nat)) ∧ Mod No W w')  :
    Calls Tryz.prog 53 #[.pointer (some ⟨wb, 0, none⟩), .pointer (some ⟨gf, fo, none⟩), .agg #[.int .i64 4, .int .i64 flight, .int .i64 ar, .int .i64 ac, .int .i64 tr, .int .i64 tc, .int .i64 party, .int .i64 cls, .int .i64 time, .int .i64 pl.rows, .int .i64 pl.cols, .int .i64 pl.front, .int .i64 pl.l0, .int .i64 pl.l1, .int .i64 pl.l2, .int .i64 pl.l3]] w fun e w' => e = .returned (.int .i64 (ownerN s.st s.pa party)) ∧ SaleOk w w' gf fo g cap p l (soldL (ownerN s.st s.pa party) l i s.freed) := by
  have HT := hide fun W => taken_any s party W
  unfold seaV at HT
  generalize ownerN s.st s.pa party = er at *
  have HF := hide HF
  have SL := hide fun W (hW : Mod No w W) => cell_keep hW h.slice (fun x => x)
  have hi1 : (i : Int) < (l.length : Int) := by omega
  have hi0 : (0 : Int) ≤ i := by omega
  have hn0 : ¬ (i : Int) < 0 := by omega
  have H := hide h
  have HSE := hide hse
  have M0 := hide ((Mod.refl No w).alloc (.cells #[.int .i64 4, .int .i64 flight, .int .i64 ar, .int .i64 ac, .int .i64 tr, .int .i64 tc, .int .i64 party, .int .i64 cls, .int .i64 time, .int .i64 pl.rows, .int .i64 pl.cols, .int .i64 pl.front, .int .i64 pl.l0, .int .i64 pl.l1, .int .i64 pl.l2, .int .i64 pl.l3] 41))
  have B0 := hide (Has.new w #[.int .i64 4, .int .i64 flight, .int .i64 ar, .int .i64 ac, .int .i64 tr, .int .i64 tc, .int .i64 party, .int .i64 cls, .int .i64 time, .int .i64 pl.rows, .int .i64 pl.cols, .int .i64 pl.front, .int .i64 pl.l0, .int .i64 pl.l1, .int .i64 pl.l2, .int .i64 pl.l3] 41)
  clear h hse
  go_enter Tryz.func53, Tryz.ntmps53
  go_wp2_with fail
  refine ((unhide HF) _ (unhide M0)).mono ?_
  rintro e w1 ⟨rfl, m1⟩
  have M1 := hide ((unhide M0).trans m1)
  have sl1 := (unhide SL) _ (unhide M1)
  have hb := (m1.has (unhide B0) (fun x => x)).cell
  have lb := (m1.has (unhide B0) (fun x => x)).lt
  have BX := hide (m1.has (unhide B0) (fun x => x))
  have R1 := (unhide H).row.mod (unhide M1) (fun x => x)
  have c0 : w1.cell? ⟨g, i * 6, none⟩ = some (.int .i64 s.row) := by have := R1.row i hi; rw [unhide HSE] at this; exact this
  have c1 : w1.cell? ⟨g, i * 6 + 1, none⟩ = some (.int .i64 s.col) := by have := R1.col i hi; rw [unhide HSE] at this; exact this
  have c2 : w1.cell? ⟨g, i * 6 + 2, none⟩ = some (.int .i64 s.st) := by have := R1.st i hi; rw [unhide HSE] at this; exact this
  have c3 : w1.cell? ⟨g, i * 6 + 3, none⟩ = some (.int .i64 s.pa) := by have := R1.pa i hi; rw [unhide HSE] at this; exact this
  have c4 : w1.cell? ⟨g, i * 6 + 4, none⟩ = some (.int .i64 s.cl) := by have := R1.cl i hi; rw [unhide HSE] at this; exact this
  have c5 : w1.cell? ⟨g, i * 6 + 5, none⟩ = some (.int .i64 s.un) := by have := R1.un i hi; rw [unhide HSE] at this; exact this
  have fz := R1.froz
  have RR1 := hide R1
  clear m1 R1
  have HQ := hide fun (w2 : World) (hm : Mod No w w2) => (show SaleOk w ((((((w2.setCell ⟨g, i * 6, none⟩ (.int .i64 s.row)).setCell ⟨g, i * 6 + 1, none⟩ (.int .i64 s.col)).setCell ⟨g, i * 6 + 2, none⟩ (.int .i64 0)).setCell ⟨g, i * 6 + 3, none⟩ (.int .i64 0)).setCell ⟨g, i * 6 + 4, none⟩ (.int .i64 0)).setCell ⟨g, i * 6 + 5, none⟩ (.int .i64 0)) gf fo g cap p l (soldL 0 l i s.freed) from
    ⟨((unhide H).row.mod hm (fun x => x)).put6 i hi s.freed, (hm.mono (S' := fun k => k = g) (fun _ _ x => x.elim)).put6 (S := fun k => k = g) rfl i _ _ _ _ _ _⟩)
  go_upto_region 10 with fail
  go_cut [9] (fun s9 wx => s9 = .int .i64 er ∧ Hid (Mod No w wx))
  case first =>
    go_region_with (go_at_call 76; refine ((unhide HT) _).mono ?_; rintro e w4 ⟨rfl, hm4⟩)
    all_goals go_wp2
    all_goals go_meet
    all_goals exact ⟨rfl, (unhide M1).drew.trans (by assumption)⟩
  case rest =>
    obtain ⟨rfl, M4⟩ := hcut
    generalize wc = w4 at *
    clear c0 c1 c2 c3 c4 c5 fz hb lb BX RR1 sl1 HT
    by_cases hz : er = 0
    · subst hz
      have R4 := (unhide H).row.mod (unhide M4) (fun x => x)
      have c0 : w4.cell? ⟨g, i * 6, none⟩ = some (.int .i64 s.row) := by have := R4.row i hi; rw [unhide HSE] at this; exact this
      have c1 : w4.cell? ⟨g, i * 6 + 1, none⟩ = some (.int .i64 s.col) := by have := R4.col i hi; rw [unhide HSE] at this; exact this
      have c2 := R4.st i hi
      have c3 := R4.pa i hi
      have c4 := R4.cl i hi
      have c5 := R4.un i hi
      have fz := R4.froz
      clear R4
      go_wp2
      go_ret
      exact ⟨rfl, (unhide HQ) _ (unhide M4)⟩
    · have hd : (er == 0) = false := by simpa using hz
      have HZ := hide hz
      clear hz
      go_wp2
      go_ret
      rw [soldL_no (unhide HZ)]
      exact ⟨rfl, SaleOk.same (unhide H) (unhide M4)⟩

theorem seated_6 (wb gf fo g cap i : Nat) (p : Pla) (l : List Sea) (flight ar ac tr tc party cls time : Int) (pl : Pla) (w : World) (h : FlR w gf fo g cap p l) (s : Sea) (hi : i < l.length) (hse : l[i] = s)
    (HF : ∀ W, Mod No w W → Calls Tryz.prog 74 #[.pointer (some ⟨gf, fo, none⟩), .agg #[.int .i64 ar, .int .i64 ac]] W fun e w' => e = .returned (.int .i64 (i : Nat)) ∧ Mod No W w') (hbare : s.st = 0 → s.pa = 0 ∧ s.cl = 0 ∧ s.un = 0) :
    Calls Tryz.prog 53 #[.pointer (some ⟨wb, 0, none⟩), .pointer (some ⟨gf, fo, none⟩), .agg #[.int .i64 6, .int .i64 flight, .int .i64 ar, .int .i64 ac, .int .i64 tr, .int .i64 tc, .int .i64 party, .int .i64 cls, .int .i64 time, .int .i64 pl.rows, .int .i64 pl.cols, .int .i64 pl.front, .int .i64 pl.l0, .int .i64 pl.l1, .int .i64 pl.l2, .int .i64 pl.l3]] w fun e w' => e = .returned (.int .i64 (if s.st ≠ 0 then 9 else 0)) ∧ SaleOk w w' gf fo g cap p l (soldL (if s.st ≠ 0 then 9 else 0) l i ⟨s.row, s.col, 3, 0, 0, 0⟩) := by
  have HBR := hide hbare
  clear hbare
  generalize hEE : (if s.st ≠ 0 then (9 : Int) else 0) = ee
  have HEE := hide hEE
  clear hEE
  have HF := hide HF
  have SL := hide fun W (hW : Mod No w W) => cell_keep hW h.slice (fun x => x)
  have hi1 : (i : Int) < (l.length : Int) := by omega
  have hi0 : (0 : Int) ≤ i := by omega
  have hn0 : ¬ (i : Int) < 0 := by omega
  have H := hide h
  have HSE := hide hse
  have M0 := hide ((Mod.refl No w).alloc (.cells #[.int .i64 6, .int .i64 flight, .int .i64 ar, .int .i64 ac, .int .i64 tr, .int .i64 tc, .int .i64 party, .int .i64 cls, .int .i64 time, .int .i64 pl.rows, .int .i64 pl.cols, .int .i64 pl.front, .int .i64 pl.l0, .int .i64 pl.l1, .int .i64 pl.l2, .int .i64 pl.l3] 41))
  have B0 := hide (Has.new w #[.int .i64 6, .int .i64 flight, .int .i64 ar, .int .i64 ac, .int .i64 tr, .int .i64 tc, .int .i64 party, .int .i64 cls, .int .i64 time, .int .i64 pl.rows, .int .i64 pl.cols, .int .i64 pl.front, .int .i64 pl.l0, .int .i64 pl.l1, .int .i64 pl.l2, .int .i64 pl.l3] 41)
  clear h hse
  go_enter Tryz.func53, Tryz.ntmps53
  go_wp2_with fail
  refine ((unhide HF) _ (unhide M0)).mono ?_
  rintro e w1 ⟨rfl, m1⟩
  have M1 := hide ((unhide M0).trans m1)
  have sl1 := (unhide SL) _ (unhide M1)
  have hb := (m1.has (unhide B0) (fun x => x)).cell
  have lb := (m1.has (unhide B0) (fun x => x)).lt
  have BX := hide (m1.has (unhide B0) (fun x => x))
  have R1 := (unhide H).row.mod (unhide M1) (fun x => x)
  have c0 : w1.cell? ⟨g, i * 6, none⟩ = some (.int .i64 s.row) := by have := R1.row i hi; rw [unhide HSE] at this; exact this
  have c1 : w1.cell? ⟨g, i * 6 + 1, none⟩ = some (.int .i64 s.col) := by have := R1.col i hi; rw [unhide HSE] at this; exact this
  have c2 : w1.cell? ⟨g, i * 6 + 2, none⟩ = some (.int .i64 s.st) := by have := R1.st i hi; rw [unhide HSE] at this; exact this
  have c3 : w1.cell? ⟨g, i * 6 + 3, none⟩ = some (.int .i64 s.pa) := by have := R1.pa i hi; rw [unhide HSE] at this; exact this
  have c4 : w1.cell? ⟨g, i * 6 + 4, none⟩ = some (.int .i64 s.cl) := by have := R1.cl i hi; rw [unhide HSE] at this; exact this
  have c5 : w1.cell? ⟨g, i * 6 + 5, none⟩ = some (.int .i64 s.un) := by have := R1.un i hi; rw [unhide HSE] at this; exact this
  have fz := R1.froz
  have RR1 := hide R1
  clear m1 R1
  by_cases hs : s.st = 0
  · have hd : (s.st != 0) = false := by simpa using hs
    have HE := hide (show ee = 0 from by rw [← unhide HEE, if_neg (by simpa using hs)])
    obtain ⟨b1, b2, b3⟩ := (unhide HBR) hs
    have HN := hide (show (⟨s.row, s.col, 3, s.pa, s.cl, s.un⟩ : Sea) = ⟨s.row, s.col, 3, 0, 0, 0⟩ from by rw [b1, b2, b3])
    have S0 := hide (SaleOk.same (unhide H) (unhide M1))
    clear c0 c1 c3 c4 c5 b1 b2 b3 HEE HBR hs
    go_wp2
    go_ret
    rw [unhide HE, soldL_yes, ← unhide HN]
    have S1 : SaleOk w w1 gf fo g cap p l (l.set i s) := by rw [← unhide HSE, List.set_getElem_self]; exact unhide S0
    exact ⟨rfl, S1.put hi 2 (by omega) (.int .i64 3) ⟨s.row, s.col, 3, s.pa, s.cl, s.un⟩ rfl⟩
  · have hd : (s.st != 0) = true := by simpa using hs
    have HE := hide (show ee = 9 from by rw [← unhide HEE, if_pos (by simpa using hs)])
    clear c0 c1 c3 c4 c5 HEE HBR hs
    go_wp2
    go_ret
    rw [unhide HE, soldL_no (by omega)]
    exact ⟨rfl, SaleOk.same (unhide H) (unhide M1)⟩

theorem seated_7 (wb gf fo g cap i : Nat) (p : Pla) (l : List Sea) (flight ar ac tr tc party cls time : Int) (pl : Pla) (w : World) (h : FlR w gf fo g cap p l) (s : Sea) (hi : i < l.length) (hse : l[i] = s)
    (HF : ∀ W, Mod No w W → Calls Tryz.prog 74 #[.pointer (some ⟨gf, fo, none⟩), .agg #[.int .i64 ar, .int .i64 ac]] W fun e w' => e = .returned (.int .i64 (i : Nat)) ∧ Mod No W w') (hbare : s.st = 3 → s.pa = 0 ∧ s.cl = 0 ∧ s.un = 0) :
    Calls Tryz.prog 53 #[.pointer (some ⟨wb, 0, none⟩), .pointer (some ⟨gf, fo, none⟩), .agg #[.int .i64 7, .int .i64 flight, .int .i64 ar, .int .i64 ac, .int .i64 tr, .int .i64 tc, .int .i64 party, .int .i64 cls, .int .i64 time, .int .i64 pl.rows, .int .i64 pl.cols, .int .i64 pl.front, .int .i64 pl.l0, .int .i64 pl.l1, .int .i64 pl.l2, .int .i64 pl.l3]] w fun e w' => e = .returned (.int .i64 (if s.st ≠ 3 then 10 else 0)) ∧ SaleOk w w' gf fo g cap p l (soldL (if s.st ≠ 3 then 10 else 0) l i ⟨s.row, s.col, 0, 0, 0, 0⟩) := by
  have HBR := hide hbare
  clear hbare
  generalize hEE : (if s.st ≠ 3 then (10 : Int) else 0) = ee
  have HEE := hide hEE
  clear hEE
  have HF := hide HF
  have SL := hide fun W (hW : Mod No w W) => cell_keep hW h.slice (fun x => x)
  have hi1 : (i : Int) < (l.length : Int) := by omega
  have hi0 : (0 : Int) ≤ i := by omega
  have hn0 : ¬ (i : Int) < 0 := by omega
  have H := hide h
  have HSE := hide hse
  have M0 := hide ((Mod.refl No w).alloc (.cells #[.int .i64 7, .int .i64 flight, .int .i64 ar, .int .i64 ac, .int .i64 tr, .int .i64 tc, .int .i64 party, .int .i64 cls, .int .i64 time, .int .i64 pl.rows, .int .i64 pl.cols, .int .i64 pl.front, .int .i64 pl.l0, .int .i64 pl.l1, .int .i64 pl.l2, .int .i64 pl.l3] 41))
  have B0 := hide (Has.new w #[.int .i64 7, .int .i64 flight, .int .i64 ar, .int .i64 ac, .int .i64 tr, .int .i64 tc, .int .i64 party, .int .i64 cls, .int .i64 time, .int .i64 pl.rows, .int .i64 pl.cols, .int .i64 pl.front, .int .i64 pl.l0, .int .i64 pl.l1, .int .i64 pl.l2, .int .i64 pl.l3] 41)
  clear h hse
  go_enter Tryz.func53, Tryz.ntmps53
  go_wp2_with fail
  refine ((unhide HF) _ (unhide M0)).mono ?_
  rintro e w1 ⟨rfl, m1⟩
  have M1 := hide ((unhide M0).trans m1)
  have sl1 := (unhide SL) _ (unhide M1)
  have hb := (m1.has (unhide B0) (fun x => x)).cell
  have lb := (m1.has (unhide B0) (fun x => x)).lt
  have BX := hide (m1.has (unhide B0) (fun x => x))
  have R1 := (unhide H).row.mod (unhide M1) (fun x => x)
  have c0 : w1.cell? ⟨g, i * 6, none⟩ = some (.int .i64 s.row) := by have := R1.row i hi; rw [unhide HSE] at this; exact this
  have c1 : w1.cell? ⟨g, i * 6 + 1, none⟩ = some (.int .i64 s.col) := by have := R1.col i hi; rw [unhide HSE] at this; exact this
  have c2 : w1.cell? ⟨g, i * 6 + 2, none⟩ = some (.int .i64 s.st) := by have := R1.st i hi; rw [unhide HSE] at this; exact this
  have c3 : w1.cell? ⟨g, i * 6 + 3, none⟩ = some (.int .i64 s.pa) := by have := R1.pa i hi; rw [unhide HSE] at this; exact this
  have c4 : w1.cell? ⟨g, i * 6 + 4, none⟩ = some (.int .i64 s.cl) := by have := R1.cl i hi; rw [unhide HSE] at this; exact this
  have c5 : w1.cell? ⟨g, i * 6 + 5, none⟩ = some (.int .i64 s.un) := by have := R1.un i hi; rw [unhide HSE] at this; exact this
  have fz := R1.froz
  have RR1 := hide R1
  clear m1 R1
  by_cases hs : s.st = 3
  · have hd : (s.st != 3) = false := by simpa using hs
    have HE := hide (show ee = 0 from by rw [← unhide HEE, if_neg (by simpa using hs)])
    obtain ⟨b1, b2, b3⟩ := (unhide HBR) hs
    have HN := hide (show (⟨s.row, s.col, 0, s.pa, s.cl, s.un⟩ : Sea) = ⟨s.row, s.col, 0, 0, 0, 0⟩ from by rw [b1, b2, b3])
    have S0 := hide (SaleOk.same (unhide H) (unhide M1))
    clear c0 c1 c3 c4 c5 b1 b2 b3 HEE HBR hs
    go_wp2
    go_ret
    rw [unhide HE, soldL_yes, ← unhide HN]
    have S1 : SaleOk w w1 gf fo g cap p l (l.set i s) := by rw [← unhide HSE, List.set_getElem_self]; exact unhide S0
    exact ⟨rfl, S1.put hi 2 (by omega) (.int .i64 0) ⟨s.row, s.col, 0, s.pa, s.cl, s.un⟩ rfl⟩
  · have hd : (s.st != 3) = true := by simpa using hs
    have HE := hide (show ee = 10 from by rw [← unhide HEE, if_pos (by simpa using hs)])
    clear c0 c1 c3 c4 c5 HEE HBR hs
    go_wp2
    go_ret
    rw [unhide HE, soldL_no (by omega)]
    exact ⟨rfl, SaleOk.same (unhide H) (unhide M1)⟩

end Go.Proofs.YtlcbemcamdafjaaGreat
