import Derived.Test.YthhibagcpjeihaaGreatIRef8ToRef9
namespace Go.Proofs.YthhibagcpjeihaaGreat
open Go.RowKit
open M
set_option linter.unusedVariables false
set_option linter.unusedSimpArgs false
set_option maxRecDepth 100000
set_option maxHeartbeats 8000000
theorem rseat_has {gf fo g cap : Nat} {p : Pla} {l : List Sea} {w : World} (h : FlR w gf fo g cap p l) (hwf : Wf p l) (r c : Int) (hh : p.has r c = true) :
  Calls Tryz.prog 85 #[.pointer (some ⟨gf, fo, none⟩), .agg #[.int .i64 r, .int .i64 c]] w fun e w' => e = .returned (.int .i64 (p.idx r c : Nat)) ∧ Mod No w w' := by
 refine (rseat_any gf fo g cap l r c w h.row h.len h.slice).mono ?_
 rintro e w' ⟨hm, ⟨i, hi, h1, h2, rfl⟩ | ⟨hn, rfl⟩⟩
 ·obtain ⟨h3, h4⟩ := Fli.wf.idx_place hwf hh
  have : i = p.idx r c := Fli.wf.place_inj hwf hi (Fli.wf.idx_lt hwf hh) (by rw [h3]; exact h1) (by rw [h4]; exact h2)
  rw [this]
  exact ⟨rfl, hm⟩
 ·exact absurd (Fli.wf.idx_place hwf hh) (hn _ (Fli.wf.idx_lt hwf hh))
theorem rseat_no {gf fo g cap : Nat} {p : Pla} {l : List Sea} {w : World} (h : FlR w gf fo g cap p l) (hwf : Wf p l) (r c : Int) (hh : p.has r c = false) :
  Calls Tryz.prog 85 #[.pointer (some ⟨gf, fo, none⟩), .agg #[.int .i64 r, .int .i64 c]] w fun e w' => e = .returned (.int .i64 (-1)) ∧ Mod No w w' := by
 refine (rseat_any gf fo g cap l r c w h.row h.len h.slice).mono ?_
 rintro e w' ⟨hm, ⟨i, hi, h1, h2, rfl⟩ | ⟨hn, rfl⟩⟩
 ·have := (Fli.wf.place_has hwf hi).1
  have e : p.has l[i].row l[i].col = p.has r c := by rw [h1, h2]
  have e2 : p.has l[i].row l[i].col = true := this
  rw [e, hh] at e2
  cases e2
 ·exact ⟨rfl, hm⟩
theorem seated_no (wb gf fo : Nat) (c : Cmd) (w : World) (HF : ∀ W, Mod No w W → Calls Tryz.prog 85 #[.pointer (some ⟨gf, fo, none⟩), .agg #[.int .i64 c.ar, .int .i64 c.ac]] W fun e w' => e = .returned (.int .i64 (-1)) ∧ Mod No W w') :
  Calls Tryz.prog 55 #[.pointer (some ⟨wb, 0, none⟩), .pointer (some ⟨gf, fo, none⟩), .agg (cmdCells c)] w fun e w' => e = .returned (.int .i64 5) ∧ Mod No w w' := by
 have HF := hide HF
 have M0 := hide ((Mod.refl No w).alloc (.cells (cmdCells c) 41))
 unfold cmdCells at *
 go_enter Tryz.func55, Tryz.ntmps55
 go_wp2_with fail
 refine ((unhide HF) _ (unhide M0)).mono ?_
 rintro e w1 ⟨rfl, m1⟩
 go_wp2
 go_ret
 exact ⟨rfl, (unhide M0).trans m1⟩
theorem seated_2 (wb gf fo g cap i : Nat) (p : Pla) (l : List Sea) (flight ar ac tr tc party cls time : Int) (pl : Pla) (w : World) (h : FlR w gf fo g cap p l) (s : Sea) (hi : i < l.length) (hse : l[i] = s)
  (HF : ∀ W, Mod No w W → Calls Tryz.prog 85 #[.pointer (some ⟨gf, fo, none⟩), .agg #[.int .i64 ar, .int .i64 ac]] W fun e w' => e = .returned (.int .i64 (i : Nat)) ∧ Mod No W w') (er : Int) (l' : List Sea)
  (HS : ∀ W, Mod No w W → Calls Tryz.prog 86 #[.pointer (some ⟨wb, 0, none⟩), .pointer (some ⟨gf, fo, none⟩), .pointer (some ⟨g, i * 6, none⟩), .agg #[.int .i64 2, .int .i64 flight, .int .i64 ar, .int .i64 ac, .int .i64 tr, .int .i64 tc, .int .i64 party, .int .i64 cls, .int .i64 time, .int .i64 pl.rows, .int .i64 pl.cols, .int .i64 pl.front, .int .i64 pl.l0, .int .i64 pl.l1, .int .i64 pl.l2, .int .i64 pl.l3]] W fun e w' => e = .returned (.int .i64 er) ∧ SaleOk W w' gf fo g cap p l l') :
  Calls Tryz.prog 55 #[.pointer (some ⟨wb, 0, none⟩), .pointer (some ⟨gf, fo, none⟩), .agg #[.int .i64 2, .int .i64 flight, .int .i64 ar, .int .i64 ac, .int .i64 tr, .int .i64 tc, .int .i64 party, .int .i64 cls, .int .i64 time, .int .i64 pl.rows, .int .i64 pl.cols, .int .i64 pl.front, .int .i64 pl.l0, .int .i64 pl.l1, .int .i64 pl.l2, .int .i64 pl.l3]] w fun e w' => e = .returned (.int .i64 er) ∧ SaleOk w w' gf fo g cap p l l' := by
 have HS := hide HS
 have HF := hide HF
 have SL := hide fun W (hW : Mod No w W) => cell_keep hW h.slice (fun x => x)
 have hi1 : (i : Int) < (l.length : Int) := by omega
 have hi0 : (0 : Int) ≤ i := by omega
 have hn0 : ¬ (i : Int) < 0 := by omega
 have H := hide h
 have HSE := hide hse
 have M0 := hide ((Mod.refl No w).alloc (.cells #[.int .i64 2, .int .i64 flight, .int .i64 ar, .int .i64 ac, .int .i64 tr, .int .i64 tc, .int .i64 party, .int .i64 cls, .int .i64 time, .int .i64 pl.rows, .int .i64 pl.cols, .int .i64 pl.front, .int .i64 pl.l0, .int .i64 pl.l1, .int .i64 pl.l2, .int .i64 pl.l3] 41))
 have B0 := hide (Has.new w #[.int .i64 2, .int .i64 flight, .int .i64 ar, .int .i64 ac, .int .i64 tr, .int .i64 tc, .int .i64 party, .int .i64 cls, .int .i64 time, .int .i64 pl.rows, .int .i64 pl.cols, .int .i64 pl.front, .int .i64 pl.l0, .int .i64 pl.l1, .int .i64 pl.l2, .int .i64 pl.l3] 41)
 clear h hse
 go_enter Tryz.func55, Tryz.ntmps55
 go_wp2_with fail
 refine ((unhide HF) _ (unhide M0)).mono ?_
 rintro e w1 ⟨rfl, m1⟩
 have M1 := hide ((unhide M0).trans m1)
 have sl1 := (unhide SL) _ (unhide M1)
 have hb := (m1.has (unhide B0) (fun x => x)).cell
 have lb := (m1.has (unhide B0) (fun x => x)).lt
 have BX := hide (m1.has (unhide B0) (fun x => x))
 have R1 := (unhide H).row.mod (unhide M1) (fun x => x)
 have c0 : w1.cell? ⟨g, i * 6, none⟩ = some (.int .i64 s.row) := by have := R1.row i hi; rw [unhide HSE] at this; exact this
 have c1 : w1.cell? ⟨g, i * 6 + 1, none⟩ = some (.int .i64 s.col) := by have := R1.col i hi; rw [unhide HSE] at this; exact this
 have c2 : w1.cell? ⟨g, i * 6 + 2, none⟩ = some (.int .i64 s.st) := by have := R1.st i hi; rw [unhide HSE] at this; exact this
 have c3 : w1.cell? ⟨g, i * 6 + 3, none⟩ = some (.int .i64 s.pa) := by have := R1.pa i hi; rw [unhide HSE] at this; exact this
 have c4 : w1.cell? ⟨g, i * 6 + 4, none⟩ = some (.int .i64 s.cl) := by have := R1.cl i hi; rw [unhide HSE] at this; exact this
 have c5 : w1.cell? ⟨g, i * 6 + 5, none⟩ = some (.int .i64 s.un) := by have := R1.un i hi; rw [unhide HSE] at this; exact this
 have fz := R1.froz
 have RR1 := hide R1
 clear m1 R1
 clear c0 c1 c2 c3 c4 c5
 go_wp2_with fail
 refine ((unhide HS) _ (unhide M1)).mono ?_
 rintro e w2 ⟨rfl, hr, hm⟩
 have H2 := hide (show SaleOk w w2 gf fo g cap p l l' from ⟨hr, ((unhide M1).mono (fun _ _ x => x.elim)).trans hm⟩)
 clear hr hm hb
 go_wp2
 go_ret
 exact ⟨rfl, unhide H2⟩
theorem seated_3 (wb gf fo g cap i : Nat) (p : Pla) (l : List Sea) (flight ar ac tr tc party cls time : Int) (pl : Pla) (w : World) (h : FlR w gf fo g cap p l) (s : Sea) (hi : i < l.length) (hse : l[i] = s)
  (HF : ∀ W, Mod No w W → Calls Tryz.prog 85 #[.pointer (some ⟨gf, fo, none⟩), .agg #[.int .i64 ar, .int .i64 ac]] W fun e w' => e = .returned (.int .i64 (i : Nat)) ∧ Mod No W w') (er : Int) (l' : List Sea)
  (HS : ∀ W, Mod No w W → Calls Tryz.prog 86 #[.pointer (some ⟨wb, 0, none⟩), .pointer (some ⟨gf, fo, none⟩), .pointer (some ⟨g, i * 6, none⟩), .agg #[.int .i64 3, .int .i64 flight, .int .i64 ar, .int .i64 ac, .int .i64 tr, .int .i64 tc, .int .i64 party, .int .i64 cls, .int .i64 time, .int .i64 pl.rows, .int .i64 pl.cols, .int .i64 pl.front, .int .i64 pl.l0, .int .i64 pl.l1, .int .i64 pl.l2, .int .i64 pl.l3]] W fun e w' => e = .returned (.int .i64 er) ∧ SaleOk W w' gf fo g cap p l l') :
  Calls Tryz.prog 55 #[.pointer (some ⟨wb, 0, none⟩), .pointer (some ⟨gf, fo, none⟩), .agg #[.int .i64 3, .int .i64 flight, .int .i64 ar, .int .i64 ac, .int .i64 tr, .int .i64 tc, .int .i64 party, .int .i64 cls, .int .i64 time, .int .i64 pl.rows, .int .i64 pl.cols, .int .i64 pl.front, .int .i64 pl.l0, .int .i64 pl.l1, .int .i64 pl.l2, .int .i64 pl.l3]] w fun e w' => e = .returned (.int .i64 er) ∧ SaleOk w w' gf fo g cap p l l' := by
 have HS := hide HS
 have HF := hide HF
 have SL := hide fun W (hW : Mod No w W) => cell_keep hW h.slice (fun x => x)
 have hi1 : (i : Int) < (l.length : Int) := by omega
 have hi0 : (0 : Int) ≤ i := by omega
 have hn0 : ¬ (i : Int) < 0 := by omega
 have H := hide h
 have HSE := hide hse
 have M0 := hide ((Mod.refl No w).alloc (.cells #[.int .i64 3, .int .i64 flight, .int .i64 ar, .int .i64 ac, .int .i64 tr, .int .i64 tc, .int .i64 party, .int .i64 cls, .int .i64 time, .int .i64 pl.rows, .int .i64 pl.cols, .int .i64 pl.front, .int .i64 pl.l0, .int .i64 pl.l1, .int .i64 pl.l2, .int .i64 pl.l3] 41))
 have B0 := hide (Has.new w #[.int .i64 3, .int .i64 flight, .int .i64 ar, .int .i64 ac, .int .i64 tr, .int .i64 tc, .int .i64 party, .int .i64 cls, .int .i64 time, .int .i64 pl.rows, .int .i64 pl.cols, .int .i64 pl.front, .int .i64 pl.l0, .int .i64 pl.l1, .int .i64 pl.l2, .int .i64 pl.l3] 41)
 clear h hse
 go_enter Tryz.func55, Tryz.ntmps55
 go_wp2_with fail
 refine ((unhide HF) _ (unhide M0)).mono ?_
 rintro e w1 ⟨rfl, m1⟩
 have M1 := hide ((unhide M0).trans m1)
 have sl1 := (unhide SL) _ (unhide M1)
 have hb := (m1.has (unhide B0) (fun x => x)).cell
 have lb := (m1.has (unhide B0) (fun x => x)).lt
 have BX := hide (m1.has (unhide B0) (fun x => x))
 have R1 := (unhide H).row.mod (unhide M1) (fun x => x)
 have c0 : w1.cell? ⟨g, i * 6, none⟩ = some (.int .i64 s.row) := by have := R1.row i hi; rw [unhide HSE] at this; exact this
 have c1 : w1.cell? ⟨g, i * 6 + 1, none⟩ = some (.int .i64 s.col) := by have := R1.col i hi; rw [unhide HSE] at this; exact this
 have c2 : w1.cell? ⟨g, i * 6 + 2, none⟩ = some (.int .i64 s.st) := by have := R1.st i hi; rw [unhide HSE] at this; exact this
 have c3 : w1.cell? ⟨g, i * 6 + 3, none⟩ = some (.int .i64 s.pa) := by have := R1.pa i hi; rw [unhide HSE] at this; exact this
 have c4 : w1.cell? ⟨g, i * 6 + 4, none⟩ = some (.int .i64 s.cl) := by have := R1.cl i hi; rw [unhide HSE] at this; exact this
 have c5 : w1.cell? ⟨g, i * 6 + 5, none⟩ = some (.int .i64 s.un) := by have := R1.un i hi; rw [unhide HSE] at this; exact this
 have fz := R1.froz
 have RR1 := hide R1
 clear m1 R1
 clear c0 c1 c2 c3 c4 c5
 go_wp2_with fail
 refine ((unhide HS) _ (unhide M1)).mono ?_
 rintro e w2 ⟨rfl, hr, hm⟩
 have H2 := hide (show SaleOk w w2 gf fo g cap p l l' from ⟨hr, ((unhide M1).mono (fun _ _ x => x.elim)).trans hm⟩)
 clear hr hm hb
 go_wp2
 go_ret
 exact ⟨rfl, unhide H2⟩
theorem seated_4 (wb gf fo g cap i : Nat) (p : Pla) (l : List Sea) (flight ar ac tr tc party cls time : Int) (pl : Pla) (w : World) (h : FlR w gf fo g cap p l) (s : Sea) (hi : i < l.length) (hse : l[i] = s)
  (HF : ∀ W, Mod No w W → Calls Tryz.prog 85 #[.pointer (some ⟨gf, fo, none⟩), .agg #[.int .i64 ar, .int .i64 ac]] W fun e w' => e = .returned (.int .i64 (i : Nat)) ∧ Mod No W w')  :
  Calls Tryz.prog 55 #[.pointer (some ⟨wb, 0, none⟩), .pointer (some ⟨gf, fo, none⟩), .agg #[.int .i64 4, .int .i64 flight, .int .i64 ar, .int .i64 ac, .int .i64 tr, .int .i64 tc, .int .i64 party, .int .i64 cls, .int .i64 time, .int .i64 pl.rows, .int .i64 pl.cols, .int .i64 pl.front, .int .i64 pl.l0, .int .i64 pl.l1, .int .i64 pl.l2, .int .i64 pl.l3]] w fun e w' => e = .returned (.int .i64 (ownerN s.st s.pa party)) ∧ SaleOk w w' gf fo g cap p l (soldL (ownerN s.st s.pa party) l i s.freed) := by
 have HT := hide fun W => taken_any s party W
 unfold seaV at HT
 generalize ownerN s.st s.pa party = er at *
 have HF := hide HF
 have SL := hide fun W (hW : Mod No w W) => cell_keep hW h.slice (fun x => x)
 have hi1 : (i : Int) < (l.length : Int) := by omega
 have hi0 : (0 : Int) ≤ i := by omega
 have hn0 : ¬ (i : Int) < 0 := by omega
 have H := hide h
 have HSE := hide hse
 have M0 := hide ((Mod.refl No w).alloc (.cells #[.int .i64 4, .int .i64 flight, .int .i64 ar, .int .i64 ac, .int .i64 tr, .int .i64 tc, .int .i64 party, .int .i64 cls, .int .i64 time, .int .i64 pl.rows, .int .i64 pl.cols, .int .i64 pl.front, .int .i64 pl.l0, .int .i64 pl.l1, .int .i64 pl.l2, .int .i64 pl.l3] 41))
 have B0 := hide (Has.new w #[.int .i64 4, .int .i64 flight, .int .i64 ar, .int .i64 ac, .int .i64 tr, .int .i64 tc, .int .i64 party, .int .i64 cls, .int .i64 time, .int .i64 pl.rows, .int .i64 pl.cols, .int .i64 pl.front, .int .i64 pl.l0, .int .i64 pl.l1, .int .i64 pl.l2, .int .i64 pl.l3] 41)
 clear h hse
 go_enter Tryz.func55, Tryz.ntmps55
 go_wp2_with fail
 refine ((unhide HF) _ (unhide M0)).mono ?_
 rintro e w1 ⟨rfl, m1⟩
 have M1 := hide ((unhide M0).trans m1)
 have sl1 := (unhide SL) _ (unhide M1)
 have hb := (m1.has (unhide B0) (fun x => x)).cell
 have lb := (m1.has (unhide B0) (fun x => x)).lt
 have BX := hide (m1.has (unhide B0) (fun x => x))
 have R1 := (unhide H).row.mod (unhide M1) (fun x => x)
 have c0 : w1.cell? ⟨g, i * 6, none⟩ = some (.int .i64 s.row) := by have := R1.row i hi; rw [unhide HSE] at this; exact this
 have c1 : w1.cell? ⟨g, i * 6 + 1, none⟩ = some (.int .i64 s.col) := by have := R1.col i hi; rw [unhide HSE] at this; exact this
 have c2 : w1.cell? ⟨g, i * 6 + 2, none⟩ = some (.int .i64 s.st) := by have := R1.st i hi; rw [unhide HSE] at this; exact this
 have c3 : w1.cell? ⟨g, i * 6 + 3, none⟩ = some (.int .i64 s.pa) := by have := R1.pa i hi; rw [unhide HSE] at this; exact this
 have c4 : w1.cell? ⟨g, i * 6 + 4, none⟩ = some (.int .i64 s.cl) := by have := R1.cl i hi; rw [unhide HSE] at this; exact this
 have c5 : w1.cell? ⟨g, i * 6 + 5, none⟩ = some (.int .i64 s.un) := by have := R1.un i hi; rw [unhide HSE] at this; exact this
 have fz := R1.froz
 have RR1 := hide R1
 clear m1 R1
 have HQ := hide fun (w2 : World) (hm : Mod No w w2) => (show SaleOk w ((((((w2.setCell ⟨g, i * 6, none⟩ (.int .i64 s.row)).setCell ⟨g, i * 6 + 1, none⟩ (.int .i64 s.col)).setCell ⟨g, i * 6 + 2, none⟩ (.int .i64 0)).setCell ⟨g, i * 6 + 3, none⟩ (.int .i64 0)).setCell ⟨g, i * 6 + 4, none⟩ (.int .i64 0)).setCell ⟨g, i * 6 + 5, none⟩ (.int .i64 0)) gf fo g cap p l (soldL 0 l i s.freed) from
  ⟨((unhide H).row.mod hm (fun x => x)).put6 i hi s.freed, (hm.mono (S' := fun k => k = g) (fun _ _ x => x.elim)).put6 (S := fun k => k = g) rfl i _ _ _ _ _ _⟩)
 go_upto_region 10 with fail
 go_cut [9] (fun s9 wx => s9 = .int .i64 er ∧ Hid (Mod No w wx))
 case first =>
  go_region_with (go_at_call 87; refine ((unhide HT) _).mono ?_; rintro e w4 ⟨rfl, hm4⟩)
  all_goals go_wp2
  all_goals go_meet
  all_goals exact ⟨rfl, (unhide M1).drew.trans (by assumption)⟩
 case rest =>
  obtain ⟨rfl, M4⟩ := hcut
  generalize wc = w4 at *
  clear c0 c1 c2 c3 c4 c5 fz hb lb BX RR1 sl1 HT
  by_cases hz : er = 0
  ·subst hz
   have R4 := (unhide H).row.mod (unhide M4) (fun x => x)
   have c0 : w4.cell? ⟨g, i * 6, none⟩ = some (.int .i64 s.row) := by have := R4.row i hi; rw [unhide HSE] at this; exact this
   have c1 : w4.cell? ⟨g, i * 6 + 1, none⟩ = some (.int .i64 s.col) := by have := R4.col i hi; rw [unhide HSE] at this; exact this
   have c2 := R4.st i hi
   have c3 := R4.pa i hi
   have c4 := R4.cl i hi
   have c5 := R4.un i hi
   have fz := R4.froz
   clear R4
   go_wp2
   go_ret
   exact ⟨rfl, (unhide HQ) _ (unhide M4)⟩
  ·have hd : (er == 0) = false := by simpa using hz
   have HZ := hide hz
   clear hz
   go_wp2
   go_ret
   rw [soldL_no (unhide HZ)]
   exact ⟨rfl, SaleOk.same (unhide H) (unhide M4)⟩
theorem seated_6 (wb gf fo g cap i : Nat) (p : Pla) (l : List Sea) (flight ar ac tr tc party cls time : Int) (pl : Pla) (w : World) (h : FlR w gf fo g cap p l) (s : Sea) (hi : i < l.length) (hse : l[i] = s)
  (HF : ∀ W, Mod No w W → Calls Tryz.prog 85 #[.pointer (some ⟨gf, fo, none⟩), .agg #[.int .i64 ar, .int .i64 ac]] W fun e w' => e = .returned (.int .i64 (i : Nat)) ∧ Mod No W w') (hbare : s.st = 0 → s.pa = 0 ∧ s.cl = 0 ∧ s.un = 0) :
  Calls Tryz.prog 55 #[.pointer (some ⟨wb, 0, none⟩), .pointer (some ⟨gf, fo, none⟩), .agg #[.int .i64 6, .int .i64 flight, .int .i64 ar, .int .i64 ac, .int .i64 tr, .int .i64 tc, .int .i64 party, .int .i64 cls, .int .i64 time, .int .i64 pl.rows, .int .i64 pl.cols, .int .i64 pl.front, .int .i64 pl.l0, .int .i64 pl.l1, .int .i64 pl.l2, .int .i64 pl.l3]] w fun e w' => e = .returned (.int .i64 (if s.st ≠ 0 then 9 else 0)) ∧ SaleOk w w' gf fo g cap p l (soldL (if s.st ≠ 0 then 9 else 0) l i ⟨s.row, s.col, 3, 0, 0, 0⟩) := by
 have HBR := hide hbare
 clear hbare
 generalize hEE : (if s.st ≠ 0 then (9 : Int) else 0) = ee
 have HEE := hide hEE
 clear hEE
 have HF := hide HF
 have SL := hide fun W (hW : Mod No w W) => cell_keep hW h.slice (fun x => x)
 have hi1 : (i : Int) < (l.length : Int) := by omega
 have hi0 : (0 : Int) ≤ i := by omega
 have hn0 : ¬ (i : Int) < 0 := by omega
 have H := hide h
 have HSE := hide hse
 have M0 := hide ((Mod.refl No w).alloc (.cells #[.int .i64 6, .int .i64 flight, .int .i64 ar, .int .i64 ac, .int .i64 tr, .int .i64 tc, .int .i64 party, .int .i64 cls, .int .i64 time, .int .i64 pl.rows, .int .i64 pl.cols, .int .i64 pl.front, .int .i64 pl.l0, .int .i64 pl.l1, .int .i64 pl.l2, .int .i64 pl.l3] 41))
 have B0 := hide (Has.new w #[.int .i64 6, .int .i64 flight, .int .i64 ar, .int .i64 ac, .int .i64 tr, .int .i64 tc, .int .i64 party, .int .i64 cls, .int .i64 time, .int .i64 pl.rows, .int .i64 pl.cols, .int .i64 pl.front, .int .i64 pl.l0, .int .i64 pl.l1, .int .i64 pl.l2, .int .i64 pl.l3] 41)
 clear h hse
 go_enter Tryz.func55, Tryz.ntmps55
 go_wp2_with fail
 refine ((unhide HF) _ (unhide M0)).mono ?_
 rintro e w1 ⟨rfl, m1⟩
 have M1 := hide ((unhide M0).trans m1)
 have sl1 := (unhide SL) _ (unhide M1)
 have hb := (m1.has (unhide B0) (fun x => x)).cell
 have lb := (m1.has (unhide B0) (fun x => x)).lt
 have BX := hide (m1.has (unhide B0) (fun x => x))
 have R1 := (unhide H).row.mod (unhide M1) (fun x => x)
 have c0 : w1.cell? ⟨g, i * 6, none⟩ = some (.int .i64 s.row) := by have := R1.row i hi; rw [unhide HSE] at this; exact this
 have c1 : w1.cell? ⟨g, i * 6 + 1, none⟩ = some (.int .i64 s.col) := by have := R1.col i hi; rw [unhide HSE] at this; exact this
 have c2 : w1.cell? ⟨g, i * 6 + 2, none⟩ = some (.int .i64 s.st) := by have := R1.st i hi; rw [unhide HSE] at this; exact this
 have c3 : w1.cell? ⟨g, i * 6 + 3, none⟩ = some (.int .i64 s.pa) := by have := R1.pa i hi; rw [unhide HSE] at this; exact this
 have c4 : w1.cell? ⟨g, i * 6 + 4, none⟩ = some (.int .i64 s.cl) := by have := R1.cl i hi; rw [unhide HSE] at this; exact this
 have c5 : w1.cell? ⟨g, i * 6 + 5, none⟩ = some (.int .i64 s.un) := by have := R1.un i hi; rw [unhide HSE] at this; exact this
 have fz := R1.froz
 have RR1 := hide R1
 clear m1 R1
 by_cases hs : s.st = 0
 ·have hd : (s.st != 0) = false := by simpa using hs
  have HE := hide (show ee = 0 from by rw [← unhide HEE, if_neg (by simpa using hs)])
  obtain ⟨b1, b2, b3⟩ := (unhide HBR) hs
  have HN := hide (show (⟨s.row, s.col, 3, s.pa, s.cl, s.un⟩ : Sea) = ⟨s.row, s.col, 3, 0, 0, 0⟩ from by rw [b1, b2, b3])
  have S0 := hide (SaleOk.same (unhide H) (unhide M1))
  clear c0 c1 c3 c4 c5 b1 b2 b3 HEE HBR hs
  go_wp2
  go_ret
  rw [unhide HE, soldL_yes, ← unhide HN]
  have S1 : SaleOk w w1 gf fo g cap p l (l.set i s) := by rw [← unhide HSE, List.set_getElem_self]; exact unhide S0
  exact ⟨rfl, S1.put hi 2 (by omega) (.int .i64 3) ⟨s.row, s.col, 3, s.pa, s.cl, s.un⟩ rfl⟩
 ·have hd : (s.st != 0) = true := by simpa using hs
  have HE := hide (show ee = 9 from by rw [← unhide HEE, if_pos (by simpa using hs)])
  clear c0 c1 c3 c4 c5 HEE HBR hs
  go_wp2
  go_ret
  rw [unhide HE, soldL_no (by omega)]
  exact ⟨rfl, SaleOk.same (unhide H) (unhide M1)⟩
theorem seated_7 (wb gf fo g cap i : Nat) (p : Pla) (l : List Sea) (flight ar ac tr tc party cls time : Int) (pl : Pla) (w : World) (h : FlR w gf fo g cap p l) (s : Sea) (hi : i < l.length) (hse : l[i] = s)
  (HF : ∀ W, Mod No w W → Calls Tryz.prog 85 #[.pointer (some ⟨gf, fo, none⟩), .agg #[.int .i64 ar, .int .i64 ac]] W fun e w' => e = .returned (.int .i64 (i : Nat)) ∧ Mod No W w') (hbare : s.st = 3 → s.pa = 0 ∧ s.cl = 0 ∧ s.un = 0) :
  Calls Tryz.prog 55 #[.pointer (some ⟨wb, 0, none⟩), .pointer (some ⟨gf, fo, none⟩), .agg #[.int .i64 7, .int .i64 flight, .int .i64 ar, .int .i64 ac, .int .i64 tr, .int .i64 tc, .int .i64 party, .int .i64 cls, .int .i64 time, .int .i64 pl.rows, .int .i64 pl.cols, .int .i64 pl.front, .int .i64 pl.l0, .int .i64 pl.l1, .int .i64 pl.l2, .int .i64 pl.l3]] w fun e w' => e = .returned (.int .i64 (if s.st ≠ 3 then 10 else 0)) ∧ SaleOk w w' gf fo g cap p l (soldL (if s.st ≠ 3 then 10 else 0) l i ⟨s.row, s.col, 0, 0, 0, 0⟩) := by
 have HBR := hide hbare
 clear hbare
 generalize hEE : (if s.st ≠ 3 then (10 : Int) else 0) = ee
 have HEE := hide hEE
 clear hEE
 have HF := hide HF
 have SL := hide fun W (hW : Mod No w W) => cell_keep hW h.slice (fun x => x)
 have hi1 : (i : Int) < (l.length : Int) := by omega
 have hi0 : (0 : Int) ≤ i := by omega
 have hn0 : ¬ (i : Int) < 0 := by omega
 have H := hide h
 have HSE := hide hse
 have M0 := hide ((Mod.refl No w).alloc (.cells #[.int .i64 7, .int .i64 flight, .int .i64 ar, .int .i64 ac, .int .i64 tr, .int .i64 tc, .int .i64 party, .int .i64 cls, .int .i64 time, .int .i64 pl.rows, .int .i64 pl.cols, .int .i64 pl.front, .int .i64 pl.l0, .int .i64 pl.l1, .int .i64 pl.l2, .int .i64 pl.l3] 41))
 have B0 := hide (Has.new w #[.int .i64 7, .int .i64 flight, .int .i64 ar, .int .i64 ac, .int .i64 tr, .int .i64 tc, .int .i64 party, .int .i64 cls, .int .i64 time, .int .i64 pl.rows, .int .i64 pl.cols, .int .i64 pl.front, .int .i64 pl.l0, .int .i64 pl.l1, .int .i64 pl.l2, .int .i64 pl.l3] 41)
 clear h hse
 go_enter Tryz.func55, Tryz.ntmps55
 go_wp2_with fail
 refine ((unhide HF) _ (unhide M0)).mono ?_
 rintro e w1 ⟨rfl, m1⟩
 have M1 := hide ((unhide M0).trans m1)
 have sl1 := (unhide SL) _ (unhide M1)
 have hb := (m1.has (unhide B0) (fun x => x)).cell
 have lb := (m1.has (unhide B0) (fun x => x)).lt
 have BX := hide (m1.has (unhide B0) (fun x => x))
 have R1 := (unhide H).row.mod (unhide M1) (fun x => x)
 have c0 : w1.cell? ⟨g, i * 6, none⟩ = some (.int .i64 s.row) := by have := R1.row i hi; rw [unhide HSE] at this; exact this
 have c1 : w1.cell? ⟨g, i * 6 + 1, none⟩ = some (.int .i64 s.col) := by have := R1.col i hi; rw [unhide HSE] at this; exact this
 have c2 : w1.cell? ⟨g, i * 6 + 2, none⟩ = some (.int .i64 s.st) := by have := R1.st i hi; rw [unhide HSE] at this; exact this
 have c3 : w1.cell? ⟨g, i * 6 + 3, none⟩ = some (.int .i64 s.pa) := by have := R1.pa i hi; rw [unhide HSE] at this; exact this
 have c4 : w1.cell? ⟨g, i * 6 + 4, none⟩ = some (.int .i64 s.cl) := by have := R1.cl i hi; rw [unhide HSE] at this; exact this
 have c5 : w1.cell? ⟨g, i * 6 + 5, none⟩ = some (.int .i64 s.un) := by have := R1.un i hi; rw [unhide HSE] at this; exact this
 have fz := R1.froz
 have RR1 := hide R1
 clear m1 R1
 by_cases hs : s.st = 3
 ·have hd : (s.st != 3) = false := by simpa using hs
  have HE := hide (show ee = 0 from by rw [← unhide HEE, if_neg (by simpa using hs)])
  obtain ⟨b1, b2, b3⟩ := (unhide HBR) hs
  have HN := hide (show (⟨s.row, s.col, 0, s.pa, s.cl, s.un⟩ : Sea) = ⟨s.row, s.col, 0, 0, 0, 0⟩ from by rw [b1, b2, b3])
  have S0 := hide (SaleOk.same (unhide H) (unhide M1))
  clear c0 c1 c3 c4 c5 b1 b2 b3 HEE HBR hs
  go_wp2
  go_ret
  rw [unhide HE, soldL_yes, ← unhide HN]
  have S1 : SaleOk w w1 gf fo g cap p l (l.set i s) := by rw [← unhide HSE, List.set_getElem_self]; exact unhide S0
  exact ⟨rfl, S1.put hi 2 (by omega) (.int .i64 0) ⟨s.row, s.col, 0, s.pa, s.cl, s.un⟩ rfl⟩
 ·have hd : (s.st != 3) = true := by simpa using hs
  have HE := hide (show ee = 10 from by rw [← unhide HEE, if_pos (by simpa using hs)])
  clear c0 c1 c3 c4 c5 HEE HBR hs
  go_wp2
  go_ret
  rw [unhide HE, soldL_no (by omega)]
  exact ⟨rfl, SaleOk.same (unhide H) (unhide M1)⟩
theorem seated_5 (wb gf fo g cap i : Nat) (p : Pla) (l : List Sea) (flight ar ac tr tc party cls time : Int) (pl : Pla) (w : World) (h : FlR w gf fo g cap p l) (s : Sea) (hi : i < l.length) (hse : l[i] = s)
  (HF : ∀ W, Mod No w W → Calls Tryz.prog 85 #[.pointer (some ⟨gf, fo, none⟩), .agg #[.int .i64 ar, .int .i64 ac]] W fun e w' => e = .returned (.int .i64 (i : Nat)) ∧ Mod No W w') (jv er : Int) (l' : List Sea)
  (HT : ∀ W, Mod No w W → Calls Tryz.prog 85 #[.pointer (some ⟨gf, fo, none⟩), .agg #[.int .i64 tr, .int .i64 tc]] W fun e w' => e = .returned (.int .i64 jv) ∧ Mod No W w')
  (HM : ∀ W, Mod No w W → Calls Tryz.prog 88 #[.pointer (some ⟨gf, fo, none⟩), .int .i64 i, .int .i64 jv, .int .i64 party] W fun e w' => e = .returned (.int .i64 er) ∧ SaleOk W w' gf fo g cap p l l') :
  Calls Tryz.prog 55 #[.pointer (some ⟨wb, 0, none⟩), .pointer (some ⟨gf, fo, none⟩), .agg #[.int .i64 5, .int .i64 flight, .int .i64 ar, .int .i64 ac, .int .i64 tr, .int .i64 tc, .int .i64 party, .int .i64 cls, .int .i64 time, .int .i64 pl.rows, .int .i64 pl.cols, .int .i64 pl.front, .int .i64 pl.l0, .int .i64 pl.l1, .int .i64 pl.l2, .int .i64 pl.l3]] w fun e w' => e = .returned (.int .i64 er) ∧ SaleOk w w' gf fo g cap p l l' := by
 have HT := hide HT
 have HM := hide HM
 have HF := hide HF
 have SL := hide fun W (hW : Mod No w W) => cell_keep hW h.slice (fun x => x)
 have hi1 : (i : Int) < (l.length : Int) := by omega
 have hi0 : (0 : Int) ≤ i := by omega
 have hn0 : ¬ (i : Int) < 0 := by omega
 have H := hide h
 have HSE := hide hse
 have M0 := hide ((Mod.refl No w).alloc (.cells #[.int .i64 5, .int .i64 flight, .int .i64 ar, .int .i64 ac, .int .i64 tr, .int .i64 tc, .int .i64 party, .int .i64 cls, .int .i64 time, .int .i64 pl.rows, .int .i64 pl.cols, .int .i64 pl.front, .int .i64 pl.l0, .int .i64 pl.l1, .int .i64 pl.l2, .int .i64 pl.l3] 41))
 have B0 := hide (Has.new w #[.int .i64 5, .int .i64 flight, .int .i64 ar, .int .i64 ac, .int .i64 tr, .int .i64 tc, .int .i64 party, .int .i64 cls, .int .i64 time, .int .i64 pl.rows, .int .i64 pl.cols, .int .i64 pl.front, .int .i64 pl.l0, .int .i64 pl.l1, .int .i64 pl.l2, .int .i64 pl.l3] 41)
 clear h hse
 go_enter Tryz.func55, Tryz.ntmps55
 go_wp2_with fail
 refine ((unhide HF) _ (unhide M0)).mono ?_
 rintro e w1 ⟨rfl, m1⟩
 have M1 := hide ((unhide M0).trans m1)
 have sl1 := (unhide SL) _ (unhide M1)
 have hb := (m1.has (unhide B0) (fun x => x)).cell
 have lb := (m1.has (unhide B0) (fun x => x)).lt
 have BX := hide (m1.has (unhide B0) (fun x => x))
 have R1 := (unhide H).row.mod (unhide M1) (fun x => x)
 have c0 : w1.cell? ⟨g, i * 6, none⟩ = some (.int .i64 s.row) := by have := R1.row i hi; rw [unhide HSE] at this; exact this
 have c1 : w1.cell? ⟨g, i * 6 + 1, none⟩ = some (.int .i64 s.col) := by have := R1.col i hi; rw [unhide HSE] at this; exact this
 have c2 : w1.cell? ⟨g, i * 6 + 2, none⟩ = some (.int .i64 s.st) := by have := R1.st i hi; rw [unhide HSE] at this; exact this
 have c3 : w1.cell? ⟨g, i * 6 + 3, none⟩ = some (.int .i64 s.pa) := by have := R1.pa i hi; rw [unhide HSE] at this; exact this
 have c4 : w1.cell? ⟨g, i * 6 + 4, none⟩ = some (.int .i64 s.cl) := by have := R1.cl i hi; rw [unhide HSE] at this; exact this
 have c5 : w1.cell? ⟨g, i * 6 + 5, none⟩ = some (.int .i64 s.un) := by have := R1.un i hi; rw [unhide HSE] at this; exact this
 have fz := R1.froz
 have RR1 := hide R1
 clear m1 R1
 clear c0 c1 c2 c3 c4 c5 fz RR1
 go_upto_region 15 with fail
 go_cut [6] (fun s6 wx => s6 = .int .i64 er ∧ Hid (SaleOk w wx gf fo g cap p l l'))
 case first =>
  have bn := fun W (hm : Mod No w1 W) => (hm.has (unhide BX) (fun x => x)).cell
  have BN := hide bn
  clear bn
  go_region_with (first
   |(go_at_call 85; refine ((unhide HT) _ (unhide M1).drew).mono ?_; rintro e w4 ⟨rfl, hm4⟩; have hb4 := (unhide BN) _ ((Mod.refl No w1).drew.trans hm4))
   |(go_at_call 88; refine ((unhide HM) _ ((unhide M1).drew.trans (by assumption))).mono ?_; rintro e w5 ⟨rfl, hr5, hm5⟩))
  all_goals go_wp2
  all_goals go_meet
  all_goals exact ⟨rfl, (by assumption), (((unhide M1).drew.trans (by assumption)).mono (fun _ _ x => x.elim)).trans (by assumption)⟩
 case rest =>
  obtain ⟨rfl, H6⟩ := hcut
  generalize wc = w6 at *
  clear hb lb BX sl1 M1
  go_wp2
  go_ret
  exact ⟨rfl, unhide H6⟩
set_option maxHeartbeats 4000000
def seatL (p : Pla) (l : List Sea) (c : Cmd) (now : Int) : List Sea := if seatErr p l c now = 0 then seatNew p l c else l
theorem seated_any {wb gf fo g cap : Nat} {p : Pla} {l : List Sea} {w : World} (h : FlR w gf fo g cap p l) (hwf : Wf p l) (c : Cmd) (hk : 2 ≤ c.kind ∧ c.kind ≤ 7) (ht : -9223372036854775808 ≤ c.time ∧ c.time ≤ 9223372036854775807)
  (now : Int) (hn : 0 ≤ now ∧ now ≤ 4611686018427387000) (hnow : w.cell? ⟨wb, 1, none⟩ = some (.int .i64 now)) :
  Calls Tryz.prog 55 #[.pointer (some ⟨wb, 0, none⟩), .pointer (some ⟨gf, fo, none⟩), .agg (cmdCells c)] w fun e w' =>
   e = .returned (.int .i64 (seatErr p l c now)) ∧ SaleOk w w' gf fo g cap p l (seatL p l c now) := by
 by_cases hat : p.has c.ar c.ac = true
 case neg =>
  have hat : p.has c.ar c.ac = false := by simpa using hat
  have he : seatErr p l c now = 5 := by unfold seatErr; rw [if_neg (by omega), if_pos (.inl hat)]
  have hl : seatL p l c now = l := by unfold seatL; rw [he, if_neg (by omega)]
  rw [he, hl]
  refine (seated_no wb gf fo c w (fun W hW => rseat_no (h.mod hW) hwf _ _ hat)).mono ?_
  rintro e w' ⟨rfl, hm⟩
  exact ⟨rfl, SaleOk.same h hm⟩
 obtain ⟨hi, hse, her, hec⟩ := seatAt_eq hwf hat
 have hF : ∀ W, Mod No w W → Calls Tryz.prog 85 #[.pointer (some ⟨gf, fo, none⟩), .agg #[.int .i64 c.ar, .int .i64 c.ac]] W fun e w' => e = .returned (.int .i64 (p.idx c.ar c.ac : Nat)) ∧ Mod No W w' := fun W hW => rseat_has (h.mod hW) hwf _ _ hat
 have hsw : (seatAt p l c.ar c.ac).wf := by rw [hse]; exact hwf.seat _ (List.getElem_mem hi)
 have hrow : (seatAt p l c.ar c.ac).row = c.ar := by rw [hse]; exact her
 have hcol : (seatAt p l c.ar c.ac).col = c.ac := by rw [hse]; exact hec
 have hlim : p.limited = true := hwf.limited
 obtain ⟨kind, flight, ar, ac, tr, tc, party, cls, time, pl⟩ := c
 simp only at hk ht hat hi hse her hec hF hsw hrow hcol
 have hnot : ∀ kk : Int, (kk = 5 → p.has tr tc = true) → ¬ (p.has ar ac = false ∨ (kk = 5 ∧ p.has tr tc = false)) := fun kk h5 h => by
  rcases h with h | ⟨h, h'⟩
  ·rw [hat] at h; cases h
  ·rw [h5 h] at h'; cases h'
 generalize hs : seatAt p l ar ac = s at *
 have hse' : l[p.idx ar ac] = s := hse.symm
 have hkk : kind = 2 ∨ kind = 3 ∨ kind = 4 ∨ kind = 5 ∨ kind = 6 ∨ kind = 7 := by omega
 have hnowW : ∀ W, Mod No w W → W.cell? ⟨wb, 1, none⟩ = some (.int .i64 now) := fun W hW => cell_keep hW hnow (fun x => x)
 rcases hkk with rfl | rfl | rfl | rfl | rfl | rfl
 ·
  have he : seatErr p l ⟨2, flight, ar, ac, tr, tc, party, cls, time, pl⟩ now = if buyer ⟨2, flight, ar, ac, tr, tc, party, cls, time, pl⟩ ≠ 0 then buyer ⟨2, flight, ar, ac, tr, tc, party, cls, time, pl⟩ else holdE now time s.st (M.leftOf p l cls.toNat) := by
   unfold seatErr holdE
   simp only
   rw [if_neg (by omega), if_neg (hnot 2 (fun h => absurd h (by decide))), if_pos trivial, hs]
  by_cases hb : buyer ⟨2, flight, ar, ac, tr, tc, party, cls, time, pl⟩ = 0
  ·rw [if_neg (by simpa using hb)] at he
   obtain ⟨k0, k1, k2, k3⟩ := buyer_ok hb
   simp only at k0 k1 k2 k3
   obtain ⟨k, rfl⟩ : ∃ k : Nat, cls = (k : Int) := ⟨cls.toNat, by omega⟩
   have hl : seatL p l ⟨2, flight, ar, ac, tr, tc, party, k, time, pl⟩ now = soldL (holdE now time s.st (M.leftOf p l k)) l (p.idx ar ac) ⟨s.row, s.col, 1, party, k, time⟩ := by
    unfold seatL soldL seatNew
    rw [he, hrow, hcol]
    simp
   rw [he, hl]
   exact seated_2 wb gf fo g cap _ p l flight ar ac tr tc party k time pl w h s hi hse' hF _ _ (fun W hW => sale_hold wb gf fo g cap _ p l flight ar ac tr tc party time now k pl W (h.mod hW) s ⟨hi, hse'⟩ hlim (by omega) ⟨k2, k3⟩ ht hn (hnowW W hW))
  ·rw [if_pos hb] at he
   have hl : seatL p l ⟨2, flight, ar, ac, tr, tc, party, cls, time, pl⟩ now = l := by unfold seatL; rw [he, if_neg hb]
   rw [hl, he]
   exact seated_2 wb gf fo g cap _ p l flight ar ac tr tc party cls time pl w h s hi hse' hF _ _ (fun W hW => sale_early wb gf fo g cap _ p l ⟨2, flight, ar, ac, tr, tc, party, cls, time, pl⟩ W (h.mod hW) hb)
 ·
  have he : seatErr p l ⟨3, flight, ar, ac, tr, tc, party, cls, time, pl⟩ now = if buyer ⟨3, flight, ar, ac, tr, tc, party, cls, time, pl⟩ ≠ 0 then buyer ⟨3, flight, ar, ac, tr, tc, party, cls, time, pl⟩ else bookE party cls (M.leftOf p l cls.toNat) s := by
   unfold seatErr bookE
   simp only
   rw [if_neg (by omega), if_neg (hnot 3 (fun h => absurd h (by decide))), if_neg (by decide), if_pos trivial, hs]
  by_cases hb : buyer ⟨3, flight, ar, ac, tr, tc, party, cls, time, pl⟩ = 0
  ·rw [if_neg (by simpa using hb)] at he
   obtain ⟨k0, k1, k2, k3⟩ := buyer_ok hb
   simp only at k0 k1 k2 k3
   obtain ⟨k, rfl⟩ : ∃ k : Nat, cls = (k : Int) := ⟨cls.toNat, by omega⟩
   have hl : seatL p l ⟨3, flight, ar, ac, tr, tc, party, k, time, pl⟩ now = soldL (bookE party k (M.leftOf p l k) s) l (p.idx ar ac) ⟨s.row, s.col, 2, party, k, 0⟩ := by
    unfold seatL soldL seatNew
    rw [he, hrow, hcol]
    simp
   rw [he, hl]
   exact seated_3 wb gf fo g cap _ p l flight ar ac tr tc party k time pl w h s hi hse' hF _ _ (fun W hW => sale_book wb gf fo g cap _ p l flight ar ac tr tc party time now k pl W (h.mod hW) s ⟨hi, hse'⟩ hlim (by omega) ⟨k2, k3⟩ ht hn (hnowW W hW) (fun h0 => (hsw.bare (.inl h0)).2.2))
  ·rw [if_pos hb] at he
   have hl : seatL p l ⟨3, flight, ar, ac, tr, tc, party, cls, time, pl⟩ now = l := by unfold seatL; rw [he, if_neg hb]
   rw [hl, he]
   exact seated_3 wb gf fo g cap _ p l flight ar ac tr tc party cls time pl w h s hi hse' hF _ _ (fun W hW => sale_early wb gf fo g cap _ p l ⟨3, flight, ar, ac, tr, tc, party, cls, time, pl⟩ W (h.mod hW) hb)
 ·
  have he : seatErr p l ⟨4, flight, ar, ac, tr, tc, party, cls, time, pl⟩ now = ownerN s.st s.pa party := by
   unfold seatErr
   simp only
   rw [if_neg (by omega), if_neg (hnot 4 (fun h => absurd h (by decide))), if_neg (by decide), if_neg (by decide), if_pos trivial, hs]
  have hl : seatL p l ⟨4, flight, ar, ac, tr, tc, party, cls, time, pl⟩ now = soldL (ownerN s.st s.pa party) l (p.idx ar ac) s.freed := by
   unfold seatL soldL seatNew
   rw [he]
   simp [hs]
  rw [he, hl]
  exact seated_4 wb gf fo g cap _ p l flight ar ac tr tc party cls time pl w h s hi hse' hF
 ·
  by_cases hto : p.has tr tc = true
  case neg =>
   have hto : p.has tr tc = false := by simpa using hto
   have he : seatErr p l ⟨5, flight, ar, ac, tr, tc, party, cls, time, pl⟩ now = 5 := by unfold seatErr; simp only; rw [if_neg (by omega), if_pos (.inr ⟨trivial, hto⟩)]
   have hl : seatL p l ⟨5, flight, ar, ac, tr, tc, party, cls, time, pl⟩ now = l := by unfold seatL; rw [he, if_neg (by omega)]
   rw [he, hl]
   exact seated_5 wb gf fo g cap _ p l flight ar ac tr tc party cls time pl w h s hi hse' hF (-1) 5 l (fun W hW => rseat_no (h.mod hW) hwf _ _ hto) (fun W hW => move_none gf fo g cap _ p l party W (h.mod hW))
  obtain ⟨hj, hte, htr, htc⟩ := seatAt_eq hwf hto
  have he : seatErr p l ⟨5, flight, ar, ac, tr, tc, party, cls, time, pl⟩ now = if ownerN s.st s.pa party ≠ 0 then ownerN s.st s.pa party else if (seatAt p l tr tc).st ≠ 0 then 9 else 0 := by
   unfold seatErr
   simp only
   rw [if_neg (by omega), if_neg (show ¬ (p.has ar ac = false ∨ True ∧ p.has tr tc = false) from by rw [hat, hto]; simp), if_neg (by decide), if_neg (by decide), if_neg (by decide), if_pos trivial, hs]
  have htrow : (seatAt p l tr tc).row = tr := by rw [hte]; exact htr
  have htcol : (seatAt p l tr tc).col = tc := by rw [hte]; exact htc
  generalize ht2 : seatAt p l tr tc = t at *
  have hte' : l[p.idx tr tc] = t := hte.symm
  have hT : ∀ W, Mod No w W → Calls Tryz.prog 85 #[.pointer (some ⟨gf, fo, none⟩), .agg #[.int .i64 tr, .int .i64 tc]] W fun e w' => e = .returned (.int .i64 (p.idx tr tc : Nat)) ∧ Mod No W w' := fun W hW => rseat_has (h.mod hW) hwf _ _ hto
  by_cases ho : ownerN s.st s.pa party = 0
  case neg =>
   rw [if_pos ho] at he
   have hl : seatL p l ⟨5, flight, ar, ac, tr, tc, party, cls, time, pl⟩ now = l := by unfold seatL; rw [he, if_neg ho]
   rw [he, hl]
   exact seated_5 wb gf fo g cap _ p l flight ar ac tr tc party cls time pl w h s hi hse' hF _ _ l hT (fun W hW => move_not gf fo g cap _ _ p l party W (h.mod hW) s t hi hse' hj hte' _ ho (.inl rfl))
  rw [if_neg (by simpa using ho)] at he
  by_cases htz : t.st = 0
  case neg =>
   rw [if_pos htz] at he
   have hl : seatL p l ⟨5, flight, ar, ac, tr, tc, party, cls, time, pl⟩ now = l := by unfold seatL; rw [he, if_neg (by omega)]
   rw [he, hl]
   exact seated_5 wb gf fo g cap _ p l flight ar ac tr tc party cls time pl w h s hi hse' hF _ 9 l hT (fun W hW => move_not gf fo g cap _ _ p l party W (h.mod hW) s t hi hse' hj hte' _ (by omega) (.inr ⟨ho, htz, rfl⟩))
  rw [if_neg (by simpa using htz)] at he
  have hij : p.idx ar ac ≠ p.idx tr tc := by
   intro e
   have : s.st = t.st := by
    rw [← hse', ← hte']
    congr 1
    exact getElem_congr_idx e
   unfold ownerN at ho
   split at ho
   ·omega
   ·rename_i hh
    have hh2 : s.st = 1 ∨ s.st = 2 := by
     by_cases q : s.st = 1 ∨ s.st = 2
     ·exact q
     ·exact absurd q (by simpa using hh)
    omega
  have hl : seatL p l ⟨5, flight, ar, ac, tr, tc, party, cls, time, pl⟩ now = (l.set (p.idx tr tc) ⟨t.row, t.col, s.st, s.pa, s.cl, s.un⟩).set (p.idx ar ac) s.freed := by
   unfold seatL seatNew
   rw [he, if_pos rfl, htrow, htcol]
   simp only [hs]
   rw [if_neg (by decide), if_neg (by decide), if_pos trivial]
   exact List.set_comm _ _ hij
  rw [he, hl]
  exact seated_5 wb gf fo g cap _ p l flight ar ac tr tc party cls time pl w h s hi hse' hF _ 0 _ hT (fun W hW => move_yes gf fo g cap _ _ p l party W (h.mod hW) s t hi hse' hj hte' hij ho htz)
 ·
  have he : seatErr p l ⟨6, flight, ar, ac, tr, tc, party, cls, time, pl⟩ now = if s.st ≠ 0 then 9 else 0 := by
   unfold seatErr
   simp only
   rw [if_neg (by omega), if_neg (hnot 6 (fun h => absurd h (by decide))), if_neg (by decide), if_neg (by decide), if_neg (by decide), if_neg (by decide), if_pos trivial, hs]
  have hl : seatL p l ⟨6, flight, ar, ac, tr, tc, party, cls, time, pl⟩ now = soldL (if s.st ≠ 0 then 9 else 0) l (p.idx ar ac) ⟨s.row, s.col, 3, 0, 0, 0⟩ := by
   unfold seatL soldL seatNew
   rw [he, hrow, hcol]
   simp
  rw [he, hl]
  exact seated_6 wb gf fo g cap _ p l flight ar ac tr tc party cls time pl w h s hi hse' hF (fun h0 => hsw.bare (.inl h0))
 ·
  have he : seatErr p l ⟨7, flight, ar, ac, tr, tc, party, cls, time, pl⟩ now = if s.st ≠ 3 then 10 else 0 := by
   unfold seatErr
   simp only
   rw [if_neg (by omega), if_neg (hnot 7 (fun h => absurd h (by decide))), if_neg (by decide), if_neg (by decide), if_neg (by decide), if_neg (by decide), if_neg (by decide), hs]
  have hl : seatL p l ⟨7, flight, ar, ac, tr, tc, party, cls, time, pl⟩ now = soldL (if s.st ≠ 3 then 10 else 0) l (p.idx ar ac) ⟨s.row, s.col, 0, 0, 0, 0⟩ := by
   unfold seatL soldL seatNew
   rw [he]
   simp [hs, Sea.freed, hrow, hcol]
  rw [he, hl]
  exact seated_7 wb gf fo g cap _ p l flight ar ac tr tc party cls time pl w h s hi hse' hF (fun h0 => hsw.bare (.inr h0))
end Go.Proofs.YthhibagcpjeihaaGreat
