import Derived.Test.YthhibagcpjeihaaGreatHReckonToPut2
import Derived.Deep.DeepCutAuto
import Derived.Maps.RangeRun
import Derived.Test.YthhibagcpjeihaaGreatHBaseToMaps
import Derived.ChangeKeysEq
import Derived.DeepKeys
namespace Go.Proofs.YthhibagcpjeihaaGreat
open Go.RowKit
open Go.ChangeMaps (setBlock)
open M
set_option linter.unusedVariables false
set_option linter.unusedSimpArgs false
set_option maxRecDepth 100000
theorem FlH.cell24 {w : World} {S : Nat → Prop} {b : Nat} {p : Pla} {l : List Sea} (h : FlH w S b p l) : w.cell? ⟨b, 24, none⟩ = some (.int .i64 p.ep) ∧ w.frozen? ⟨b, 24, none⟩ = false ∧ b < w.heap.size := by
 obtain ⟨m, es, clock, h1, h2, h3, h4, h5, h6⟩ := h
 refine ⟨?_, h1.frozen 24, h1.lt⟩
 rw [h1.cell 24]
 rfl
theorem MapRel.next {es : List MEnt} {p : Pla} {l : List Sea} (h : MapRel es p l) : MapRel es p.next l := ⟨h.ent, h.seat, h.size⟩
theorem Wf.next {p : Pla} {l : List Sea} (h : Wf p l) : Wf p.next l := ⟨h.sized, h.limited, h.len, h.place, h.seat⟩
theorem FlX.bump {w : World} {b m clock : Nat} {p : Pla} {l : List Sea} {es : List MEnt} (h : FlX w b p l m es clock) : FlX (w.setCell ⟨b, 24, none⟩ (.int .i64 (nx p.ep))) b p.next l m es clock :=
 ⟨h.has.set 24 _, by rw [Below.heap_setCell _ _ _ _ (by exact h.has.map_ne h.map)]; exact h.map, h.ok, h.rel.next⟩
theorem FlH.bump {w : World} {S : Nat → Prop} {b : Nat} {p : Pla} {l : List Sea} (h : FlH w S b p l) : FlH (w.setCell ⟨b, 24, none⟩ (.int .i64 (nx p.ep))) S b p.next l ∧ Mod S w (w.setCell ⟨b, 24, none⟩ (.int .i64 (nx p.ep))) := by
 obtain ⟨m, es, clock, h1, h2, h3, h4, h5, h6⟩ := h
 have := FlX.bump ⟨h1, h2, h3, h4⟩
 exact ⟨⟨m, es, clock, this.has, this.map, this.ok, this.rel, h5, h6⟩, (Mod.refl _ w).setCell (p := ⟨b, 24, none⟩) (.inl h5) _⟩
theorem fill_any {S : Nat → Prop} {b : Nat} {p : Pla} {l : List Sea} {w : World} (h : FlH w S b p l) (hwf : Wf p l) (i : Nat) (hi : i < l.length) (s : Sea) (hs : s.wf) (hr : s.row = l[i].row) (hc : s.col = l[i].col) :
  Calls Tryz.prog 161 #[.agg #[.int .i64 s.row, .int .i64 s.col, .int .i64 s.st, .int .i64 s.pa, .int .i64 s.cl, .int .i64 s.un], .pointer (some ⟨b, 0, none⟩)] w fun e w' =>
   e = .returned (.tuple #[]) ∧ FlH w' S b p.next (l.set i s) ∧ Mod S w w' := by
 have HP := hide fun W (hW : FlH W S b p l) => put_any hW hwf i hi s hs hr hc
 have H := hide h
 clear h hr hc hs hwf
 go_enter Tryz.func161, Tryz.ntmps161
 go_wp2_with fail
 refine ((unhide HP) _ ((unhide H).mod0 ((Mod.refl _ _).alloc _))).mono ?_
 rintro e w1 ⟨rfl, h1, m1⟩
 obtain ⟨c24, z24, l24⟩ := h1.cell24
 have wE := nx_eq p.ep
 have HB := hide h1.bump
 have M1 := hide (((Mod.refl S w).alloc (.cells #[.int .i64 s.row, .int .i64 s.col, .int .i64 s.st, .int .i64 s.pa, .int .i64 s.cl, .int .i64 s.un] 202)).trans m1)
 clear h1 m1 H HP
 go_wp2
 go_end0
 exact ⟨rfl, (unhide HB).1, (unhide M1).trans (unhide HB).2⟩
theorem empty_any {S : Nat → Prop} {b : Nat} {p : Pla} {l : List Sea} {w : World} (h : FlH w S b p l) (hwf : Wf p l) (i : Nat) (hi : i < l.length) :
  Calls Tryz.prog 165 #[.agg #[.int .i64 l[i].row, .int .i64 l[i].col], .pointer (some ⟨b, 0, none⟩)] w fun e w' =>
   e = .returned (.tuple #[]) ∧ FlH w' S b p.next (l.set i l[i].freed) ∧ Mod S w w' := by
 have hfr : (l[i].freed).wf := ⟨by simp [Sea.freed], by simp [Sea.freed], by simp [Sea.freed], by simp [Sea.freed], by simp [Sea.freed], by simp [Sea.freed], by simp [Sea.freed], by simp [Sea.freed]⟩
 have HP := hide fun W (hW : FlH W S b p l) => put_any hW hwf i hi l[i].freed hfr rfl rfl
 have H := hide h
 clear h
 generalize hx : l[i] = x at *
 have HX := hide hx
 clear hx
 obtain ⟨r, c, st, pa, cl, un⟩ := x
 simp only [Sea.freed] at HP ⊢
 go_enter Tryz.func165, Tryz.ntmps165
 go_wp2_with fail
 refine ((unhide HP) _ ((unhide H).mod0 ((Mod.refl _ _).alloc _))).mono ?_
 rintro e w1 ⟨rfl, h1, m1⟩
 obtain ⟨c24, z24, l24⟩ := h1.cell24
 have wE := nx_eq p.ep
 have HB := hide h1.bump
 have M1 := hide (((Mod.refl S w).alloc (.cells #[.int .i64 r, .int .i64 c] 214)).trans m1)
 clear h1 m1 H HP
 go_wp2
 go_end0
 exact ⟨rfl, (unhide HB).1, (unhide M1).trans (unhide HB).2⟩
def Old (S : Nat → Prop) (w : World) : Nat → Prop := fun k => S k ∧ k < w.heap.size
theorem FlH.narrow {w : World} {S : Nat → Prop} {b : Nat} {p : Pla} {l : List Sea} (h : FlH w S b p l) : FlH w (Old S w) b p l := by
 obtain ⟨m, es, clock, h1, h2, h3, h4, h5, h6⟩ := h
 exact ⟨m, es, clock, h1, h2, h3, h4, ⟨h5, h1.lt⟩, ⟨h6, (Array.getElem?_eq_some_iff.1 h2).1⟩⟩
theorem FlH.wide {w : World} {S S' : Nat → Prop} {b : Nat} {p : Pla} {l : List Sea} (h : FlH w S b p l) (hs : ∀ k, S k → S' k) : FlH w S' b p l := by
 obtain ⟨m, es, clock, h1, h2, h3, h4, h5, h6⟩ := h
 exact ⟨m, es, clock, h1, h2, h3, h4, hs _ h5, hs _ h6⟩
theorem shift_walk (S : Nat → Prop) (b m : Nat) (cs : Array Value) (r c r' c' st pa cl un : Int) (w : World) (es : List MEnt) (clock : Nat) (P1 P2 : World → Prop)
  (hS : ∀ k, S k → k < w.heap.size) (h : Has w b cs 164) (h7 : cs[7]? = some (.map (some m))) (hm : w.heap[m]? = some (mapObj es clock))
  (hL : ∀ W : World, W.heap[m]? = some (mapObj es clock) → (Instr.lookup 162 (.map (some m)) (.agg #[.int .i64 r, .int .i64 c]) false).run Tryz.prog W = .ok (.agg #[.int .i64 st, .int .i64 pa, .int .i64 cl, .int .i64 un]) W)
  (hP1 : ∀ W, Mod No w W → Calls Tryz.prog 118 #[.pointer (some ⟨b, 0, none⟩), .agg #[.int .i64 r, .int .i64 c], .agg #[.int .i64 0, .int .i64 0, .int .i64 0, .int .i64 0]] W fun e w' => e = .returned (.tuple #[]) ∧ P1 w' ∧ Mod S W w')
  (hP2 : ∀ W, P1 W → Calls Tryz.prog 118 #[.pointer (some ⟨b, 0, none⟩), .agg #[.int .i64 r', .int .i64 c'], .agg #[.int .i64 st, .int .i64 pa, .int .i64 cl, .int .i64 un]] W fun e w' => e = .returned (.tuple #[]) ∧ P2 w' ∧ Mod S W w')
  (ep : Int) (P3 : World → Prop) (hP3 : ∀ W, P2 W → (W.cell? ⟨b, 24, none⟩ = some (.int .i64 ep) ∧ W.frozen? ⟨b, 24, none⟩ = false ∧ b < W.heap.size) ∧ P3 (W.setCell ⟨b, 24, none⟩ (.int .i64 (nx ep))) ∧ Mod S W (W.setCell ⟨b, 24, none⟩ (.int .i64 (nx ep)))) :
  Calls Tryz.prog 166 #[.agg #[.int .i64 r, .int .i64 c, .int .i64 r', .int .i64 c'], .pointer (some ⟨b, 0, none⟩)] w fun e w' => e = .returned (.tuple #[]) ∧ P3 w' ∧ Mod S w w' := by
 have HP3 := hide hP3
 clear hP3
 have hlt := h.lt
 have c7 := h.cell 7
 rw [h7] at c7
 have hL1 := hL (w.alloc (.cells #[.int .i64 r, .int .i64 c, .int .i64 r', .int .i64 c'] 216)).drew (Mod.map ((Mod.refl No w).alloc _).drew hm (fun x => x))
 have hL2 := fun X => hL ((w.alloc (.cells #[.int .i64 r, .int .i64 c, .int .i64 r', .int .i64 c'] 216)).alloc X).drew (Mod.map (((Mod.refl No w).alloc _).alloc X).drew hm (fun x => x))
 have HS := hide hS
 have HP1 := hide hP1
 have HP2 := hide hP2
 clear hS h h7 hm hL hP1 hP2
 go_enter Tryz.func166, Tryz.ntmps166
 go_wp2_with fail
 go_cut [4] (fun s4 wx => s4 = .pointer (some ⟨w.heap.size + 1, 0, none⟩) ∧ wx = ((w.alloc (.cells #[.int .i64 r, .int .i64 c, .int .i64 r', .int .i64 c'] 216)).alloc (.cells #[.int .i64 st, .int .i64 pa, .int .i64 cl, .int .i64 un] 199)).drew)
 case first =>
  go_region
  all_goals go_wp2
  all_goals go_meet
  all_goals exact ⟨rfl, rfl⟩
 case rest =>
  obtain ⟨rfl, rfl⟩ := hcut
  have B1 : Has ((w.alloc (.cells #[.int .i64 r, .int .i64 c, .int .i64 r', .int .i64 c'] 216)).alloc (.cells #[.int .i64 st, .int .i64 pa, .int .i64 cl, .int .i64 un] 199)).drew w.heap.size #[.int .i64 r, .int .i64 c, .int .i64 r', .int .i64 c'] 216 := ((Has.new w _ _).alloc _).drew
  have B2 : Has ((w.alloc (.cells #[.int .i64 r, .int .i64 c, .int .i64 r', .int .i64 c'] 216)).alloc (.cells #[.int .i64 st, .int .i64 pa, .int .i64 cl, .int .i64 un] 199)).drew (w.heap.size + 1) #[.int .i64 st, .int .i64 pa, .int .i64 cl, .int .i64 un] 199 := by
   have := Has.new (w.alloc (.cells #[.int .i64 r, .int .i64 c, .int .i64 r', .int .i64 c'] 216)) #[.int .i64 st, .int .i64 pa, .int .i64 cl, .int .i64 un] 199
   rw [World.size_alloc] at this
   exact this
  have M0 : Mod No w ((w.alloc (.cells #[.int .i64 r, .int .i64 c, .int .i64 r', .int .i64 c'] 216)).alloc (.cells #[.int .i64 st, .int .i64 pa, .int .i64 cl, .int .i64 un] 199)).drew := (((Mod.refl _ w).alloc _).alloc _).drew
  have BB1 := hide B1
  have BB2 := hide B2
  have MM0 := hide M0
  clear B1 B2 M0 hL1 hL2
  go_wp2_with fail
  refine ((unhide HP1) _ (unhide MM0)).mono ?_
  rintro e w1 ⟨rfl, p1, m1⟩
  have c1 := (m1.has (unhide BB1) (fun hs => by have := (unhide HS) _ hs; omega)).cell
  have c2 := (m1.has (unhide BB2) (fun hs => by have := (unhide HS) _ hs; omega)).cell
  have PP1 := hide p1
  have M1 := hide (((unhide MM0).mono (S' := S) (fun _ _ x => x.elim)).trans m1)
  clear p1 m1
  go_wp2_with fail
  refine ((unhide HP2) _ (unhide PP1)).mono ?_
  rintro e w2 ⟨rfl, p2, m2⟩
  obtain ⟨⟨c24, z24, l24⟩, p3, m3⟩ := (unhide HP3) _ p2
  have wE := nx_eq ep
  have PP3 := hide p3
  have M3 := hide (((unhide M1).trans m2).trans m3)
  clear p3 m3 p2 m2 c1 c2 HP1 HP2 HP3
  go_wp2
  go_end0
  exact ⟨rfl, unhide PP3, unhide M3⟩
theorem freed_wf (s : Sea) : s.freed.wf := ⟨by simp [Sea.freed], by simp [Sea.freed], by simp [Sea.freed], by simp [Sea.freed], by simp [Sea.freed], by simp [Sea.freed], by simp [Sea.freed], by simp [Sea.freed]⟩
theorem shift_any {S : Nat → Prop} {b : Nat} {p : Pla} {l : List Sea} {w : World} (h : FlH w S b p l) (hwf : Wf p l) (i : Nat) (hi : i < l.length) (j : Nat) (hj : j < l.length) (hij : i ≠ j) :
  Calls Tryz.prog 166 #[.agg #[.int .i64 l[i].row, .int .i64 l[i].col, .int .i64 l[j].row, .int .i64 l[j].col], .pointer (some ⟨b, 0, none⟩)] w fun e w' =>
   e = .returned (.tuple #[]) ∧ FlH w' S b p.next ((l.set i l[i].freed).set j ⟨l[j].row, l[j].col, l[i].st, l[i].pa, l[i].cl, l[i].un⟩) ∧ Mod S w w' := by
 have hwi := hwf.seat _ (List.getElem_mem hi)
 have hwn : (⟨l[j].row, l[j].col, l[i].st, l[i].pa, l[i].cl, l[i].un⟩ : Sea).wf := ⟨hwi.s0, hwi.s1, hwi.c0, hwi.c1, hwi.bare, hwi.pa, hwi.un, hwi.bk⟩
 have hwf1 : Wf p (l.set i l[i].freed) := hwf.set hi (freed_wf _) rfl rfl
 have hj1 : j < (l.set i l[i].freed).length := by simpa using hj
 have ej : (l.set i l[i].freed)[j] = l[j] := by simp [List.getElem_set, hij]
 obtain ⟨m, es, clock, h1, h2, h3, h4, h5, h6⟩ := id h
 have hplace := (hwf.place_has hi).1
 simp only [Pla.has, decide_eq_true_eq] at hplace
 obtain ⟨B1, B2, B3, B4, _⟩ := hwf.bounds
 simp only at B1 B2 B3 B4
 refine (shift_walk (Old S w) b m _ l[i].row l[i].col l[j].row l[j].col l[i].st l[i].pa l[i].cl l[i].un w es clock (fun W => FlH W (Old S w) b p (l.set i l[i].freed))
  (fun W => FlH W (Old S w) b p ((l.set i l[i].freed).set j ⟨l[j].row, l[j].col, l[i].st, l[i].pa, l[i].cl, l[i].un⟩)) (fun k hk => hk.2) h1 rfl h2 (fun W hW => ?_) (fun W hW => ?_) (fun W hW => ?_) p.ep
  (fun W => FlH W (Old S w) b p.next ((l.set i l[i].freed).set j ⟨l[j].row, l[j].col, l[i].st, l[i].pa, l[i].cl, l[i].un⟩)) (fun W hW => ⟨hW.cell24, hW.bump⟩)).mono ?_
 ·have := run_lookup W m es clock hW h3 l[i].row l[i].col (by omega) (by omega)
  rw [h4.seat i hi] at this
  exact this
 ·exact put_any (h.narrow.mod0 hW) hwf i hi l[i].freed (freed_wf _) rfl rfl
 ·exact put_any hW hwf1 j hj1 ⟨l[j].row, l[j].col, l[i].st, l[i].pa, l[i].cl, l[i].un⟩ hwn (by rw [ej]) (by rw [ej])
 ·rintro e w' ⟨rfl, hh, hm⟩
  exact ⟨rfl, hh.wide (fun k hk => hk.1), hm.mono (fun k _ hk => hk.1)⟩
def emptySeats (p : Pla) : List Sea := (List.range (p.rows * p.cols).toNat).map fun i : Nat => ⟨(i : Int) / p.cols + 1, (i : Int) % p.cols + 1, 0, 0, 0, 0⟩
theorem empty_wf {p : Pla} (h1 : p.sized = true) (h2 : p.limited = true) : Wf p (emptySeats p) := by
 have hb := h1
 simp only [Pla.sized, decide_eq_true_eq] at hb
 refine ⟨h1, h2, ?_, fun i hi => ?_, fun s hs => ?_⟩
 ·have : 0 ≤ p.rows * p.cols := Int.mul_nonneg (by omega) (by omega)
  simp [emptySeats]
  omega
 ·simp [emptySeats]
 ·simp only [emptySeats, List.mem_map] at hs
  obtain ⟨i, _, rfl⟩ := hs
  exact ⟨by simp, by simp, by simp, by simp, by simp, by simp, by simp, by simp⟩
theorem countP_lt (n k : Nat) : (List.range n).countP (fun i => decide (i < k)) = min k n := by
 induction n with
 | zero => simp
 | succ n ih =>
  rw [List.range_succ, List.countP_append, ih]
  by_cases h : n < k
  ·simp [h]; omega
  ·simp [h]; omega
theorem row_le {p : Pla} (hc : 1 ≤ p.cols) (i : Nat) : ((i : Int) / p.cols + 1 ≤ p.front) ↔ i < (p.front * p.cols).toNat := by
 have h1 : (i : Int) / p.cols + 1 ≤ p.front ↔ (i : Int) / p.cols < p.front := by omega
 rw [h1, Int.ediv_lt_iff_lt_mul (by omega)]
 omega
theorem empty_A {p : Pla} (h1 : p.sized = true) (j : Nat) : cA p (emptySeats p) j = if j = 0 then p.front * p.cols else 0 := by
 simp only [Pla.sized, decide_eq_true_eq] at h1
 have hf : 0 ≤ p.front * p.cols := Int.mul_nonneg (by omega) (by omega)
 have hle : p.front * p.cols ≤ p.rows * p.cols := Int.mul_le_mul_of_nonneg_right (by omega) (by omega)
 simp only [cA, nAt, emptySeats, List.countP_map]
 have e : (fun s : Sea => (decide (s.row ≤ p.front) == true) && s.st == (j : Int)) ∘ (fun i : Nat => (⟨(i : Int) / p.cols + 1, (i : Int) % p.cols + 1, 0, 0, 0, 0⟩ : Sea)) = fun i => decide (i < (p.front * p.cols).toNat) && decide (j = 0) := by
  funext i
  simp only [Function.comp, beq_true]
  rw [show ((0 : Int) == (j : Int)) = decide (0 = j) from beq_cast 0 j, decide_eq_decide.2 (row_le (by omega) i), show decide (0 = j) = decide (j = 0) from decide_eq_decide.2 eq_comm]
 rw [e]
 by_cases hj : j = 0
 ·simp only [hj, decide_true, Bool.and_true, if_true]
  rw [countP_lt]
  omega
 ·simp [hj]
theorem empty_B {p : Pla} (h1 : p.sized = true) (j : Nat) : cB p (emptySeats p) j = if j = 0 then (p.rows - p.front) * p.cols else 0 := by
 simp only [Pla.sized, decide_eq_true_eq] at h1
 have hf : 0 ≤ p.front * p.cols := Int.mul_nonneg (by omega) (by omega)
 have hle : p.front * p.cols ≤ p.rows * p.cols := Int.mul_le_mul_of_nonneg_right (by omega) (by omega)
 have hs : (p.rows - p.front) * p.cols = p.rows * p.cols - p.front * p.cols := Int.sub_mul _ _ _
 simp only [cB, nAt, emptySeats, List.countP_map]
 have e : (fun s : Sea => (decide (s.row ≤ p.front) == false) && s.st == (j : Int)) ∘ (fun i : Nat => (⟨(i : Int) / p.cols + 1, (i : Int) % p.cols + 1, 0, 0, 0, 0⟩ : Sea)) = fun i => !decide (i < (p.front * p.cols).toNat) && decide (j = 0) := by
  funext i
  simp only [Function.comp, beq_false]
  rw [show ((0 : Int) == (j : Int)) = decide (0 = j) from beq_cast 0 j, decide_eq_decide.2 (row_le (by omega) i), show decide (0 = j) = decide (j = 0) from decide_eq_decide.2 eq_comm]
 rw [e]
 by_cases hj : j = 0
 ·simp only [hj, decide_true, Bool.and_true, if_true]
  have h2 := List.length_eq_countP_add_countP (fun i => decide (i < (p.front * p.cols).toNat)) (l := List.range (p.rows * p.cols).toNat)
  rw [countP_lt] at h2
  simp only [List.length_range] at h2
  have h3 : List.countP (fun a => decide ¬decide (a < (p.front * p.cols).toNat) = true) (List.range (p.rows * p.cols).toNat) = List.countP (fun i => !decide (i < (p.front * p.cols).toNat)) (List.range (p.rows * p.cols).toNat) := by
   congr 1; funext a; by_cases h : a < (p.front * p.cols).toNat <;> simp [h] <;> omega
  rw [h3] at h2
  omega
 ·simp [hj]
theorem empty_S (p : Pla) (j : Nat) : cS (emptySeats p) j = 0 := by
 simp only [cS, nSold, emptySeats, List.countP_map]
 have e : (fun s : Sea => s.sold && s.cl == (j : Int)) ∘ (fun i : Nat => (⟨(i : Int) / p.cols + 1, (i : Int) % p.cols + 1, 0, 0, 0, 0⟩ : Sea)) = fun i => false := by
  funext i
  simp [Sea.sold]
 rw [e]
 simp
theorem run_makeMap (w : World) : (Instr.makeMap 162 none).run Tryz.prog w = .ok (.map (some w.heap.size)) (w.alloc (.map #[] 0)) := by
 simp [Instr.makeMap, newObj, Sem.run]
attribute [local go_sem] run_makeMap
theorem wp_world {P : Program} {c : Code} {Q : Exit → Act → World → Prop} {a : Act} {w : World} (R : World → Prop) (h : R w) (k : ∀ w, R w → c.wp P Q a w) : c.wp P Q a w := k w h
theorem clear_totals (r c f l0 l1 l2 l3 : Int) (M : Value) (a0 a1 a2 a3 b0 b1 b2 b3 s0 s1 s2 s3 e0 e1 e2 e3 ep : Int) :
  (((((((((((((fcs r c f l0 l1 l2 l3 M a0 a1 a2 a3 b0 b1 b2 b3 s0 s1 s2 s3 e0 e1 e2 e3 ep).setIfInBounds 8 (.int .i64 0)).setIfInBounds 9 (.int .i64 0)).setIfInBounds 10 (.int .i64 0)).setIfInBounds 11 (.int .i64 0)).setIfInBounds 12 (.int .i64 0)).setIfInBounds 13 (.int .i64 0)).setIfInBounds 14 (.int .i64 0)).setIfInBounds 15 (.int .i64 0)).setIfInBounds 16 (.int .i64 0)).setIfInBounds 17 (.int .i64 0)).setIfInBounds 18 (.int .i64 0)).setIfInBounds 19 (.int .i64 0)) = fcs r c f l0 l1 l2 l3 M 0 0 0 0 0 0 0 0 0 0 0 0 e0 e1 e2 e3 ep := by kernel_rfl
set_option maxHeartbeats 4000000 in
theorem fit_walk (b : Nat) (p : Pla) (r0 c0 f0 k0 k1 k2 k3 : Int) (M0 : Value) (a0 a1 a2 a3 b0 b1 b2 b3 s0 s1 s2 s3 e0 e1 e2 e3 ep : Int) (e' : Nat → Int) (w : World)
  (h : Has w b (fcs r0 c0 f0 k0 k1 k2 k3 M0 a0 a1 a2 a3 b0 b1 b2 b3 s0 s1 s2 s3 e0 e1 e2 e3 ep) 164) (x y : Int)
  (w1 : IntKind.i64.wrap (p.front * p.cols) = x) (w2 : IntKind.i64.wrap (p.rows - p.front) = p.rows - p.front) (w3 : IntKind.i64.wrap ((p.rows - p.front) * p.cols) = y)
  (hR : ∀ W m, Has W b (fcs p.rows p.cols p.front p.l0 p.l1 p.l2 p.l3 (.map (some m)) x 0 0 0 y 0 0 0 0 0 0 0 e0 e1 e2 e3 ep) 164 → Calls Tryz.prog 135 #[.pointer (some ⟨b, 0, none⟩)] W fun e w' => e = .returned (.tuple #[]) ∧ Mod (fun k => k = b) W w' ∧
   Has w' b (fcs p.rows p.cols p.front p.l0 p.l1 p.l2 p.l3 (.map (some m)) x 0 0 0 y 0 0 0 0 0 0 0 (e' 0) (e' 1) (e' 2) (e' 3) ep) 164) :
  Calls Tryz.prog 159 #[.pointer (some ⟨b, 0, none⟩), .agg #[.int .i64 p.rows, .int .i64 p.cols, .int .i64 p.front, .int .i64 p.l0, .int .i64 p.l1, .int .i64 p.l2, .int .i64 p.l3]] w fun e w' =>
   e = .returned (.tuple #[]) ∧ Mod (fun k => k = b) w w' ∧ ∃ m, w.heap.size ≤ m ∧ w'.heap[m]? = some (mapObj [] 0) ∧ Has w' b (fcs p.rows p.cols p.front p.l0 p.l1 p.l2 p.l3 (.map (some m)) x 0 0 0 y 0 0 0 0 0 0 0 (e' 0) (e' 1) (e' 2) (e' 3) ep) 164 := by
 have hlt := h.lt
 have hc := h.cell
 have hz := h.frozen
 unfold fcs at hc
 have H := hide h
 have HR := hide hR
 clear h hR
 obtain ⟨r, c, f, l0, l1, l2, l3, pe⟩ := p
 simp only at *
 go_enter Tryz.func159, Tryz.ntmps159
 go_upto_region 2 with fail
 refine wp_world (fun W => Hid (Mod (fun k => k = b) w W) ∧ Hid (Has W w.heap.size #[.int .i64 r, .int .i64 c, .int .i64 f, .int .i64 l0, .int .i64 l1, .int .i64 l2, .int .i64 l3] 39) ∧ Hid (Has W b (fcs r c f l0 l1 l2 l3 M0 a0 a1 a2 a3 b0 b1 b2 b3 s0 s1 s2 s3 e0 e1 e2 e3 ep) 164)) ?_ ?_
 ·refine ⟨((((((((Mod.refl _ w).at 0 _).at 1 _).at 2 _).at 3 _).at 4 _).at 5 _).at 6 _).alloc _, ?_, ?_⟩
  ·have := Has.new (((((((w.setCell ⟨b, 0, none⟩ (.int .i64 r)).setCell ⟨b, 1, none⟩ (.int .i64 c)).setCell ⟨b, 2, none⟩ (.int .i64 f)).setCell ⟨b, 3, none⟩ (.int .i64 l0)).setCell ⟨b, 4, none⟩ (.int .i64 l1)).setCell ⟨b, 5, none⟩ (.int .i64 l2)).setCell ⟨b, 6, none⟩ (.int .i64 l3)) #[.int .i64 r, .int .i64 c, .int .i64 f, .int .i64 l0, .int .i64 l1, .int .i64 l2, .int .i64 l3] 39
   simp only [World.size_alloc, World.size_setCell] at this
   exact this
  ·exact ((((((((unhide H).set 0 _).set 1 _).set 2 _).set 3 _).set 4 _).set 5 _).set 6 _).alloc _
 ·rintro W ⟨M1, B1, H1⟩
  have hc := (unhide H1).cell
  have hz := (unhide H1).frozen
  have hlW := (unhide H1).lt
  unfold fcs at hc
  have hbw : b ≠ w.heap.size := by omega
  have HBW := hide hbw
  clear hbw
  go_upto_region 3 with fail
  refine wp_world (fun W => Hid (Mod (fun k => k = b) w W) ∧ Hid (Has W w.heap.size #[.int .i64 r, .int .i64 c, .int .i64 f, .int .i64 l0, .int .i64 l1, .int .i64 l2, .int .i64 l3] 39) ∧ ∃ m, Hid (w.heap.size ≤ m) ∧ Hid (W.heap[m]? = some (mapObj [] 0)) ∧ Hid (m ≠ b) ∧ Hid (Has W b (fcs r c f l0 l1 l2 l3 (.map (some m)) a0 a1 a2 a3 b0 b1 b2 b3 s0 s1 s2 s3 e0 e1 e2 e3 ep) 164)) ?_ ?_
  ·refine ⟨((unhide M1).at 7 _).alloc _, ((unhide B1).set_ne (a := ⟨b, 7, none⟩) (fun e => (unhide HBW) e.symm) _).alloc _, W.heap.size, (unhide M1).size, ?_, ?_, ((unhide H1).set 7 _).alloc _⟩
   ·have := heap_alloc_new (W.setCell ⟨b, 7, none⟩ (.map (some W.heap.size))) (.map #[] 0)
    rw [World.size_setCell] at this
    exact this
   ·intro e; omega
  clear hc hz M1 B1 H1
  rintro W1 ⟨M1, B1, m, hm0, hm1, hmb, H1⟩
  have hc := (unhide H1).cell
  have hz := (unhide H1).frozen
  have hlW1 := (unhide H1).lt
  unfold fcs at hc
  go_upto_region 4 with fail
  refine wp_world (fun W => Hid (Mod (fun k => k = b) w W) ∧ Hid (Has W w.heap.size #[.int .i64 r, .int .i64 c, .int .i64 f, .int .i64 l0, .int .i64 l1, .int .i64 l2, .int .i64 l3] 39) ∧ Hid (W.heap[m]? = some (mapObj [] 0)) ∧ Hid (Has W b (fcs r c f l0 l1 l2 l3 (.map (some m)) 0 0 0 0 0 0 0 0 0 0 0 0 e0 e1 e2 e3 ep) 164)) ?_ ?_
  ·have hmod : Mod (fun k => k = b) W1 ((((((((((((W1.setCell ⟨b, 8, none⟩ (.int .i64 0)).setCell ⟨b, 9, none⟩ (.int .i64 0)).setCell ⟨b, 10, none⟩ (.int .i64 0)).setCell ⟨b, 11, none⟩ (.int .i64 0)).setCell ⟨b, 12, none⟩ (.int .i64 0)).setCell ⟨b, 13, none⟩ (.int .i64 0)).setCell ⟨b, 14, none⟩ (.int .i64 0)).setCell ⟨b, 15, none⟩ (.int .i64 0)).setCell ⟨b, 16, none⟩ (.int .i64 0)).setCell ⟨b, 17, none⟩ (.int .i64 0)).setCell ⟨b, 18, none⟩ (.int .i64 0)).setCell ⟨b, 19, none⟩ (.int .i64 0)) :=
    ((((((((((((Mod.refl _ W1).at 8 _).at 9 _).at 10 _).at 11 _).at 12 _).at 13 _).at 14 _).at 15 _).at 16 _).at 17 _).at 18 _).at 19 _
   exact ⟨(unhide M1).trans hmod, hmod.has (unhide B1) (fun e => (unhide HBW) e.symm), hmod.map (unhide hm1) (fun e => (unhide hmb) e),
 by have h12 := (((((((((((((unhide H1).set 8 (.int .i64 0)).set 9 (.int .i64 0)).set 10 (.int .i64 0)).set 11 (.int .i64 0)).set 12 (.int .i64 0)).set 13 (.int .i64 0)).set 14 (.int .i64 0)).set 15 (.int .i64 0)).set 16 (.int .i64 0)).set 17 (.int .i64 0)).set 18 (.int .i64 0)).set 19 (.int .i64 0)); rw [clear_totals] at h12; exact h12⟩
  clear hc hz M1 B1 H1 hm1
  rintro W2 ⟨M2, B2, hm1, H2⟩
  have hc := (unhide H2).cell
  have hz := (unhide H2).frozen
  have hlW := (unhide H2).lt
  have hb1 := (unhide B2).cell
  unfold fcs at hc
  have HBW' := unhide HBW
  go_cut [] (fun wx => Hid (Mod (fun k => k = b) w wx) ∧ Hid (Has wx w.heap.size #[.int .i64 r, .int .i64 c, .int .i64 f, .int .i64 l0, .int .i64 l1, .int .i64 l2, .int .i64 l3] 39) ∧ Hid (wx.heap[m]? = some (mapObj [] 0)) ∧ Hid (Has wx b (fcs r c f l0 l1 l2 l3 (.map (some m)) x 0 0 0 0 0 0 0 0 0 0 0 e0 e1 e2 e3 ep) 164))
  case first =>
   go_region
   all_goals go_wp2
   all_goals go_meet
   all_goals exact ⟨((unhide M2).at 8 _).drew, ((unhide B2).set_ne (a := ⟨b, 8, none⟩) (fun e => HBW' e.symm) _).drew, (by show (World.setCell _ _ _).heap[m]? = _; rw [Below.heap_setCell _ _ _ _ (by exact unhide hmb)]; exact unhide hm1), ((unhide H2).set 8 _).drew⟩
  case rest =>
   obtain ⟨M3, B3, hm3, H3⟩ := hcut
   clear hc hz hlW hb1 M2 B2 hm1 H2
   have hc := (unhide H3).cell
   have hz := (unhide H3).frozen
   have hlW := (unhide H3).lt
   have hb1 := (unhide B3).cell
   unfold fcs at hc
   go_upto_region 5 with fail
   go_cut [] (fun wx => Hid (Mod (fun k => k = b) w wx) ∧ Hid (wx.heap[m]? = some (mapObj [] 0)) ∧ Hid (Has wx b (fcs r c f l0 l1 l2 l3 (.map (some m)) x 0 0 0 y 0 0 0 0 0 0 0 e0 e1 e2 e3 ep) 164))
   case first =>
    go_region
    all_goals go_wp2
    all_goals go_meet
    all_goals exact ⟨((unhide M3).at 12 _).drew, (by show (World.setCell _ _ _).heap[m]? = _; rw [Below.heap_setCell _ _ _ _ (by exact unhide hmb)]; exact unhide hm3), ((unhide H3).set 12 _).drew⟩
   case rest =>
    obtain ⟨M4, hm4, H4⟩ := hcut
    clear hc hz hlW hb1 M3 B3 hm3 H3
    go_wp2_with fail
    refine ((unhide HR) _ m (unhide H4)).mono ?_
    rintro e w5 ⟨rfl, m5, h5⟩
    go_wp2
    go_end0
    exact ⟨rfl, (unhide M4).trans m5, m, unhide hm0, m5.map (unhide hm4) (fun e => (unhide hmb) e), h5⟩
theorem Wf.at {p : Pla} {l : List Sea} (h : Wf p l) (e : Int) : Wf (p.at e) l := ⟨h.sized, h.limited, h.len, h.place, h.seat⟩
def AnyF (w : World) (b : Nat) (ep : Int) : Prop :=
 ∃ r0 c0 f0 k0 k1 k2 k3 M0 a0 a1 a2 a3 b0 b1 b2 b3 s0 s1 s2 s3 e0 e1 e2 e3, Has w b (fcs r0 c0 f0 k0 k1 k2 k3 M0 a0 a1 a2 a3 b0 b1 b2 b3 s0 s1 s2 s3 e0 e1 e2 e3 ep) 164
theorem fit_any {b : Nat} {p : Pla} {w : World} (ep : Int) (h : AnyF w b ep) (h1 : p.sized = true) (h2 : p.limited = true) :
  Calls Tryz.prog 159 #[.pointer (some ⟨b, 0, none⟩), .agg #[.int .i64 p.rows, .int .i64 p.cols, .int .i64 p.front, .int .i64 p.l0, .int .i64 p.l1, .int .i64 p.l2, .int .i64 p.l3]] w fun e w' =>
   e = .returned (.tuple #[]) ∧ FlH w' (fun k => k = b ∨ w.heap.size ≤ k) b (p.at ep) (emptySeats p) ∧ Mod (fun k => k = b) w w' := by
 obtain ⟨r0, c0, f0, k0, k1, k2, k3, M0, a0, a1, a2, a3, b0, b1, b2, b3, s0, s1, s2, s3, e0', e1', e2', e3', h⟩ := h
 have hb := h1
 simp only [Pla.sized, decide_eq_true_eq] at hb
 have f1 : 0 ≤ p.front * p.cols := Int.mul_nonneg (by omega) (by omega)
 have f2 : p.front * p.cols ≤ 20 * 6 := Int.mul_le_mul (by omega) (by omega) (by omega) (by omega)
 have f3 : 0 ≤ (p.rows - p.front) * p.cols := Int.mul_nonneg (by omega) (by omega)
 have f4 : (p.rows - p.front) * p.cols ≤ 20 * 6 := Int.mul_le_mul (by omega) (by omega) (by omega) (by omega)
 have hwf := empty_wf h1 h2
 obtain ⟨e0, e1, e2, e3⟩ := cE_eq hwf
 have ls := lim_small h2
 simp only [empty_A h1, empty_B h1, empty_S, if_true] at e0 e1 e2 e3
 refine (fit_walk b p _ _ _ _ _ _ _ _ _ _ _ _ _ _ _ _ _ _ _ _ _ _ _ _ ep (cE p (emptySeats p)) w h (p.front * p.cols) ((p.rows - p.front) * p.cols) (wrap_id _ (by omega) (by omega)) (wrap_id _ (by omega) (by omega)) (wrap_id _ (by omega) (by omega)) (fun W m hW => ?_)).mono ?_
 ·refine (reckon_any b p.rows p.cols p.front p.l0 p.l1 p.l2 p.l3 _ _ _ _ _ _ _ _ _ _ _ _ _ _ _ _ _ _ W hW (by omega) (by omega) ls).mono ?_
  rintro e w' ⟨rfl, hm, hh⟩
  refine ⟨rfl, hm, ?_⟩
  rw [e0, e1, e2, e3]
  exact hh
 ·rintro e w' ⟨rfl, hm, m, hm0, hm1, hh⟩
  refine ⟨rfl, ⟨m, [], 0, ?_, hm1, ⟨by simp, by simp, by simp, by simp⟩, ⟨by simp, fun i hi => ?_, ?_⟩, .inl rfl, .inr hm0⟩, hm⟩
  ·have : fcells (p.at ep) (.map (some m)) (emptySeats p) = fcs p.rows p.cols p.front p.l0 p.l1 p.l2 p.l3 (.map (some m)) (cA p (emptySeats p) 0) (cA p (emptySeats p) 1) (cA p (emptySeats p) 2) (cA p (emptySeats p) 3) (cB p (emptySeats p) 0) (cB p (emptySeats p) 1) (cB p (emptySeats p) 2) (cB p (emptySeats p) 3) (cS (emptySeats p) 0) (cS (emptySeats p) 1) (cS (emptySeats p) 2) (cS (emptySeats p) 3) (cE p (emptySeats p) 0) (cE p (emptySeats p) 1) (cE p (emptySeats p) 2) (cE p (emptySeats p) 3) ep := rfl
   rw [this]
   simp only [empty_A h1, empty_B h1, empty_S]
   exact hh
  ·simp [emptySeats, lookE]
  ·have : (emptySeats p).countP (fun s => s.st != 0) = 0 := by
    rw [List.countP_eq_zero]
    intro s hs
    simp only [emptySeats, List.mem_map] at hs
    obtain ⟨i, _, rfl⟩ := hs
    simp
   rw [this]
   rfl
theorem start_any {b : Nat} {p : Pla} {w : World} (h : Has w b (fcs 0 0 0 0 0 0 0 (.map none) 0 0 0 0 0 0 0 0 0 0 0 0 0 0 0 0 0) 164) (h1 : p.sized = true) (h2 : p.limited = true) :
  Calls Tryz.prog 158 #[.agg #[.int .i64 p.rows, .int .i64 p.cols, .int .i64 p.front, .int .i64 p.l0, .int .i64 p.l1, .int .i64 p.l2, .int .i64 p.l3], .pointer (some ⟨b, 0, none⟩)] w fun e w' =>
   e = .returned (.tuple #[]) ∧ FlH w' (fun k => k = b ∨ w.heap.size ≤ k) b (p.at 1) (emptySeats p) ∧ Mod (fun k => k = b) w w' := by
 have HF := hide fun W (hW : AnyF W b 0) => fit_any (p := p) 0 hW h1 h2
 have H := hide h
 clear h
 obtain ⟨r, c, f, l0, l1, l2, l3, pe⟩ := p
 simp only at HF ⊢
 go_enter Tryz.func158, Tryz.ntmps158
 go_wp2_with fail
 refine ((unhide HF) _ ⟨_, _, _, _, _, _, _, _, _, _, _, _, _, _, _, _, _, _, _, _, _, _, _, _, (unhide H).alloc _⟩).mono ?_
 rintro e w1 ⟨rfl, h1, m1⟩
 have h1 := h1.wide (S' := fun k => k = b ∨ w.heap.size ≤ k) (fun k hk => by rw [World.size_alloc] at hk; omega)
 obtain ⟨c24, z24, l24⟩ : w1.cell? ⟨b, 24, none⟩ = some (.int .i64 0) ∧ w1.frozen? ⟨b, 24, none⟩ = false ∧ b < w1.heap.size := h1.cell24
 have HB := hide (show FlH (w1.setCell ⟨b, 24, none⟩ (.int .i64 1)) (fun k => k = b ∨ w.heap.size ≤ k) b (Pla.at ⟨r, c, f, l0, l1, l2, l3, pe⟩ 1) (emptySeats ⟨r, c, f, l0, l1, l2, l3, pe⟩) from h1.bump.1)
 have M1 := hide (((Mod.refl (fun k => k = b) w).alloc (.cells #[.int .i64 r, .int .i64 c, .int .i64 f, .int .i64 l0, .int .i64 l1, .int .i64 l2, .int .i64 l3] 189)).trans m1)
 clear h1 m1 H HF
 go_wp2
 go_end0
 refine ⟨rfl, ?_, (unhide M1).at 24 _⟩
 exact unhide HB
def due (now : Int) (s : Sea) : Bool := s.st == 1 && decide (s.un ≤ now)
def tickSeats (now : Int) (l : List Sea) : List Sea := l.map fun s => if due now s then s.freed else s
theorem idx_of {p : Pla} {l : List Sea} (h : Wf p l) {r c : Int} (hh : p.has r c = true) : ∃ i, ∃ hi : i < l.length, l[i].row = r ∧ l[i].col = c := by
 have h1 := Fli.wf.idx_lt h hh
 have h2 := Fli.wf.idx_place h hh
 exact ⟨p.idx r c, h1, h2⟩
theorem ent_seat {es : List MEnt} {clock : Nat} {p : Pla} {l : List Sea} (hok : MapOk es clock) (hrel : MapRel es p l) (hwf : Wf p l) {e : MEnt} (he : e ∈ es) :
  ∃ i, ∃ hi : i < l.length, l[i].row = e.r ∧ l[i].col = e.c ∧ l[i].st = e.s ∧ l[i].pa = e.p ∧ l[i].cl = e.k ∧ l[i].un = e.u := by
 obtain ⟨i, hi, h1, h2⟩ := idx_of hwf (hrel.ent e he).1
 have h3 := hrel.seat i hi
 rw [h1, h2, look_mem hok he] at h3
 simp only [Prod.mk.injEq] at h3
 exact ⟨i, hi, h1, h2, h3.1.symm, h3.2.1.symm, h3.2.2.1.symm, h3.2.2.2.symm⟩
theorem seat_ent {es : List MEnt} {p : Pla} {l : List Sea} (hrel : MapRel es p l) {i : Nat} (hi : i < l.length) (hs : l[i].st ≠ 0) :
  ∃ e ∈ es, e.r = l[i].row ∧ e.c = l[i].col ∧ e.s = l[i].st ∧ e.u = l[i].un := by
 have h3 := hrel.seat i hi
 unfold lookE at h3
 cases hf : es.find? (MEnt.is l[i].row l[i].col) with
 | none =>
  rw [hf] at h3
  simp at h3
  exact absurd h3.1.symm hs
 | some e =>
  rw [hf] at h3
  simp at h3
  have hk := is_true.1 (List.find?_some hf)
  exact ⟨e, List.mem_of_find?_eq_some hf, hk.1, hk.2, h3.1, h3.2.2.2⟩
structure Passed (now : Int) (l l' : List Sea) (es : List MEnt) (seen : Array Nat) : Prop where
 len : l'.length = l.length
 each : ∀ i (h : i < l.length) (h' : i < l'.length), l'[i] = l[i] ∨ (due now l[i] = true ∧ l'[i] = l[i].freed)
 done : ∀ e ∈ es, e.born ∈ seen → ¬ (e.s = 1 ∧ e.u ≤ now)
theorem Passed.start (now : Int) (l : List Sea) (es : List MEnt) : Passed now l l es #[] := ⟨rfl, fun i h h' => .inl rfl, fun e _ h => by simp at h⟩
theorem Passed.keep {now : Int} {l l' : List Sea} {es : List MEnt} {seen : Array Nat} {clock : Nat} (h : Passed now l l' es seen) (hok : MapOk es clock) {e : MEnt} (he : e ∈ es) (hn : ¬ (e.s = 1 ∧ e.u ≤ now)) : Passed now l l' es (seen.push e.born) := by
 refine ⟨h.len, h.each, fun x hx hs => ?_⟩
 rcases Array.mem_push.1 hs with hs | hs
 ·exact h.done x hx hs
 ·have : x = e := by
   obtain ⟨i, hi, rfl⟩ := List.getElem_of_mem hx
   obtain ⟨j, hj, rfl⟩ := List.getElem_of_mem he
   have hp := List.pairwise_iff_getElem.1 hok.births
   rcases Nat.lt_trichotomy i j with h1 | h1 | h1
   ·exact absurd hs (hp i j hi hj h1)
   ·subst h1; rfl
   ·exact absurd hs.symm (hp j i hj hi h1)
  rw [this]
  exact hn
theorem Passed.give {now : Int} {l l' : List Sea} {es : List MEnt} {seen : Array Nat} {clock : Nat} (h : Passed now l l' es seen) (hok : MapOk es clock) {e : MEnt} (he : e ∈ es) {i : Nat} (hi : i < l'.length) (hd : due now l'[i] = true) :
  Passed now l (l'.set i l'[i].freed) (dropE es e.r e.c) (seen.push e.born) := by
 refine ⟨by simp [h.len], fun j hj hj' => ?_, fun x hx hs => ?_⟩
 ·have hj2 : j < l'.length := by simpa using hj'
  simp only [List.getElem_set]
  by_cases e1 : i = j
  ·subst e1
   rw [if_pos rfl]
   rcases h.each i hj hi with h1 | ⟨h1, h2⟩
   ·rw [h1] at hd ⊢
    exact .inr ⟨hd, rfl⟩
   ·rw [h2] at hd
    simp [due, Sea.freed] at hd
  ·rw [if_neg e1]
   exact h.each j hj hj2
 ·have hx' := dropE_mem hx
  rcases Array.mem_push.1 hs with hs | hs
  ·exact h.done x hx' hs
  ·have hxe : x = e := by
    obtain ⟨i, hi, rfl⟩ := List.getElem_of_mem hx'
    obtain ⟨j, hj, rfl⟩ := List.getElem_of_mem he
    have hp := List.pairwise_iff_getElem.1 hok.births
    rcases Nat.lt_trichotomy i j with h1 | h1 | h1
    ·exact absurd hs (hp i j hi hj h1)
    ·subst h1; rfl
    ·exact absurd hs.symm (hp j i hj hi h1)
   subst hxe
   have hl := look_mem (hok.drop x.r x.c) hx
   rw [look_drop hok] at hl
   simp at hl
   rintro ⟨h1, _⟩
   omega
theorem Passed.finish {now : Int} {l l' : List Sea} {es : List MEnt} {seen : Array Nat} {p : Pla} (h : Passed now l l' es seen) (hrel : MapRel es p l') (hall : ∀ e ∈ es, e.born ∈ seen) : l' = tickSeats now l := by
 apply List.ext_getElem (by simp [tickSeats, h.len])
 intro i hi hi2
 have hil : i < l.length := by rw [← h.len]; exact hi
 simp only [tickSeats, List.getElem_map]
 rcases h.each i hil hi with h1 | ⟨h1, h2⟩
 ·have : due now l[i] = false := by
   cases hd : due now l[i] with
   | false => rfl
   | true =>
    exfalso
    simp only [due, Bool.and_eq_true, beq_iff_eq, decide_eq_true_eq] at hd
    obtain ⟨e, he, _, _, e3, e4⟩ := seat_ent hrel hi (by rw [h1]; omega)
    exact h.done e he (hall e he) ⟨by rw [e3, h1]; exact hd.1, by rw [e4, h1]; exact hd.2⟩
  rw [this, h1]
  rfl
 ·rw [h1, h2]
  rfl
def leftN (w : World) (m r : Nat) : Nat :=
 match w.heap[m]?, w.heap[r]? with
 | some (.map es _), some (.mapIter _ _ seen _) => (es.toList.filter fun e => !seen.contains e.born).length
 | _, _ => 0
theorem leftN_eq {w : World} {m r : Nat} {es : List MEnt} {clock : Nat} {bm : Option Nat} {s c : Nat} {seen : Array Nat} (hm : w.heap[m]? = some (mapObj es clock)) (hr : w.heap[r]? = some (.mapIter bm s seen c)) :
  leftN w m r = (es.filter fun e => !seen.contains e.born).length := by
 unfold leftN
 rw [hm, hr]
 simp only [mapObj]
 rw [List.filter_map, List.length_map]
 rfl
theorem filter_lt {α : Type} {p q : α → Bool} : ∀ {l l' : List α}, l'.Sublist l → (∀ x ∈ l, q x = true → p x = true) → (∃ x ∈ l, p x = true ∧ q x = false) → (l'.filter q).length < (l.filter p).length := by
 intro l l' hs hpq hx
 have h1 : (l'.filter q).length ≤ (l.filter q).length := (hs.filter q).length_le
 have h2 : (l.filter q).length < (l.filter p).length := by
  clear hs h1
  induction l with
  | nil => obtain ⟨x, hx, _⟩ := hx; simp at hx
  | cons a l ih =>
   have hle : (l.filter q).length ≤ (l.filter p).length := by
    rw [← List.countP_eq_length_filter, ← List.countP_eq_length_filter]
    exact List.countP_mono_left (fun x hx h => hpq x (List.mem_cons_of_mem _ hx) h)
   simp only [List.filter_cons]
   obtain ⟨x, hx, hp, hq⟩ := hx
   rcases List.mem_cons.1 hx with rfl | hx
   ·rw [hp, hq]
    simp
    omega
   ·have := ih (fun x hx h => hpq x (List.mem_cons_of_mem _ hx) h) ⟨x, hx, hp, hq⟩
    have ha := hpq a (List.mem_cons_self)
    cases h1 : q a <;> cases h2 : p a <;> simp_all <;> omega
 omega
def same4 (a0 a1 a2 a3 b0 b1 b2 b3 : Int) : Bool := a0 == b0 && (a1 == b1 && (a2 == b2 && a3 == b3))
theorem part3 (xs : Array Value) (i : Nat) (v : Value) (h : xs[i]? = some v) (w : World) : (part 3 xs i).run Tryz.prog w = .ok v w := by
 unfold part
 simp [Sem.run_bind, isAgg, run_underlying Tryz.underlying3, h]
theorem eq_step (n : Nat) (is : List Nat) (xs ys : Array Value) (i : Nat) (x y : Int) (hx : xs[i * 1]? = some (.int .i64 x)) (hy : ys[i * 1]? = some (.int .i64 y)) (w : World) :
  (Op.eqItems (n + 1) 3 1 xs ys (i :: is)).run Tryz.prog w = if (x == y) = true then (Op.eqItems (n + 1) 3 1 xs ys is).run Tryz.prog w else .ok false w := by
 have r : (Op.equalIn (n + 1) 3 (.int .i64 x) (.int .i64 y)).run Tryz.prog w = .ok (x == y) w := run_equalIn_int w n 3 .i64 .i64 x y Tryz.underlying3
 simp only [Op.eqItems, Sem.run_bind, part3 _ _ _ hx, part3 _ _ _ hy, r, Result.andThen_ok]
 cases x == y
 ·rfl
 ·rfl
theorem eq4n (n : Nat) (a0 a1 a2 a3 b0 b1 b2 b3 : Int) (w : World) :
  (Op.equalIn (n + 2) 37 (.agg #[.int .i64 a0, .int .i64 a1, .int .i64 a2, .int .i64 a3]) (.agg #[.int .i64 b0, .int .i64 b1, .int .i64 b2, .int .i64 b3])).run Tryz.prog w = .ok (same4 a0 a1 a2 a3 b0 b1 b2 b3) w := by
 have hi : (Tryz.prog.info? 3).isSome = true := by kernel_rfl
 obtain ⟨i3, hi⟩ := Option.isSome_iff_exists.1 hi
 have c3 : Tryz.prog.cellsOf 3 = 1 := by kernel_rfl
 rw [run_equalIn_array w (n + 1) _ _ Tryz.underlying37 hi, c3]
 rw [show List.range 4 = [0, 1, 2, 3] from rfl]
 unfold same4
 rw [eq_step n _ _ _ 0 a0 b0 rfl rfl, eq_step n _ _ _ 1 a1 b1 rfl rfl, eq_step n _ _ _ 2 a2 b2 rfl rfl, eq_step n _ _ _ 3 a3 b3 rfl rfl]
 cases a0 == b0 <;> cases a1 == b1 <;> cases a2 == b2 <;> cases a3 == b3 <;> rfl
theorem eq41 (a0 a1 a2 a3 b0 b1 b2 b3 : Int) (w : World) :
  (Op.equalIn 10000 37 (.agg #[.int .i64 a0, .int .i64 a1, .int .i64 a2, .int .i64 a3]) (.agg #[.int .i64 b0, .int .i64 b1, .int .i64 b2, .int .i64 b3])).run Tryz.prog w = .ok (same4 a0 a1 a2 a3 b0 b1 b2 b3) w := eq4n 9998 ..
theorem guard40 (op : BinOp) (x y : Operand) (xs ys : Array Value) (w : World) : (eqGuard op 37 x y (.agg xs) (.agg ys)).run Tryz.prog w = .ok () w := by
 have h : Tryz.prog.eqGuardType Tryz.prog.depth 37 = false := by kernel_rfl
 unfold eqGuard
 cases op <;> simp [Sem.run, program, h]
end Go.Proofs.YthhibagcpjeihaaGreat
