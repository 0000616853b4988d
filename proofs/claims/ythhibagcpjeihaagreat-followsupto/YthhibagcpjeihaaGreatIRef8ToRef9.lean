import Derived.Test.YthhibagcpjeihaaGreatILook7ToRef7
import Derived.Test.YthhibagcpjeihaaGreatIBaseToMaps
import Derived.Deep.DeepCutAuto
namespace Go.Proofs.YthhibagcpjeihaaGreat
open Go.RowKit
open M
set_option linter.unusedVariables false
set_option linter.unusedSimpArgs false
set_option maxRecDepth 100000
set_option maxHeartbeats 8000000
theorem RowS.froz {w : World} {g cap : Nat} {l : List Sea} (h : RowS w g cap l) (o : Nat) : w.frozen? ⟨g, o, none⟩ = false := by
 obtain ⟨cur, h1, _⟩ := h.cur
 exact h1.frozen o
theorem leftOf_pos (p : Pla) (l : List Sea) (k : Nat) : 0 ≤ M.leftOf p l k := by unfold M.leftOf; omega
def holdE (now time st lf : Int) : Int := if time ≤ now ∨ time > now + 100 then 8 else saleN st lf
def bookE (party cls lf : Int) (s : Sea) : Int := if s.st = 1 ∧ s.pa = party ∧ s.cl = cls then 0 else saleN s.st lf
def soldL (e : Int) (l : List Sea) (i : Nat) (s : Sea) : List Sea := if e = 0 then l.set i s else l
theorem soldL_no {e : Int} (h : e ≠ 0) (l : List Sea) (i : Nat) (s : Sea) : soldL e l i s = l := if_neg h
theorem soldL_yes (l : List Sea) (i : Nat) (s : Sea) : soldL 0 l i s = l.set i s := rfl
theorem SaleOk.put {w w' : World} {gf fo g cap : Nat} {p : Pla} {l l0 : List Sea} {i : Nat} {s0 : Sea} (h : SaleOk w w' gf fo g cap p l (l0.set i s0)) (hi : i < l0.length) (j : Nat) (hj : j < 6) (v : Value) (s : Sea) (hs : seaV s = (seaV s0).setIfInBounds j v) :
  SaleOk w (w'.setCell ⟨g, i * 6 + j, none⟩ v) gf fo g cap p l (l0.set i s) := by
 have := h.set i (by simpa using hi) j hj v s (by simpa using hs)
 rwa [List.set_set] at this
theorem sale_hold (wb gf fo g cap i : Nat) (p : Pla) (l : List Sea) (flight ar ac tr tc party time now : Int) (k : Nat) (pl : Pla) (w : World) (h : FlR w gf fo g cap p l) (s : Sea) (hse : ∃ hi : i < l.length, l[i] = s) (hp : p.limited = true) (hk : k < 4) (hpa : 1 ≤ party ∧ party ≤ 1000)
  (ht : -9223372036854775808 ≤ time ∧ time ≤ 9223372036854775807) (hn : 0 ≤ now ∧ now ≤ 4611686018427387000) (hnow : w.cell? ⟨wb, 1, none⟩ = some (.int .i64 now))  :
  Calls Tryz.prog 86 #[.pointer (some ⟨wb, 0, none⟩), .pointer (some ⟨gf, fo, none⟩), .pointer (some ⟨g, i * 6, none⟩), .agg #[.int .i64 2, .int .i64 flight, .int .i64 ar, .int .i64 ac, .int .i64 tr, .int .i64 tc, .int .i64 party, .int .i64 k, .int .i64 time, .int .i64 pl.rows, .int .i64 pl.cols, .int .i64 pl.front, .int .i64 pl.l0, .int .i64 pl.l1, .int .i64 pl.l2, .int .i64 pl.l3]] w fun e w' => e = .returned (.int .i64 (holdE now time s.st (M.leftOf p l k))) ∧
   SaleOk w w' gf fo g cap p l (soldL (holdE now time s.st (M.leftOf p l k)) l i ⟨s.row, s.col, 1, party, k, time⟩) := by
 have HW := hide fun W => (show Calls Tryz.prog 111 #[.agg #[.int .i64 2, .int .i64 flight, .int .i64 ar, .int .i64 ac, .int .i64 tr, .int .i64 tc, .int .i64 party, .int .i64 k, .int .i64 time, .int .i64 pl.rows, .int .i64 pl.cols, .int .i64 pl.front, .int .i64 pl.l0, .int .i64 pl.l1, .int .i64 pl.l2, .int .i64 pl.l3]] W fun e w' => e = .returned (.int .i64 0) ∧ Mod No W w' from by
  have := whom_any ⟨2, flight, ar, ac, tr, tc, party, k, time, pl⟩ W
  rw [show buyer ⟨2, flight, ar, ac, tr, tc, party, k, time, pl⟩ = 0 from by unfold buyer; rw [if_neg (by simp only; omega), if_neg (by simp only; omega)]] at this
  exact this)
 have HL := hide fun W (hW : Mod No w W) => rleft_any gf fo g cap p l k hk W ((h.mod hW).row) h.len (h.mod hW).slice (limited_bounds hp) (h.mod hW).lims
 have HNOW := hide fun W (hW : Mod No w W) => cell_keep hW hnow (fun x => x)
 have H := hide h
 have M0 := hide ((Mod.refl No w).alloc (.cells #[.int .i64 2, .int .i64 flight, .int .i64 ar, .int .i64 ac, .int .i64 tr, .int .i64 tc, .int .i64 party, .int .i64 k, .int .i64 time, .int .i64 pl.rows, .int .i64 pl.cols, .int .i64 pl.front, .int .i64 pl.l0, .int .i64 pl.l1, .int .i64 pl.l2, .int .i64 pl.l3] 41))
 have HB := hide (Has.new w #[.int .i64 2, .int .i64 flight, .int .i64 ar, .int .i64 ac, .int .i64 tr, .int .i64 tc, .int .i64 party, .int .i64 k, .int .i64 time, .int .i64 pl.rows, .int .i64 pl.cols, .int .i64 pl.front, .int .i64 pl.l0, .int .i64 pl.l1, .int .i64 pl.l2, .int .i64 pl.l3] 41)
 have HI := hide hse
 clear h hnow hp hse
 go_enter Tryz.func86, Tryz.ntmps86
 go_wp2_with fail
 refine ((unhide HW) _).mono ?_
 rintro e w1 ⟨rfl, m1⟩
 have M1 := hide ((unhide M0).trans m1)
 have hb := (m1.has (unhide HB) (fun x => x)).cell
 have lb := (m1.has (unhide HB) (fun x => x)).lt
 have BX1 := m1.has (unhide HB) (fun x => x)
 have R1 := (unhide H).row.mod (unhide M1) (fun x => x)
 have c2 : w1.cell? ⟨g, i * 6 + 2, none⟩ = some (.int .i64 s.st) := by obtain ⟨hi, he⟩ := unhide HI; rw [← he]; exact R1.st i hi
 have c3 : w1.cell? ⟨g, i * 6 + 3, none⟩ = some (.int .i64 s.pa) := by obtain ⟨hi, he⟩ := unhide HI; rw [← he]; exact R1.pa i hi
 have c4 : w1.cell? ⟨g, i * 6 + 4, none⟩ = some (.int .i64 s.cl) := by obtain ⟨hi, he⟩ := unhide HI; rw [← he]; exact R1.cl i hi
 have c5 : w1.cell? ⟨g, i * 6 + 5, none⟩ = some (.int .i64 s.un) := by obtain ⟨hi, he⟩ := unhide HI; rw [← he]; exact R1.un i hi
 have n1 := (unhide HNOW) _ (unhide M1)
 clear m1 R1 HW M0
 by_cases t1 : time ≤ now
 ·have d1 : decide (time ≤ now) = true := by simpa using t1
  have HE := hide (show holdE now time s.st (M.leftOf p l k) = 8 from if_pos (.inl t1))
  clear HL
  go_wp2_with fail
  go_quiet (fail)
  go_wp2
  go_ret
  rw [unhide HE, soldL_no (by omega)]
  exact ⟨rfl, SaleOk.same (unhide H) ((unhide M1).drewN _)⟩
 have d1 : decide (time ≤ now) = false := by simpa using t1
 have hw : IntKind.i64.wrap (time - now) = time - now := wrap_fit _ (by omega) (by omega)
 by_cases t2 : time - now > 100
 ·have d2 : decide (time - now > 100) = true := by simpa using t2
  have HE := hide (show holdE now time s.st (M.leftOf p l k) = 8 from if_pos (.inr (by omega)))
  clear HL
  go_wp2_with fail
  go_quiet (fail)
  go_wp2
  go_ret
  rw [unhide HE, soldL_no (by omega)]
  exact ⟨rfl, SaleOk.same (unhide H) ((unhide M1).drewN _)⟩
 have d2 : decide (time - now > 100) = false := by simpa using t2
 have HZ := hide (show holdE now time s.st (M.leftOf p l k) = saleN s.st (M.leftOf p l k) from if_neg (fun h => by rcases h with h | h; exact t1 h; exact t2 (by omega)))
 go_wp2_with fail
 go_quiet (fail)
 clear n1
 go_wp2_with fail
 go_quiet (fail)
 by_cases hs : s.st = 0
 case neg =>
  have ds : (s.st != 0) = true := by simpa using hs
  have HE := hide (show holdE now time s.st (M.leftOf p l k) = 9 from by rw [unhide HZ]; unfold saleN; rw [if_pos hs])
  clear HL HZ
  go_wp2
  go_ret
  rw [unhide HE, soldL_no (by omega)]
  exact ⟨rfl, SaleOk.same (unhide H) ((unhide M1).drewN _)⟩
 have ds : (s.st != 0) = false := by simpa using hs
 have BX := hide fun n => BX1.drewN n
 go_wp2_with fail
 refine ((unhide HL) _ ((unhide M1).drewN _)).mono ?_
 rintro e w2 ⟨rfl, m2⟩
 have M2 := hide (((unhide M1).drewN _).trans m2)
 have hb2 := (m2.has ((unhide BX) _) (fun x => x)).cell
 have R2 := hide ((unhide H).row.mod (unhide M2) (fun x => x))
 have r2 : w2.cell? ⟨g, i * 6 + 2, none⟩ = some (.int .i64 s.st) := by obtain ⟨hi, he⟩ := unhide HI; rw [← he]; exact (unhide R2).st i hi
 have r3 : w2.cell? ⟨g, i * 6 + 3, none⟩ = some (.int .i64 s.pa) := by obtain ⟨hi, he⟩ := unhide HI; rw [← he]; exact (unhide R2).pa i hi
 have r4 : w2.cell? ⟨g, i * 6 + 4, none⟩ = some (.int .i64 s.cl) := by obtain ⟨hi, he⟩ := unhide HI; rw [← he]; exact (unhide R2).cl i hi
 have r5 : w2.cell? ⟨g, i * 6 + 5, none⟩ = some (.int .i64 s.un) := by obtain ⟨hi, he⟩ := unhide HI; rw [← he]; exact (unhide R2).un i hi
 have fz := (unhide R2).froz
 have gb : g ≠ w.heap.size := by have := (unhide H).row.lt; omega
 have lp := leftOf_pos p l k
 clear hb m2 c2 c3 c4 c5 BX1 lb
 by_cases hl : M.leftOf p l k < 1
 ·have HE := hide (show holdE now time s.st (M.leftOf p l k) = 11 from by rw [unhide HZ]; unfold saleN; rw [if_neg (by simpa using hs), if_pos (by omega)])
  clear HZ
  go_wp2
  go_ret
  rw [unhide HE, soldL_no (by omega)]
  exact ⟨rfl, SaleOk.same (unhide H) (unhide M2)⟩
 ·have HE := hide (show holdE now time s.st (M.leftOf p l k) = 0 from by rw [unhide HZ]; unfold saleN; rw [if_neg (by simpa using hs), if_neg (by omega)])
  have S0 := hide (SaleOk.same (unhide H) (unhide M2))
  clear HZ lp
  go_wp2
  go_ret
  rw [unhide HE, soldL_yes]
  obtain ⟨hi, he⟩ := unhide HI
  have S1 : SaleOk w w2 gf fo g cap p l (l.set i s) := by rw [← he, List.set_getElem_self]; exact unhide S0
  exact ⟨rfl, ((((S1.put hi 2 (by omega) (.int .i64 2) ⟨s.row, s.col, 2, s.pa, s.cl, s.un⟩ rfl).put hi 3 (by omega) (.int .i64 party) ⟨s.row, s.col, 2, party, s.cl, s.un⟩ rfl).put hi 4 (by omega) (.int .i64 k) ⟨s.row, s.col, 2, party, k, s.un⟩ rfl).put hi 2 (by omega) (.int .i64 1) ⟨s.row, s.col, 1, party, k, s.un⟩ rfl).put hi 5 (by omega) (.int .i64 time) ⟨s.row, s.col, 1, party, k, time⟩ rfl⟩
theorem sale_book (wb gf fo g cap i : Nat) (p : Pla) (l : List Sea) (flight ar ac tr tc party time now : Int) (k : Nat) (pl : Pla) (w : World) (h : FlR w gf fo g cap p l) (s : Sea) (hse : ∃ hi : i < l.length, l[i] = s) (hp : p.limited = true) (hk : k < 4) (hpa : 1 ≤ party ∧ party ≤ 1000)
  (ht : -9223372036854775808 ≤ time ∧ time ≤ 9223372036854775807) (hn : 0 ≤ now ∧ now ≤ 4611686018427387000) (hnow : w.cell? ⟨wb, 1, none⟩ = some (.int .i64 now)) (hun : s.st = 0 → s.un = 0) :
  Calls Tryz.prog 86 #[.pointer (some ⟨wb, 0, none⟩), .pointer (some ⟨gf, fo, none⟩), .pointer (some ⟨g, i * 6, none⟩), .agg #[.int .i64 3, .int .i64 flight, .int .i64 ar, .int .i64 ac, .int .i64 tr, .int .i64 tc, .int .i64 party, .int .i64 k, .int .i64 time, .int .i64 pl.rows, .int .i64 pl.cols, .int .i64 pl.front, .int .i64 pl.l0, .int .i64 pl.l1, .int .i64 pl.l2, .int .i64 pl.l3]] w fun e w' => e = .returned (.int .i64 (bookE party k (M.leftOf p l k) s)) ∧
   SaleOk w w' gf fo g cap p l (soldL (bookE party k (M.leftOf p l k) s) l i ⟨s.row, s.col, 2, party, k, 0⟩) := by
 have HUN := hide hun
 clear hun
 have HW := hide fun W => (show Calls Tryz.prog 111 #[.agg #[.int .i64 3, .int .i64 flight, .int .i64 ar, .int .i64 ac, .int .i64 tr, .int .i64 tc, .int .i64 party, .int .i64 k, .int .i64 time, .int .i64 pl.rows, .int .i64 pl.cols, .int .i64 pl.front, .int .i64 pl.l0, .int .i64 pl.l1, .int .i64 pl.l2, .int .i64 pl.l3]] W fun e w' => e = .returned (.int .i64 0) ∧ Mod No W w' from by
  have := whom_any ⟨3, flight, ar, ac, tr, tc, party, k, time, pl⟩ W
  rw [show buyer ⟨3, flight, ar, ac, tr, tc, party, k, time, pl⟩ = 0 from by unfold buyer; rw [if_neg (by simp only; omega), if_neg (by simp only; omega)]] at this
  exact this)
 have HL := hide fun W (hW : Mod No w W) => rleft_any gf fo g cap p l k hk W ((h.mod hW).row) h.len (h.mod hW).slice (limited_bounds hp) (h.mod hW).lims
 have HNOW := hide fun W (hW : Mod No w W) => cell_keep hW hnow (fun x => x)
 have H := hide h
 have M0 := hide ((Mod.refl No w).alloc (.cells #[.int .i64 3, .int .i64 flight, .int .i64 ar, .int .i64 ac, .int .i64 tr, .int .i64 tc, .int .i64 party, .int .i64 k, .int .i64 time, .int .i64 pl.rows, .int .i64 pl.cols, .int .i64 pl.front, .int .i64 pl.l0, .int .i64 pl.l1, .int .i64 pl.l2, .int .i64 pl.l3] 41))
 have HB := hide (Has.new w #[.int .i64 3, .int .i64 flight, .int .i64 ar, .int .i64 ac, .int .i64 tr, .int .i64 tc, .int .i64 party, .int .i64 k, .int .i64 time, .int .i64 pl.rows, .int .i64 pl.cols, .int .i64 pl.front, .int .i64 pl.l0, .int .i64 pl.l1, .int .i64 pl.l2, .int .i64 pl.l3] 41)
 have HI := hide hse
 clear h hnow hp hse
 go_enter Tryz.func86, Tryz.ntmps86
 go_wp2_with fail
 refine ((unhide HW) _).mono ?_
 rintro e w1 ⟨rfl, m1⟩
 have M1 := hide ((unhide M0).trans m1)
 have hb := (m1.has (unhide HB) (fun x => x)).cell
 have lb := (m1.has (unhide HB) (fun x => x)).lt
 have BX1 := m1.has (unhide HB) (fun x => x)
 have R1 := (unhide H).row.mod (unhide M1) (fun x => x)
 have c2 : w1.cell? ⟨g, i * 6 + 2, none⟩ = some (.int .i64 s.st) := by obtain ⟨hi, he⟩ := unhide HI; rw [← he]; exact R1.st i hi
 have c3 : w1.cell? ⟨g, i * 6 + 3, none⟩ = some (.int .i64 s.pa) := by obtain ⟨hi, he⟩ := unhide HI; rw [← he]; exact R1.pa i hi
 have c4 : w1.cell? ⟨g, i * 6 + 4, none⟩ = some (.int .i64 s.cl) := by obtain ⟨hi, he⟩ := unhide HI; rw [← he]; exact R1.cl i hi
 have c5 : w1.cell? ⟨g, i * 6 + 5, none⟩ = some (.int .i64 s.un) := by obtain ⟨hi, he⟩ := unhide HI; rw [← he]; exact R1.un i hi
 have n1 := (unhide HNOW) _ (unhide M1)
 clear m1 R1 HW M0
 clear HNOW
 have fz1 := hide ((unhide H).row.mod (unhide M1) (fun x => x)).froz
 go_wp2_with fail
 go_quiet (fail)
 clear n1
 by_cases hs1 : s.st = 1
 ·have d1 : (s.st == 1) = true := by simpa using hs1
  by_cases hs2 : s.pa = party
  ·have d2 : (s.pa == party) = true := by simpa using hs2
   by_cases hs3 : s.cl = (k : Int)
   ·have d3 : (s.cl == (k : Int)) = true := by simpa using hs3
    have HE := hide (show bookE party k (M.leftOf p l k) s = 0 from if_pos ⟨hs1, hs2, hs3⟩)
    have fz2 : ∀ (n o : Nat), (w1.drewN n).frozen? ⟨g, o, none⟩ = false := fun n o => (unhide fz1) o
    have S0 := hide fun n => SaleOk.same (unhide H) ((unhide M1).drewN n)
    have HS := hide (show (⟨s.row, s.col, 2, s.pa, s.cl, 0⟩ : Sea) = ⟨s.row, s.col, 2, party, k, 0⟩ from by rw [hs2, hs3])
    clear HL hs1 hs2 hs3
    go_wp2_with fail
    go_quiet (fail)
    clear c3 c4 hb
    have fz := unhide fz1
    go_wp2
    go_ret
    rw [unhide HE, soldL_yes, ← unhide HS]
    obtain ⟨hi, he⟩ := unhide HI
    have S1 : ∀ n, SaleOk w (w1.drewN n) gf fo g cap p l (l.set i s) := fun n => by rw [← he, List.set_getElem_self]; exact (unhide S0) n
    exact ⟨rfl, ((S1 _).put hi 2 (by omega) (.int .i64 2) ⟨s.row, s.col, 2, s.pa, s.cl, s.un⟩ rfl).put hi 5 (by omega) (.int .i64 0) ⟨s.row, s.col, 2, s.pa, s.cl, 0⟩ rfl⟩
   ·have d3 : (s.cl == (k : Int)) = false := by simpa using hs3
    have ds : (s.st != 0) = true := by simp [hs1]
    have HE := hide (show bookE party k (M.leftOf p l k) s = 9 from by unfold bookE; rw [if_neg (fun h => hs3 h.2.2)]; unfold saleN; rw [if_pos (by omega)])
    clear HL hs1 hs2 hs3
    go_wp2_with fail
    go_quiet (fail)
    go_wp2
    go_ret
    rw [unhide HE, soldL_no (by omega)]
    exact ⟨rfl, SaleOk.same (unhide H) ((unhide M1).drewN _)⟩
  ·have d2 : (s.pa == party) = false := by simpa using hs2
   have ds : (s.st != 0) = true := by simp [hs1]
   have HE := hide (show bookE party k (M.leftOf p l k) s = 9 from by unfold bookE; rw [if_neg (fun h => hs2 h.2.1)]; unfold saleN; rw [if_pos (by omega)])
   clear HL hs1 hs2
   go_wp2_with fail
   go_quiet (fail)
   go_wp2
   go_ret
   rw [unhide HE, soldL_no (by omega)]
   exact ⟨rfl, SaleOk.same (unhide H) ((unhide M1).drewN _)⟩
 have d1 : (s.st == 1) = false := by simpa using hs1
 have HZ := hide (show bookE party k (M.leftOf p l k) s = saleN s.st (M.leftOf p l k) from if_neg (fun h => hs1 h.1))
 go_wp2_with fail
 go_quiet (fail)
 by_cases hs : s.st = 0
 case neg =>
  have ds : (s.st != 0) = true := by simpa using hs
  have HE := hide (show bookE party k (M.leftOf p l k) s = 9 from by rw [unhide HZ]; unfold saleN; rw [if_pos hs])
  clear HL HZ
  go_wp2
  go_ret
  rw [unhide HE, soldL_no (by omega)]
  exact ⟨rfl, SaleOk.same (unhide H) ((unhide M1).drewN _)⟩
 have ds : (s.st != 0) = false := by simpa using hs
 have BX := hide fun n => BX1.drewN n
 go_wp2_with fail
 refine ((unhide HL) _ ((unhide M1).drewN _)).mono ?_
 rintro e w2 ⟨rfl, m2⟩
 have M2 := hide (((unhide M1).drewN _).trans m2)
 have hb2 := (m2.has ((unhide BX) _) (fun x => x)).cell
 have R2 := hide ((unhide H).row.mod (unhide M2) (fun x => x))
 have r2 : w2.cell? ⟨g, i * 6 + 2, none⟩ = some (.int .i64 s.st) := by obtain ⟨hi, he⟩ := unhide HI; rw [← he]; exact (unhide R2).st i hi
 have r3 : w2.cell? ⟨g, i * 6 + 3, none⟩ = some (.int .i64 s.pa) := by obtain ⟨hi, he⟩ := unhide HI; rw [← he]; exact (unhide R2).pa i hi
 have r4 : w2.cell? ⟨g, i * 6 + 4, none⟩ = some (.int .i64 s.cl) := by obtain ⟨hi, he⟩ := unhide HI; rw [← he]; exact (unhide R2).cl i hi
 have fz := (unhide R2).froz
 have gb : g ≠ w.heap.size := by have := (unhide H).row.lt; omega
 have lp := leftOf_pos p l k
 clear hb m2 c2 c3 c4 c5 BX1 lb
 by_cases hl : M.leftOf p l k < 1
 ·have HE := hide (show bookE party k (M.leftOf p l k) s = 11 from by rw [unhide HZ]; unfold saleN; rw [if_neg (by simpa using hs), if_pos (by omega)])
  clear HZ
  go_wp2
  go_ret
  rw [unhide HE, soldL_no (by omega)]
  exact ⟨rfl, SaleOk.same (unhide H) (unhide M2)⟩
 ·have HE := hide (show bookE party k (M.leftOf p l k) s = 0 from by rw [unhide HZ]; unfold saleN; rw [if_neg (by simpa using hs), if_neg (by omega)])
  have S0 := hide (SaleOk.same (unhide H) (unhide M2))
  have HU := hide ((unhide HUN) hs)
  clear HZ lp
  go_wp2
  go_ret
  rw [unhide HE, soldL_yes]
  obtain ⟨hi, he⟩ := unhide HI
  have S1 : SaleOk w w2 gf fo g cap p l (l.set i s) := by rw [← he, List.set_getElem_self]; exact unhide S0
  have S2 := ((S1.put hi 2 (by omega) (.int .i64 2) ⟨s.row, s.col, 2, s.pa, s.cl, s.un⟩ rfl).put hi 3 (by omega) (.int .i64 party) ⟨s.row, s.col, 2, party, s.cl, s.un⟩ rfl).put hi 4 (by omega) (.int .i64 k) ⟨s.row, s.col, 2, party, k, s.un⟩ rfl
  rw [unhide HU] at S2
  exact ⟨rfl, S2⟩
theorem RowS.put {w : World} {g cap : Nat} {l : List Sea} {i : Nat} {s0 : Sea} (h : RowS w g cap (l.set i s0)) (hi : i < l.length) (j : Nat) (hj : j < 6) (v : Value) (s : Sea) (hs : seaV s = (seaV s0).setIfInBounds j v) :
  RowS (w.setCell ⟨g, i * 6 + j, none⟩ v) g cap (l.set i s) := by
 have := h.set i (by simpa using hi) j hj v s (by simpa using hs)
 rwa [List.set_set] at this
theorem RowS.put6 {w : World} {g cap : Nat} {l : List Sea} (h : RowS w g cap l) (i : Nat) (hi : i < l.length) (s : Sea) :
  RowS ((((((w.setCell ⟨g, i * 6, none⟩ (.int .i64 s.row)).setCell ⟨g, i * 6 + 1, none⟩ (.int .i64 s.col)).setCell ⟨g, i * 6 + 2, none⟩ (.int .i64 s.st)).setCell ⟨g, i * 6 + 3, none⟩ (.int .i64 s.pa)).setCell ⟨g, i * 6 + 4, none⟩ (.int .i64 s.cl)).setCell ⟨g, i * 6 + 5, none⟩ (.int .i64 s.un)) g cap (l.set i s) := by
 have h0 : RowS w g cap (l.set i l[i]) := by rw [List.set_getElem_self]; exact h
 exact (((((h0.put hi 0 (by omega) (.int .i64 s.row) ⟨s.row, l[i].col, l[i].st, l[i].pa, l[i].cl, l[i].un⟩ rfl).put hi 1 (by omega) (.int .i64 s.col) ⟨s.row, s.col, l[i].st, l[i].pa, l[i].cl, l[i].un⟩ rfl).put hi 2 (by omega) (.int .i64 s.st) ⟨s.row, s.col, s.st, l[i].pa, l[i].cl, l[i].un⟩ rfl).put hi 3 (by omega) (.int .i64 s.pa) ⟨s.row, s.col, s.st, s.pa, l[i].cl, l[i].un⟩ rfl).put hi 4 (by omega) (.int .i64 s.cl) ⟨s.row, s.col, s.st, s.pa, s.cl, l[i].un⟩ rfl).put hi 5 (by omega) (.int .i64 s.un) s rfl
theorem Mod.put6 {S : Nat → Prop} {a w : World} (h : Mod S a w) {g : Nat} (hg : S g) (i : Nat) (v0 v1 v2 v3 v4 v5 : Value) :
  Mod S a ((((((w.setCell ⟨g, i * 6, none⟩ v0).setCell ⟨g, i * 6 + 1, none⟩ v1).setCell ⟨g, i * 6 + 2, none⟩ v2).setCell ⟨g, i * 6 + 3, none⟩ v3).setCell ⟨g, i * 6 + 4, none⟩ v4).setCell ⟨g, i * 6 + 5, none⟩ v5) :=
 (((((h.setCell (p := ⟨g, i * 6, none⟩) (.inl hg) _).setCell (p := ⟨g, i * 6 + 1, none⟩) (.inl hg) _).setCell (p := ⟨g, i * 6 + 2, none⟩) (.inl hg) _).setCell (p := ⟨g, i * 6 + 3, none⟩) (.inl hg) _).setCell (p := ⟨g, i * 6 + 4, none⟩) (.inl hg) _).setCell (p := ⟨g, i * 6 + 5, none⟩) (.inl hg) _
theorem move_none (gf fo g cap i : Nat) (p : Pla) (l : List Sea) (party : Int) (w : World) (h : FlR w gf fo g cap p l) :
  Calls Tryz.prog 88 #[.pointer (some ⟨gf, fo, none⟩), .int .i64 i, .int .i64 (-1), .int .i64 party] w fun e w' => e = .returned (.int .i64 5) ∧ SaleOk w w' gf fo g cap p l l := by
 have H := hide h
 clear h
 go_enter Tryz.func88, Tryz.ntmps88
 go_wp2
 go_ret
 exact ⟨rfl, SaleOk.same (unhide H) (Mod.refl _ _)⟩
theorem move_not (gf fo g cap i j : Nat) (p : Pla) (l : List Sea) (party : Int) (w : World) (h : FlR w gf fo g cap p l) (s t : Sea) (hi : i < l.length) (hs : l[i] = s) (hj : j < l.length) (ht : l[j] = t) (e : Int)
  (he : e ≠ 0) (hcase : e = ownerN s.st s.pa party ∨ (ownerN s.st s.pa party = 0 ∧ t.st ≠ 0 ∧ e = 9)) :
  Calls Tryz.prog 88 #[.pointer (some ⟨gf, fo, none⟩), .int .i64 i, .int .i64 j, .int .i64 party] w fun e' w' => e' = .returned (.int .i64 e) ∧ SaleOk w w' gf fo g cap p l l := by
 have hsl := h.slice
 have HT := hide fun W => taken_any s party W
 have c0 := h.row.row i hi
 have c1 := h.row.col i hi
 have c2 := h.row.st i hi
 have c3 := h.row.pa i hi
 have c4 := h.row.cl i hi
 have c5 := h.row.un i hi
 have t2 := h.row.st j hj
 rw [hs] at c0 c1 c2 c3 c4 c5
 rw [ht] at t2
 have T2 := hide fun W (hW : Mod No w W) => cell_keep hW t2 (fun x => x)
 have SL := hide fun W (hW : Mod No w W) => cell_keep hW hsl (fun x => x)
 have hij : (i : Int) < (l.length : Int) ∧ (j : Int) < (l.length : Int) := by omega
 have hi1 := hij.1
 have hj1 := hij.2
 have h0i : (0 : Int) ≤ i := by omega
 have h0j : (0 : Int) ≤ j := by omega
 have hn0 : ¬ (j : Int) < 0 := by omega
 have H := hide h
 clear h hs ht t2 hi hj hij
 unfold seaV at HT
 rcases hcase with rfl | ⟨h1, h2, rfl⟩
 ·generalize ownerN s.st s.pa party = ee at *
  have hd : (ee != 0) = true := by simpa using he
  clear he
  go_enter Tryz.func88, Tryz.ntmps88
  go_wp2_with fail
  refine ((unhide HT) _).mono ?_
  rintro e' w1 ⟨rfl, m1⟩
  go_wp2
  go_ret
  exact ⟨rfl, SaleOk.same (unhide H) m1⟩
 ·rw [h1] at HT
  have hd : (t.st != 0) = true := by simpa using h2
  clear h1 h2 he
  go_enter Tryz.func88, Tryz.ntmps88
  go_wp2_with fail
  refine ((unhide HT) _).mono ?_
  rintro e' w1 ⟨rfl, m1⟩
  have t21 := (unhide T2) _ m1
  have sl1 := (unhide SL) _ m1
  clear c0 c1 c2 c3 c4 c5
  go_wp2
  go_ret
  exact ⟨rfl, SaleOk.same (unhide H) m1⟩
theorem move_yes (gf fo g cap i j : Nat) (p : Pla) (l : List Sea) (party : Int) (w : World) (h : FlR w gf fo g cap p l) (s t : Sea) (hi : i < l.length) (hs : l[i] = s) (hj : j < l.length) (ht : l[j] = t) (hij0 : i ≠ j)
  (h1 : ownerN s.st s.pa party = 0) (h2 : t.st = 0) :
  Calls Tryz.prog 88 #[.pointer (some ⟨gf, fo, none⟩), .int .i64 i, .int .i64 j, .int .i64 party] w fun e' w' => e' = .returned (.int .i64 0) ∧
   SaleOk w w' gf fo g cap p l ((l.set j ⟨t.row, t.col, s.st, s.pa, s.cl, s.un⟩).set i s.freed) := by
 have hsl := h.slice
 have hgl := h.row.lt
 have HT := hide fun W => taken_any s party W
 rw [h1] at HT
 have c0 := h.row.row i hi
 have c1 := h.row.col i hi
 have c2 := h.row.st i hi
 have c3 := h.row.pa i hi
 have c4 := h.row.cl i hi
 have c5 := h.row.un i hi
 rw [hs] at c0 c1 c2 c3 c4 c5
 have HR := hide h.row
 have NE := hide h.ne
 have SL := hide fun (S : Nat → Prop) W (hW : Mod S w W) (hS : ¬ S gf) => cell_keep hW hsl hS
 have hij : (i : Int) < (l.length : Int) ∧ (j : Int) < (l.length : Int) := by omega
 have hi1 := hij.1
 have hj1 := hij.2
 have h0i : (0 : Int) ≤ i := by omega
 have h0j : (0 : Int) ≤ j := by omega
 have hn0 : ¬ (j : Int) < 0 := by omega
 have HI := hide hi
 have HJ := hide hj
 have HS := hide hs
 have HTT := hide ht
 have H2 := hide h2
 have HIJ := hide hij0
 clear h hs ht hij h1 h2 hij0
 unfold seaV at HT
 go_enter Tryz.func88, Tryz.ntmps88
 go_wp2_with fail
 refine ((unhide HT) _).mono ?_
 rintro e' w1 ⟨rfl, m1⟩
 have R1 := (unhide HR).mod m1 (fun x => x)
 have d0 : w1.cell? ⟨g, j * 6, none⟩ = some (.int .i64 t.row) := by have := R1.row j (unhide HJ); rw [unhide HTT] at this; exact this
 have d1 : w1.cell? ⟨g, j * 6 + 1, none⟩ = some (.int .i64 t.col) := by have := R1.col j (unhide HJ); rw [unhide HTT] at this; exact this
 have d2 : w1.cell? ⟨g, j * 6 + 2, none⟩ = some (.int .i64 0) := by have := R1.st j (unhide HJ); rw [unhide HTT, unhide H2] at this; exact this
 have sl1 := (unhide SL) No _ m1 (fun x => x)
 have M1 := hide m1
 have RR1 := hide R1
 clear c0 c1 c2 c3 c4 c5 m1 R1 HT HR
 go_upto_region 9 with fail
 have BB := hide (Has.new w1 #[.int .i64 t.row, .int .i64 t.col] 36)
 have R2 := (unhide RR1).mod ((Mod.refl No w1).alloc (.cells #[.int .i64 t.row, .int .i64 t.col] 36)) (fun x => x)
 have M2 := hide ((unhide M1).alloc (.cells #[.int .i64 t.row, .int .i64 t.col] 36))
 have gb : g < w1.heap.size := (unhide RR1).lt
 generalize hbb : w1.heap.size = bb at *
 generalize w1.alloc (.cells #[.int .i64 t.row, .int .i64 t.col] 36) = w2 at *
 clear d0 d1 d2 sl1 RR1 M1
 go_cut [] (fun wx => Hid (RowS wx g cap (l.set j s)) ∧ Hid (Mod (fun k => k = g) w wx) ∧ Hid (Has wx bb #[.int .i64 t.row, .int .i64 t.col] 36))
 case first =>
  have sl2 := (unhide SL) No _ (unhide M2) (fun x => x)
  have c0 : w2.cell? ⟨g, i * 6, none⟩ = some (.int .i64 s.row) := by have := R2.row i (unhide HI); rw [unhide HS] at this; exact this
  have c1 : w2.cell? ⟨g, i * 6 + 1, none⟩ = some (.int .i64 s.col) := by have := R2.col i (unhide HI); rw [unhide HS] at this; exact this
  have c2 : w2.cell? ⟨g, i * 6 + 2, none⟩ = some (.int .i64 s.st) := by have := R2.st i (unhide HI); rw [unhide HS] at this; exact this
  have c3 : w2.cell? ⟨g, i * 6 + 3, none⟩ = some (.int .i64 s.pa) := by have := R2.pa i (unhide HI); rw [unhide HS] at this; exact this
  have c4 : w2.cell? ⟨g, i * 6 + 4, none⟩ = some (.int .i64 s.cl) := by have := R2.cl i (unhide HI); rw [unhide HS] at this; exact this
  have c5 : w2.cell? ⟨g, i * 6 + 5, none⟩ = some (.int .i64 s.un) := by have := R2.un i (unhide HI); rw [unhide HS] at this; exact this
  have e0 := R2.row j (unhide HJ)
  have e1 := R2.col j (unhide HJ)
  have e2 := R2.st j (unhide HJ)
  have e3 := R2.pa j (unhide HJ)
  have e4 := R2.cl j (unhide HJ)
  have e5 := R2.un j (unhide HJ)
  have fz := R2.froz
  have RR := hide R2
  have BN : bb ≠ g := by omega
  have FIN := hide (show Hid (RowS ((((((w2.setCell ⟨g, j * 6, none⟩ (.int .i64 s.row)).setCell ⟨g, j * 6 + 1, none⟩ (.int .i64 s.col)).setCell ⟨g, j * 6 + 2, none⟩ (.int .i64 s.st)).setCell ⟨g, j * 6 + 3, none⟩ (.int .i64 s.pa)).setCell ⟨g, j * 6 + 4, none⟩ (.int .i64 s.cl)).setCell ⟨g, j * 6 + 5, none⟩ (.int .i64 s.un)).drew g cap (l.set j s)) ∧
    Hid (Mod (fun k => k = g) w ((((((w2.setCell ⟨g, j * 6, none⟩ (.int .i64 s.row)).setCell ⟨g, j * 6 + 1, none⟩ (.int .i64 s.col)).setCell ⟨g, j * 6 + 2, none⟩ (.int .i64 s.st)).setCell ⟨g, j * 6 + 3, none⟩ (.int .i64 s.pa)).setCell ⟨g, j * 6 + 4, none⟩ (.int .i64 s.cl)).setCell ⟨g, j * 6 + 5, none⟩ (.int .i64 s.un)).drew) ∧
    Hid (Has ((((((w2.setCell ⟨g, j * 6, none⟩ (.int .i64 s.row)).setCell ⟨g, j * 6 + 1, none⟩ (.int .i64 s.col)).setCell ⟨g, j * 6 + 2, none⟩ (.int .i64 s.st)).setCell ⟨g, j * 6 + 3, none⟩ (.int .i64 s.pa)).setCell ⟨g, j * 6 + 4, none⟩ (.int .i64 s.cl)).setCell ⟨g, j * 6 + 5, none⟩ (.int .i64 s.un)).drew bb #[.int .i64 t.row, .int .i64 t.col] 36) from
   ⟨((unhide RR).put6 j (unhide HJ) s).mod (Mod.refl No _).drew (fun x => x), (((unhide M2).mono (S' := fun k => k = g) (fun _ _ x => x.elim)).put6 (S := fun k => k = g) rfl j _ _ _ _ _ _).drew, (((((((unhide BB).set_ne (a := ⟨g, j * 6, none⟩) BN _).set_ne (a := ⟨g, j * 6 + 1, none⟩) BN _).set_ne (a := ⟨g, j * 6 + 2, none⟩) BN _).set_ne (a := ⟨g, j * 6 + 3, none⟩) BN _).set_ne (a := ⟨g, j * 6 + 4, none⟩) BN _).set_ne (a := ⟨g, j * 6 + 5, none⟩) BN _).drew⟩)
  clear R2 RR M2 BB BN
  go_region
  all_goals go_wp2
  all_goals go_meet
  all_goals exact unhide FIN
 case rest =>
  obtain ⟨R3, M3, B3⟩ := hcut
  clear R2 M2 BB
  generalize wc = w3 at *
  clear w2
  go_upto_region 10 with fail
  go_cut [] (fun wx => Hid (RowS wx g cap (l.set j ⟨t.row, t.col, s.st, s.pa, s.cl, s.un⟩)) ∧ Hid (Mod (fun k => k = g) w wx))
  case first =>
   have sl3 := (unhide SL) (fun k => k = g) _ (unhide M3) (unhide NE)
   have hj3 : j < (l.set j s).length := by simpa using hj
   have e0 := (unhide R3).row j hj3
   have e1 := (unhide R3).col j hj3
   have b0 : w3.cell? ⟨bb, 0, none⟩ = some (.int .i64 t.row) := (unhide B3).cell 0
   have b1 : w3.cell? ⟨bb, 1, none⟩ = some (.int .i64 t.col) := (unhide B3).cell 1
   have fz := (unhide R3).froz
   have FIN := hide (show Hid (RowS ((w3.setCell ⟨g, j * 6, none⟩ (.int .i64 t.row)).setCell ⟨g, j * 6 + 1, none⟩ (.int .i64 t.col)).drew g cap (l.set j ⟨t.row, t.col, s.st, s.pa, s.cl, s.un⟩)) ∧ Hid (Mod (fun k => k = g) w ((w3.setCell ⟨g, j * 6, none⟩ (.int .i64 t.row)).setCell ⟨g, j * 6 + 1, none⟩ (.int .i64 t.col)).drew) from
    ⟨(((unhide R3).put hj 0 (by omega) (.int .i64 t.row) ⟨t.row, s.col, s.st, s.pa, s.cl, s.un⟩ rfl).put hj 1 (by omega) (.int .i64 t.col) ⟨t.row, t.col, s.st, s.pa, s.cl, s.un⟩ rfl).mod (Mod.refl No _).drew (fun x => x),
     (((unhide M3).setCell (p := ⟨g, j * 6, none⟩) (.inl rfl) _).setCell (p := ⟨g, j * 6 + 1, none⟩) (.inl rfl) _).drew⟩)
   clear R3 M3 B3
   go_region
   all_goals go_wp2
   all_goals go_meet
   all_goals exact unhide FIN
  case rest =>
   obtain ⟨R4, M4⟩ := hcut
   clear R3 M3 B3
   generalize wc = w4 at *
   have sl4 := (unhide SL) (fun k => k = g) _ (unhide M4) (unhide NE)
   have hi4 : i < (l.set j ⟨t.row, t.col, s.st, s.pa, s.cl, s.un⟩).length := by simpa using hi
   have hel : (l.set j ⟨t.row, t.col, s.st, s.pa, s.cl, s.un⟩)[i] = s := by rw [List.getElem_set_ne (fun e => (unhide HIJ) e.symm)]; exact unhide HS
   have e0 := (unhide R4).row i hi4
   have e1 := (unhide R4).col i hi4
   have e2 := (unhide R4).st i hi4
   have e3 := (unhide R4).pa i hi4
   have e4 := (unhide R4).cl i hi4
   have e5 := (unhide R4).un i hi4
   rw [hel] at e0 e1 e2 e3 e4 e5
   have fz := (unhide R4).froz
   have FIN := hide (show SaleOk w ((((((w4.setCell ⟨g, i * 6, none⟩ (.int .i64 s.row)).setCell ⟨g, i * 6 + 1, none⟩ (.int .i64 s.col)).setCell ⟨g, i * 6 + 2, none⟩ (.int .i64 0)).setCell ⟨g, i * 6 + 3, none⟩ (.int .i64 0)).setCell ⟨g, i * 6 + 4, none⟩ (.int .i64 0)).setCell ⟨g, i * 6 + 5, none⟩ (.int .i64 0)).drew gf fo g cap p l ((l.set j ⟨t.row, t.col, s.st, s.pa, s.cl, s.un⟩).set i s.freed) from
    ⟨((unhide R4).put6 i hi4 s.freed).mod (Mod.refl No _).drew (fun x => x), ((unhide M4).put6 (S := fun k => k = g) rfl i _ _ _ _ _ _).drew⟩)
   clear R4 M4 hel
   go_wp2_with fail
   go_region
   all_goals go_wp2
   all_goals go_ret
   all_goals exact ⟨rfl, unhide FIN⟩
end Go.Proofs.YthhibagcpjeihaaGreat
