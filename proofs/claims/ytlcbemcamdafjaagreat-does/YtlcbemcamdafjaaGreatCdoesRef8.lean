import Derived.Test.YtlcbemcamdafjaaGreatCdoesLook8Ref7
import Derived.Test.YtlcbemcamdafjaaGreatCdoesCellsRowS
/- The document's answer: a hold, a booking. -/
namespace Go.Proofs.YtlcbemcamdafjaaGreat
open Go.RowKit
open M
set_option linter.unusedVariables false
set_option linter.unusedSimpArgs false
set_option maxRecDepth 100000
set_option maxHeartbeats 8000000

theorem RowS.froz {w : World} {g cap : Nat} {l : List Sea} (h : RowS w g cap l) (o : Nat) : w.frozen? ⟨g, o, none⟩ = false := by
  obtain ⟨cur, h1, _⟩ := h.cur
  exact h1.frozen o
theorem leftOf_pos (p : Pla) (l : List Sea) (k : Nat) : 0 ≤ M.leftOf p l k := by unfold M.leftOf; omega

def holdE (now time st lf : Int) : Int := if time ≤ now ∨ time > now + 100 then 8 else saleN st lf
def bookE (party cls lf : Int) (s : Sea) : Int := if s.st = 1 ∧ s.pa = party ∧ s.cl = cls then 0 else saleN s.st lf
/-- The seats behind a command that may have been refused. -/
def soldL (e : Int) (l : List Sea) (i : Nat) (s : Sea) : List Sea := if e = 0 then l.set i s else l
theorem soldL_no {e : Int} (h : e ≠ 0) (l : List Sea) (i : Nat) (s : Sea) : soldL e l i s = l := if_neg h
theorem soldL_yes (l : List Sea) (i : Nat) (s : Sea) : soldL 0 l i s = l.set i s := rfl

theorem SaleOk.put {w w' : World} {gf fo g cap : Nat} {p : Pla} {l l0 : List Sea} {i : Nat} {s0 : Sea} (h : SaleOk w w' gf fo g cap p l (l0.set i s0)) (hi : i < l0.length) (j : Nat) (hj : j < 6) (v : Value) (s : Sea) (hs : seaV s = (seaV s0).setIfInBounds j v) :
    SaleOk w (w'.setCell ⟨g, i * 6 + j, none⟩ v) gf fo g cap p l (l0.set i s) := by
  have := h.set i (by simpa using hi) j hj v s (by simpa using hs)
  rwa [List.set_set] at this

theorem sale_hold (wb gf fo g cap i : Nat) (p : Pla) (l : List Sea) (flight ar ac tr tc party time now : Int) (k : Nat) (pl : Pla) (w : World) (h : FlR w gf fo g cap p l) (s : Sea) (hse : ∃ hi : i < l.length, l[i] = s) (hp : p.limited = true) (hk : k < 4) (hpa : 1 ≤ party ∧ party ≤ 1000)
    (ht : -9223372036854775808 ≤ time ∧ time ≤ 9223372036854775807) (hn : 0 ≤ now ∧ now ≤ 4611686018427387000) (hnow : w.cell? ⟨wb, 1, none⟩ = some (.int .i64 now))  :
    Calls Tryz.prog 75 #[.pointer (some ⟨wb, 0, none⟩), .pointer (some ⟨gf, fo, none⟩), .pointer (some ⟨g, i * 6, none⟩), .agg #[.int .i64 2, .int .i64 flight, .int .i64 ar, .int .i64 ac, .int .i64 tr, .int .i64 tc, .int .i64 party, .int .i64 k, .int .i64 time, .int .i64 pl.rows, .int .i64 pl.cols, .int .i64 pl.front, .int .i64 pl.l0, .int .i64 pl.l1, .int .i64 pl.l2, .int .i64 pl.l3]] w fun e w' => e = .returned (.int .i64 (holdE now time s.st (M.leftOf p l k))) ∧
      SaleOk w w' gf fo g cap p l (soldL (holdE now time s.st (M.leftOf p l k)) l i ⟨s.row, s.col, 1, party, k, time⟩) := by
  have HW := hide fun W => (show Calls Tryz.prog 92 #[.agg #[.int .i64 2, .int .i64 flight, .int .i64 ar, .int .i64 ac, .int .i64 tr, .int .i64 tc, .int .i64 party, .int .i64 k, .int .i64 time, .int .i64 pl.rows, .int .i64 pl.cols, .int .i64 pl.front, .int .i64 pl.l0, .int .i64 pl.l1, .int .i64 pl.l2, .int .i64 pl.l3]] W fun e w' => e = .returned (.int .i64 0) ∧ Mod No W w' from by
    have := whom_any ⟨2, flight, ar, ac, tr, tc, party, k, time, pl⟩ W
    rw [show buyer ⟨2, flight, ar, ac, tr, tc, party, k, time, pl⟩ = 0 from by unfold buyer; rw [if_neg (by simp only; omega), if_neg (by simp only; omega)]] at this
    exact this)
  have HL := hide fun W (hW : Mod No w W) => rleft_any gf fo g cap p l k hk W ((h.mod hW).row) h.len (h.mod hW).slice (limited_bounds hp) (h.mod hW).lims
  have HNOW := hide fun W (hW : Mod No w W) => cell_keep hW hnow (fun x => x)
  have H := hide h
  have M0 := hide ((Mod.refl No w).alloc (.cells #[.int .i64 2, .int .i64 flight, .int .i64 ar, .int .i64 ac, .int .i64 tr, .int .i64 tc, .int .i64 party, .int .i64 k, .int .i64 time, .int .i64 pl.rows, .int .i64 pl.cols, .int .i64 pl.front, .int .i64 pl.l0, .int .i64 pl.l1, .int .i64 pl.l2, .int .i64 pl.l3] 41))
  have HB := hide (Has.new w #[.int .i64 2, .int .i64 flight, .int .i64 ar, .int .i64 ac, .int .i64 tr, .int .i64 tc, .int .i64 party, .int .i64 k, .int .i64 time, .int .i64 pl.rows, .int .i64 pl.cols, .int .i64 pl.front, .int .i64 pl.l0, .int .i64 pl.l1, .int .i64 pl.l2, .int .i64 pl.l3] 41)
  have HI := hide hse
  clear h hnow hp hse
  go_enter Tryz.func75, Tryz.ntmps75
  go_wp2_with fail
  refine ((unhide HW) _).mono ?_
  rintro e w1 ⟨rfl, m1⟩
  have M1 := hide ((unhide M0).trans m1)
  have hb := (m1.has (unhide HB) (fun x => x)).cell
  have lb := (m1.has (unhide HB) (fun x => x)).lt
  have BX1 := m1.has (unhide HB) (fun x => x)
  have R1 := (unhide H).row.mod (unhide M1) (fun x => x)
  have c2 : w1.cell? ⟨g, i * 6 + 2, none⟩ = some (.int .i64 s.st) := by obtain ⟨hi, he⟩ := unhide HI; rw [← he]; exact R1.st i hi
  have c3 : w1.cell? ⟨g, i * 6 + 3, none⟩ = some (.int .i64 s.pa) := by obtain ⟨hi, he⟩ := unhide HI; rw [← he]; exact R1.pa i hi
  have c4 : w1.cell? ⟨g, i * 6 + 4, none⟩ = some (.int .i64 s.cl) := by obtain ⟨hi, he⟩ := unhide HI; rw [← he]; exact R1.cl i hi
  have c5 : w1.cell? ⟨g, i * 6 + 5, none⟩ = some (.int .i64 s.un) := by obtain ⟨hi, he⟩ := unhide HI; rw [← he]; exact R1.un i hi
  have n1 := (unhide HNOW) _ (unhide M1)
  clear m1 R1 HW M0
  by_cases t1 : time ≤ now
  · have d1 : decide (time ≤ now) = true := by simpa using t1
    have HE := hide (show holdE now time s.st (M.leftOf p l k) = 8 from if_pos (.inl t1))
    clear HL
    go_wp2_with fail
    go_quiet (fail)
    go_wp2
    go_ret
    rw [unhide HE, soldL_no (by omega)]
    exact ⟨rfl, SaleOk.same (unhide H) ((unhide M1).drewN _)⟩
  have d1 : decide (time ≤ now) = false := by simpa using t1
  have hw : IntKind.i64.wrap (time - now) = time - now := wrap_fit _ (by omega) (by omega)
  by_cases t2 : time - now > 100
  · have d2 : decide (time - now > 100) = true := by simpa using t2
    have HE := hide (show holdE now time s.st (M.leftOf p l k) = 8 from if_pos (.inr (by omega)))
    clear HL
    go_wp2_with fail
    go_quiet (fail)
    go_wp2
    go_ret
    rw [unhide HE, soldL_no (by omega)]
    exact ⟨rfl, SaleOk.same (unhide H) ((unhide M1).drewN _)⟩
  have d2 : decide (time - now > 100) = false := by simpa using t2
  have HZ := hide (show holdE now time s.st (M.leftOf p l k) = saleN s.st (M.leftOf p l k) from if_neg (fun h => by rcases h with h | h; exact t1 h; exact t2 (by omega)))
  go_wp2_with fail
  go_quiet (fail)
  clear n1
  go_wp2_with fail
  go_quiet (fail)
  by_cases hs : s.st = 0
  case neg =>
    have ds : (s.st != 0) = true := by simpa using hs
    have HE := hide (show holdE now time s.st (M.leftOf p l k) = 9 from by rw [unhide HZ]; unfold saleN; rw [if_pos hs])
    clear HL HZ
    go_wp2
    go_ret
    rw [unhide HE, soldL_no (by omega)]
    exact ⟨rfl, SaleOk.same (unhide H) ((unhide M1).drewN _)⟩
  have ds : (s.st != 0) = false := by simpa using hs
  have BX := hide fun n => BX1.drewN n
  go_wp2_with fail
  refine ((unhide HL) _ ((unhide M1).drewN _)).mono ?_
  rintro e w2 ⟨rfl, m2⟩
  have M2 := hide (((unhide M1).drewN _).trans m2)
  have hb2 := (m2.has ((unhide BX) _) (fun x => x)).cell
  have R2 := hide ((unhide H).row.mod (unhide M2) (fun x => x))
  have r2 : w2.cell? ⟨g, i * 6 + 2, none⟩ = some (.int .i64 s.st) := by obtain ⟨hi, he⟩ := unhide HI; rw [← he]; exact (unhide R2).st i hi
  have r3 : w2.cell? ⟨g, i * 6 + 3, none⟩ = some (.int .i64 s.pa) := by obtain ⟨hi, he⟩ := unhide HI; rw [← he]; exact (unhide R2).pa i hi
  have r4 : w2.cell? ⟨g, i * 6 + 4, none⟩ = some (.int .i64 s.cl) := by obtain ⟨hi, he⟩ := unhide HI; rw [← he]; exact (unhide R2).cl i hi
  have r5 : w2.cell? ⟨g, i * 6 + 5, none⟩ = some (.int .i64 s.un) := by obtain ⟨hi, he⟩ := unhide HI; rw [← he]; exact (unhide R2).un i hi
  have fz := (unhide R2).froz
  have gb : g ≠ w.heap.size := by have := (unhide H).row.lt; omega
  have lp := leftOf_pos p l k
  clear hb m2 c2 c3 c4 c5 BX1 lb
  by_cases hl : M.leftOf p l k < 1
  · have HE := hide (show holdE now time s.st (M.leftOf p l k) = 11 from by rw [unhide HZ]; unfold saleN; rw [if_neg (by simpa using hs), if_pos (by omega)])
    clear HZ
    go_wp2
    go_ret
    rw [unhide HE, soldL_no (by omega)]
    exact ⟨rfl, SaleOk.same (unhide H) (unhide M2)⟩
  · have HE := hide (show holdE now time s.st (M.leftOf p l k) = 0 from by rw [unhide HZ]; unfold saleN; rw [if_neg (by simpa using hs), if_neg (by omega)])
    have S0 := hide (SaleOk.same (unhide H) (unhide M2))
    clear HZ lp
    go_wp2
    go_ret
    rw [unhide HE, soldL_yes]
    obtain ⟨hi, he⟩ := unhide HI
    have S1 : SaleOk w w2 gf fo g cap p l (l.set i s) := by rw [← he, List.set_getElem_self]; exact unhide S0
    exact ⟨rfl, ((((S1.put hi 2 (by omega) (.int .i64 2) ⟨s.row, s.col, 2, s.pa, s.cl, s.un⟩ rfl).put hi 3 (by omega) (.int .i64 party) ⟨s.row, s.col, 2, party, s.cl, s.un⟩ rfl).put hi 4 (by omega) (.int .i64 k) ⟨s.row, s.col, 2, party, k, s.un⟩ rfl).put hi 2 (by omega) (.int .i64 1) ⟨s.row, s.col, 1, party, k, s.un⟩ rfl).put hi 5 (by omega) (.int .i64 time) ⟨s.row, s.col, 1, party, k, time⟩ rfl⟩
theorem sale_book (wb gf fo g cap i : Nat) (p : Pla) (l : List Sea) (flight ar ac tr tc party time now : Int) (k : Nat) (pl : Pla) (w : World) (h : FlR w gf fo g cap p l) (s : Sea) (hse : ∃ hi : i < l.length, l[i] = s) (hp : p.limited = true) (hk : k < 4) (hpa : 1 ≤ party ∧ party ≤ 1000)
    (ht : -9223372036854775808 ≤ time ∧ time ≤ 9223372036854775807) (hn : 0 ≤ now ∧ now ≤ 4611686018427387000) (hnow : w.cell? ⟨wb, 1, none⟩ = some (.int .i64 now)) (hun : s.st = 0 → s.un = 0) :
    Calls Tryz.prog 75 #[.pointer (some ⟨wb, 0, none⟩), .pointer (some ⟨gf, fo, none⟩), .pointer (some ⟨g, i * 6, none⟩), .agg #[.int .i64 3, .int .i64 flight, .int .i64 ar, .int .i64 ac, .int .i64 tr, .int .i64 tc, .int .i64 party, .int .i64 k, .int .i64 time, .int .i64 pl.rows, .int .i64 pl.cols, .int .i64 pl.front, .int .i64 pl.l0, .int .i64 pl.l1, .int .i64 pl.l2, .int .i64 pl.l3]] w fun e w' => e = .returned (.int .i64 (bookE party k (M.leftOf p l k) s)) ∧
      SaleOk w w' gf fo g cap p l (soldL (bookE party k (M.leftOf p l k) s) l i ⟨s.row, s.col, 2, party, k, 0⟩) := by
  have HUN := hide hun
  clear hun
  have HW := hide fun W => (show Calls Tryz.prog 92 #[.agg #[.int .i64 3, .int .i64 flight, .int .i64 ar, .int .i64 ac, .int .i64 tr, .int .i64 tc, .int .i64 party, .int .i64 k, .int .i64 time, .int .i64 pl.rows, .int .i64 pl.cols, .int .i64 pl.front, .int .i64 pl.l0, .int .i64 pl.l1, .int .i64 pl.l2, .int .i64 pl.l3]] W fun e w' => e = .returned (.int .i64 0) ∧ Mod No W w' from by
    have := whom_any ⟨3, flight, ar, ac, tr, tc, party, k, time, pl⟩ W
    rw [show buyer ⟨3, flight, ar, ac, tr, tc, party, k, time, pl⟩ = 0 from by unfold buyer; rw [if_neg (by simp only; omega), if_neg (by simp only; omega)]] at this
    exact this)
  have HL := hide fun W (hW : Mod No w W) => rleft_any gf fo g cap p l k hk W ((h.mod hW).row) h.len (h.mod hW).slice (limited_bounds hp) (h.mod hW).lims
  have HNOW := hide fun W (hW : Mod No w W) => cell_keep hW hnow (fun x => x)
  have H := hide h
  have M0 := hide ((Mod.refl No w).alloc (.cells #[.int .i64 3, .int .i64 flight, .int .i64 ar, .int .i64 ac, .int .i64 tr, .int .i64 tc, .int .i64 party, .int .i64 k, .int .i64 time, .int .i64 pl.rows, .int .i64 pl.cols, .int .i64 pl.front, .int .i64 pl.l0, .int .i64 pl.l1, .int .i64 pl.l2, .int .i64 pl.l3] 41))
  have HB := hide (Has.new w #[.int .i64 3, .int .i64 flight, .int .i64 ar, .int .i64 ac, .int .i64 tr, .int .i64 tc, .int .i64 party, .int .i64 k, .int .i64 time, .int .i64 pl.rows, .int .i64 pl.cols, .int .i64 pl.front, .int .i64 pl.l0, .int .i64 pl.l1, .int .i64 pl.l2, .int .i64 pl.l3] 41)
  have HI := hide hse
  clear h hnow hp hse
  go_enter Tryz.func75, Tryz.ntmps75
  go_wp2_with fail
  refine ((unhide HW) _).mono ?_
  rintro e w1 ⟨rfl, m1⟩
  have M1 := hide ((unhide M0).trans m1)
  have hb := (m1.has (unhide HB) (fun x => x)).cell
  have lb := (m1.has (unhide HB) (fun x => x)).lt
  have BX1 := m1.has (unhide HB) (fun x => x)
  have R1 := (unhide H).row.mod (unhide M1) (fun x => x)
  have c2 : w1.cell? ⟨g, i * 6 + 2, none⟩ = some (.int .i64 s.st) := by obtain ⟨hi, he⟩ := unhide HI; rw [← he]; exact R1.st i hi
  have c3 : w1.cell? ⟨g, i * 6 + 3, none⟩ = some (.int .i64 s.pa) := by obtain ⟨hi, he⟩ := unhide HI; rw [← he]; exact R1.pa i hi
  have c4 : w1.cell? ⟨g, i * 6 + 4, none⟩ = some (.int .i64 s.cl) := by obtain ⟨hi, he⟩ := unhide HI; rw [← he]; exact R1.cl i hi
  have c5 : w1.cell? ⟨g, i * 6 + 5, none⟩ = some (.int .i64 s.un) := by obtain ⟨hi, he⟩ := unhide HI; rw [← he]; exact R1.un i hi
  have n1 := (unhide HNOW) _ (unhide M1)
  clear m1 R1 HW M0
  clear HNOW
  have fz1 := hide ((unhide H).row.mod (unhide M1) (fun x => x)).froz
  go_wp2_with fail
  go_quiet (fail)
  clear n1
  by_cases hs1 : s.st = 1
  · have d1 : (s.st == 1) = true := by simpa using hs1
    by_cases hs2 : s.pa = party
    · have d2 : (s.pa == party) = true := by simpa using hs2
      by_cases hs3 : s.cl = (k : Int)
      · have d3 : (s.cl == (k : Int)) = true := by simpa using hs3
        have HE := hide (show bookE party k (M.leftOf p l k) s = 0 from if_pos ⟨hs1, hs2, hs3⟩)
        have fz2 : ∀ (n o : Nat), (w1.drewN n).frozen? ⟨g, o, none⟩ = false := fun n o => (unhide fz1) o
        have S0 := hide fun n => SaleOk.same (unhide H) ((unhide M1).drewN n)
        have HS := hide (show (⟨s.row, s.col, 2, s.pa, s.cl, 0⟩ : Sea) = ⟨s.row, s.col, 2, party, k, 0⟩ from by rw [hs2, hs3])
        clear HL hs1 hs2 hs3
        go_wp2_with fail
        go_quiet (fail)
        clear c3 c4 hb
        have fz := unhide fz1
        go_wp2
        go_ret
        rw [unhide HE, soldL_yes, ← unhide HS]
        obtain ⟨hi, he⟩ := unhide HI
        have S1 : ∀ n, SaleOk w (w1.drewN n) gf fo g cap p l (l.set i s) := fun n => by rw [← he, List.set_getElem_self]; exact (unhide S0) n
        exact ⟨rfl, ((S1 _).put hi 2 (by omega) (.int .i64 2) ⟨s.row, s.col, 2, s.pa, s.cl, s.un⟩ rfl).put hi 5 (by omega) (.int .i64 0) ⟨s.row, s.col, 2, s.pa, s.cl, 0⟩ rfl⟩
      · have d3 : (s.cl == (k : Int)) = false := by simpa using hs3
        have ds : (s.st != 0) = true := by simp [hs1]
        have HE := hide (show bookE party k (M.leftOf p l k) s = 9 from by unfold bookE; rw [if_neg (fun h => hs3 h.2.2)]; unfold saleN; rw [if_pos (by omega)])
        clear HL hs1 hs2 hs3
        go_wp2_with fail
        go_quiet (fail)
        go_wp2
        go_ret
        rw [unhide HE, soldL_no (by omega)]
        exact ⟨rfl, SaleOk.same (unhide H) ((unhide M1).drewN _)⟩
    · have d2 : (s.pa == party) = false := by simpa using hs2
      have ds : (s.st != 0) = true := by simp [hs1]
      have HE := hide (show bookE party k (M.leftOf p l k) s = 9 from by unfold bookE; rw [if_neg (fun h => hs2 h.2.1)]; unfold saleN; rw [if_pos (by omega)])
      clear HL hs1 hs2
      go_wp2_with fail
      go_quiet (fail)
      go_wp2
      go_ret
      rw [unhide HE, soldL_no (by omega)]
      exact ⟨rfl, SaleOk.same (unhide H) ((unhide M1).drewN _)⟩
  have d1 : (s.st == 1) = false := by simpa using hs1
  have HZ := hide (show bookE party k (M.leftOf p l k) s = saleN s.st (M.leftOf p l k) from if_neg (fun h => hs1 h.1))
  go_wp2_with fail
  go_quiet (fail)
  by_cases hs : s.st = 0
  case neg =>
    have ds : (s.st != 0) = true := by simpa using hs
    have HE := hide (show bookE party k (M.leftOf p l k) s = 9 from by rw [unhide HZ]; unfold saleN; rw [if_pos hs])
    clear HL HZ
    go_wp2
    go_ret
    rw [unhide HE, soldL_no (by omega)]
    exact ⟨rfl, SaleOk.same (unhide H) ((unhide M1).drewN _)⟩
  have ds : (s.st != 0) = false := by simpa using hs
  have BX := hide fun n => BX1.drewN n
  go_wp2_with fail
  refine ((unhide HL) _ ((unhide M1).drewN _)).mono ?_
  rintro e w2 ⟨rfl, m2⟩
  have M2 := hide (((unhide M1).drewN _).trans m2)
  have hb2 := (m2.has ((unhide BX) _) (fun x => x)).cell
  have R2 := hide ((unhide H).row.mod (unhide M2) (fun x => x))
  have r2 : w2.cell? ⟨g, i * 6 + 2, none⟩ = some (.int .i64 s.st) := by obtain ⟨hi, he⟩ := unhide HI; rw [← he]; exact (unhide R2).st i hi
  have r3 : w2.cell? ⟨g, i * 6 + 3, none⟩ = some (.int .i64 s.pa) := by obtain ⟨hi, he⟩ := unhide HI; rw [← he]; exact (unhide R2).pa i hi
  have r4 : w2.cell? ⟨g, i * 6 + 4, none⟩ = some (.int .i64 s.cl) := by obtain ⟨hi, he⟩ := unhide HI; rw [← he]; exact (unhide R2).cl i hi
  have fz := (unhide R2).froz
  have gb : g ≠ w.heap.size := by have := (unhide H).row.lt; omega
  have lp := leftOf_pos p l k
  clear hb m2 c2 c3 c4 c5 BX1 lb
  by_cases hl : M.leftOf p l k < 1
  · have HE := hide (show bookE party k (M.leftOf p l k) s = 11 from by rw [unhide HZ]; unfold saleN; rw [if_neg (by simpa using hs), if_pos (by omega)])
    clear HZ
    go_wp2
    go_ret
    rw [unhide HE, soldL_no (by omega)]
    exact ⟨rfl, SaleOk.same (unhide H) (unhide M2)⟩
  · have HE := hide (show bookE party k (M.leftOf p l k) s = 0 from by rw [unhide HZ]; unfold saleN; rw [if_neg (by simpa using hs), if_neg (by omega)])
    have S0 := hide (SaleOk.same (unhide H) (unhide M2))
    have HU := hide ((unhide HUN) hs)
    clear HZ lp
    go_wp2
    go_ret
    rw [unhide HE, soldL_yes]
    obtain ⟨hi, he⟩ := unhide HI
    have S1 : SaleOk w w2 gf fo g cap p l (l.set i s) := by rw [← he, List.set_getElem_self]; exact unhide S0
    have S2 := ((S1.put hi 2 (by omega) (.int .i64 2) ⟨s.row, s.col, 2, s.pa, s.cl, s.un⟩ rfl).put hi 3 (by omega) (.int .i64 party) ⟨s.row, s.col, 2, party, s.cl, s.un⟩ rfl).put hi 4 (by omega) (.int .i64 k) ⟨s.row, s.col, 2, party, k, s.un⟩ rfl
    rw [unhide HU] at S2
    exact ⟨rfl, S2⟩
end Go.Proofs.YtlcbemcamdafjaaGreat
