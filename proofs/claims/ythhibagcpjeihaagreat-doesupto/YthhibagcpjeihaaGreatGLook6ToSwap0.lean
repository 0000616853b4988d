import Derived.Test.YthhibagcpjeihaaGreatGRef4ToLook5
import Derived.Test.YthhibagcpjeihaaGreatGStartToEq40
import Derived.Test.YthhibagcpjeihaaGreatGBaseToRowS
import Derived.BigQuiet
import Derived.Deep.QuietTactic
/- A command to a flight is looked over. -/
namespace Go.Proofs.YthhibagcpjeihaaGreat
open Go.RowKit
open Go.ChangeMaps (setBlock)
open M
set_option linter.unusedVariables false
set_option linter.unusedSimpArgs false
set_option maxRecDepth 100000
set_option maxHeartbeats 2000000

theorem look_hold (b : Nat) (c : Cmd) (now : Int) (x y : Value) (hk : c.kind = 2) (w : World)
    (hA : ∀ W, Mod No w W → Calls Tryz.prog 99 #[.pointer (some ⟨b, 0, none⟩), .agg #[.int .i64 c.ar, .int .i64 c.ac]] W fun e w' => e = .returned (.bool true) ∧ Mod No W w')
    (hC : ∀ W, Mod No w W → Calls Tryz.prog 100 #[.pointer (some ⟨b, 0, none⟩), .agg (cmdCells c), .int .i64 now] W fun e w' => e = .returned (.tuple #[x, y]) ∧ Mod No W w') :
    Calls Tryz.prog 77 #[.pointer (some ⟨b, 0, none⟩), .agg (cmdCells c), .int .i64 now] w fun e w' => e = .returned (.tuple #[x, y]) ∧ Mod No w w' := by
  have HA := hide hA
  have HC := hide hC
  have M0 := hide ((Mod.refl No w).alloc (.cells (cmdCells c) 41))
  have B0 := hide (Has.new w (cmdCells c) 41)
  unfold cmdCells at HC M0 B0 ⊢
  rw [hk] at HC M0 B0 ⊢
  clear hA hC hk
  go_enter Tryz.func77, Tryz.ntmps77
  go_wp2_with fail
  refine ((unhide HA) _ (unhide M0)).mono ?_
  rintro e w1 ⟨rfl, m1⟩
  have cb := (m1.has (unhide B0) (fun x => x)).cell
  have M1 := hide ((unhide M0).trans m1)
  have B1 := hide (m1.has (unhide B0) (fun x => x))
  clear m1
  go_wp2_with fail
  refine ((unhide HC) _ (unhide M1)).mono ?_
  rintro e w3 ⟨rfl, m3⟩
  have M3 := hide ((unhide M1).trans m3)
  clear m3
  go_wp2
  go_ret2
  exact ⟨rfl, unhide M3⟩

theorem look_book (b : Nat) (c : Cmd) (now : Int) (x y : Value) (hk : c.kind = 3) (w : World)
    (hA : ∀ W, Mod No w W → Calls Tryz.prog 99 #[.pointer (some ⟨b, 0, none⟩), .agg #[.int .i64 c.ar, .int .i64 c.ac]] W fun e w' => e = .returned (.bool true) ∧ Mod No W w')
    (hC : ∀ W, Mod No w W → Calls Tryz.prog 101 #[.pointer (some ⟨b, 0, none⟩), .agg (cmdCells c)] W fun e w' => e = .returned (.tuple #[x, y]) ∧ Mod No W w') :
    Calls Tryz.prog 77 #[.pointer (some ⟨b, 0, none⟩), .agg (cmdCells c), .int .i64 now] w fun e w' => e = .returned (.tuple #[x, y]) ∧ Mod No w w' := by
  have HA := hide hA
  have HC := hide hC
  have M0 := hide ((Mod.refl No w).alloc (.cells (cmdCells c) 41))
  have B0 := hide (Has.new w (cmdCells c) 41)
  unfold cmdCells at HC M0 B0 ⊢
  rw [hk] at HC M0 B0 ⊢
  clear hA hC hk
  go_enter Tryz.func77, Tryz.ntmps77
  go_wp2_with fail
  refine ((unhide HA) _ (unhide M0)).mono ?_
  rintro e w1 ⟨rfl, m1⟩
  have cb := (m1.has (unhide B0) (fun x => x)).cell
  have M1 := hide ((unhide M0).trans m1)
  have B1 := hide (m1.has (unhide B0) (fun x => x))
  clear m1
  go_wp2_with fail
  refine ((unhide HC) _ (unhide M1)).mono ?_
  rintro e w3 ⟨rfl, m3⟩
  have M3 := hide ((unhide M1).trans m3)
  clear m3
  go_wp2
  go_ret2
  exact ⟨rfl, unhide M3⟩

theorem look_cancel (b : Nat) (c : Cmd) (now : Int) (x y : Value) (hk : c.kind = 4) (w : World)
    (hA : ∀ W, Mod No w W → Calls Tryz.prog 99 #[.pointer (some ⟨b, 0, none⟩), .agg #[.int .i64 c.ar, .int .i64 c.ac]] W fun e w' => e = .returned (.bool true) ∧ Mod No W w')
    (hC : ∀ W, Mod No w W → Calls Tryz.prog 102 #[.pointer (some ⟨b, 0, none⟩), .agg (cmdCells c)] W fun e w' => e = .returned (.tuple #[x, y]) ∧ Mod No W w') :
    Calls Tryz.prog 77 #[.pointer (some ⟨b, 0, none⟩), .agg (cmdCells c), .int .i64 now] w fun e w' => e = .returned (.tuple #[x, y]) ∧ Mod No w w' := by
  have HA := hide hA
  have HC := hide hC
  have M0 := hide ((Mod.refl No w).alloc (.cells (cmdCells c) 41))
  have B0 := hide (Has.new w (cmdCells c) 41)
  unfold cmdCells at HC M0 B0 ⊢
  rw [hk] at HC M0 B0 ⊢
  clear hA hC hk
  go_enter Tryz.func77, Tryz.ntmps77
  go_wp2_with fail
  refine ((unhide HA) _ (unhide M0)).mono ?_
  rintro e w1 ⟨rfl, m1⟩
  have cb := (m1.has (unhide B0) (fun x => x)).cell
  have M1 := hide ((unhide M0).trans m1)
  have B1 := hide (m1.has (unhide B0) (fun x => x))
  clear m1
  go_wp2_with fail
  refine ((unhide HC) _ (unhide M1)).mono ?_
  rintro e w3 ⟨rfl, m3⟩
  have M3 := hide ((unhide M1).trans m3)
  clear m3
  go_wp2
  go_ret2
  exact ⟨rfl, unhide M3⟩

theorem look_move (b : Nat) (c : Cmd) (now : Int) (x y : Value) (hk : c.kind = 5) (w : World)
    (hA : ∀ W, Mod No w W → Calls Tryz.prog 99 #[.pointer (some ⟨b, 0, none⟩), .agg #[.int .i64 c.ar, .int .i64 c.ac]] W fun e w' => e = .returned (.bool true) ∧ Mod No W w')
    (hB : ∀ W, Mod No w W → Calls Tryz.prog 99 #[.pointer (some ⟨b, 0, none⟩), .agg #[.int .i64 c.tr, .int .i64 c.tc]] W fun e w' => e = .returned (.bool true) ∧ Mod No W w')
    (hC : ∀ W, Mod No w W → Calls Tryz.prog 103 #[.pointer (some ⟨b, 0, none⟩), .agg (cmdCells c)] W fun e w' => e = .returned (.tuple #[x, y]) ∧ Mod No W w') :
    Calls Tryz.prog 77 #[.pointer (some ⟨b, 0, none⟩), .agg (cmdCells c), .int .i64 now] w fun e w' => e = .returned (.tuple #[x, y]) ∧ Mod No w w' := by
  have HA := hide hA
  have HC := hide hC
  have HB := hide hB
  have M0 := hide ((Mod.refl No w).alloc (.cells (cmdCells c) 41))
  have B0 := hide (Has.new w (cmdCells c) 41)
  unfold cmdCells at HC M0 B0 ⊢
  rw [hk] at HC M0 B0 ⊢
  clear hA hC hB hk
  go_enter Tryz.func77, Tryz.ntmps77
  go_wp2_with fail
  refine ((unhide HA) _ (unhide M0)).mono ?_
  rintro e w1 ⟨rfl, m1⟩
  have cb := (m1.has (unhide B0) (fun x => x)).cell
  have M1 := hide ((unhide M0).trans m1)
  have B1 := hide (m1.has (unhide B0) (fun x => x))
  clear m1
  go_wp2_with fail
  refine ((unhide HB) _ (unhide M1)).mono ?_
  rintro e w2 ⟨rfl, m2⟩
  have cb2 := (m2.has (unhide B1) (fun x => x)).cell
  have M2 := hide ((unhide M1).trans m2)
  clear m2 cb
  go_wp2_with fail
  refine ((unhide HC) _ (unhide M2)).mono ?_
  rintro e w3 ⟨rfl, m3⟩
  have M3 := hide ((unhide M2).trans m3)
  clear m3
  go_wp2
  go_ret2
  exact ⟨rfl, unhide M3⟩

theorem look_block (b : Nat) (c : Cmd) (now : Int) (x y : Value) (hk : c.kind = 6) (w : World)
    (hA : ∀ W, Mod No w W → Calls Tryz.prog 99 #[.pointer (some ⟨b, 0, none⟩), .agg #[.int .i64 c.ar, .int .i64 c.ac]] W fun e w' => e = .returned (.bool true) ∧ Mod No W w')
    (hC : ∀ W, Mod No w W → Calls Tryz.prog 104 #[.pointer (some ⟨b, 0, none⟩), .agg (cmdCells c)] W fun e w' => e = .returned (.tuple #[x, y]) ∧ Mod No W w') :
    Calls Tryz.prog 77 #[.pointer (some ⟨b, 0, none⟩), .agg (cmdCells c), .int .i64 now] w fun e w' => e = .returned (.tuple #[x, y]) ∧ Mod No w w' := by
  have HA := hide hA
  have HC := hide hC
  have M0 := hide ((Mod.refl No w).alloc (.cells (cmdCells c) 41))
  have B0 := hide (Has.new w (cmdCells c) 41)
  unfold cmdCells at HC M0 B0 ⊢
  rw [hk] at HC M0 B0 ⊢
  clear hA hC hk
  go_enter Tryz.func77, Tryz.ntmps77
  go_wp2_with fail
  refine ((unhide HA) _ (unhide M0)).mono ?_
  rintro e w1 ⟨rfl, m1⟩
  have cb := (m1.has (unhide B0) (fun x => x)).cell
  have M1 := hide ((unhide M0).trans m1)
  have B1 := hide (m1.has (unhide B0) (fun x => x))
  clear m1
  go_wp2_with fail
  refine ((unhide HC) _ (unhide M1)).mono ?_
  rintro e w3 ⟨rfl, m3⟩
  have M3 := hide ((unhide M1).trans m3)
  clear m3
  go_wp2
  go_ret2
  exact ⟨rfl, unhide M3⟩

theorem look_unblock (b : Nat) (c : Cmd) (now : Int) (x y : Value) (hk : c.kind = 7) (w : World)
    (hA : ∀ W, Mod No w W → Calls Tryz.prog 99 #[.pointer (some ⟨b, 0, none⟩), .agg #[.int .i64 c.ar, .int .i64 c.ac]] W fun e w' => e = .returned (.bool true) ∧ Mod No W w')
    (hC : ∀ W, Mod No w W → Calls Tryz.prog 105 #[.pointer (some ⟨b, 0, none⟩), .agg (cmdCells c)] W fun e w' => e = .returned (.tuple #[x, y]) ∧ Mod No W w') :
    Calls Tryz.prog 77 #[.pointer (some ⟨b, 0, none⟩), .agg (cmdCells c), .int .i64 now] w fun e w' => e = .returned (.tuple #[x, y]) ∧ Mod No w w' := by
  have HA := hide hA
  have HC := hide hC
  have M0 := hide ((Mod.refl No w).alloc (.cells (cmdCells c) 41))
  have B0 := hide (Has.new w (cmdCells c) 41)
  unfold cmdCells at HC M0 B0 ⊢
  rw [hk] at HC M0 B0 ⊢
  clear hA hC hk
  go_enter Tryz.func77, Tryz.ntmps77
  go_wp2_with fail
  refine ((unhide HA) _ (unhide M0)).mono ?_
  rintro e w1 ⟨rfl, m1⟩
  have cb := (m1.has (unhide B0) (fun x => x)).cell
  have M1 := hide ((unhide M0).trans m1)
  have B1 := hide (m1.has (unhide B0) (fun x => x))
  clear m1
  go_wp2_with fail
  refine ((unhide HC) _ (unhide M1)).mono ?_
  rintro e w3 ⟨rfl, m3⟩
  have M3 := hide ((unhide M1).trans m3)
  clear m3
  go_wp2
  go_ret2
  exact ⟨rfl, unhide M3⟩

theorem look_noAt (b : Nat) (c : Cmd) (now : Int) (w : World)
    (hA : ∀ W, Mod No w W → Calls Tryz.prog 99 #[.pointer (some ⟨b, 0, none⟩), .agg #[.int .i64 c.ar, .int .i64 c.ac]] W fun e w' => e = .returned (.bool false) ∧ Mod No W w') :
    (hk : c.kind ≠ 9) → Calls Tryz.prog 77 #[.pointer (some ⟨b, 0, none⟩), .agg (cmdCells c), .int .i64 now] w fun e w' => e = .returned (refuse 5) ∧ Mod No w w' := by
  intro hk
  have HA := hide hA
  have hd : (c.kind == 9) = false := by simp [hk]
  have M0 := hide ((Mod.refl No w).alloc (.cells (cmdCells c) 41))
  unfold cmdCells at M0 ⊢
  clear hA hk
  go_enter Tryz.func77, Tryz.ntmps77
  go_wp2_with fail
  refine ((unhide HA) _ (unhide M0)).mono ?_
  rintro e w1 ⟨rfl, m1⟩
  have M1 := hide ((unhide M0).trans m1)
  clear m1
  go_wp2
  go_ret2
  exact ⟨rfl, unhide M1⟩

theorem look_noTo (b : Nat) (c : Cmd) (now : Int) (hk : c.kind = 5) (w : World)
    (hA : ∀ W, Mod No w W → Calls Tryz.prog 99 #[.pointer (some ⟨b, 0, none⟩), .agg #[.int .i64 c.ar, .int .i64 c.ac]] W fun e w' => e = .returned (.bool true) ∧ Mod No W w')
    (hB : ∀ W, Mod No w W → Calls Tryz.prog 99 #[.pointer (some ⟨b, 0, none⟩), .agg #[.int .i64 c.tr, .int .i64 c.tc]] W fun e w' => e = .returned (.bool false) ∧ Mod No W w') :
    Calls Tryz.prog 77 #[.pointer (some ⟨b, 0, none⟩), .agg (cmdCells c), .int .i64 now] w fun e w' => e = .returned (refuse 5) ∧ Mod No w w' := by
  have HA := hide hA
  have HB := hide hB
  have M0 := hide ((Mod.refl No w).alloc (.cells (cmdCells c) 41))
  have B0 := hide (Has.new w (cmdCells c) 41)
  unfold cmdCells at M0 B0 ⊢
  rw [hk] at M0 B0 ⊢
  clear hA hB hk
  go_enter Tryz.func77, Tryz.ntmps77
  go_wp2_with fail
  refine ((unhide HA) _ (unhide M0)).mono ?_
  rintro e w1 ⟨rfl, m1⟩
  have cb := (m1.has (unhide B0) (fun x => x)).cell
  have M1 := hide ((unhide M0).trans m1)
  clear m1
  go_wp2_with fail
  refine ((unhide HB) _ (unhide M1)).mono ?_
  rintro e w2 ⟨rfl, m2⟩
  have M2 := hide ((unhide M1).trans m2)
  clear m2 cb
  go_wp2
  go_ret2
  exact ⟨rfl, unhide M2⟩

end Go.Proofs.YthhibagcpjeihaaGreat
/- A flight more: looked over. -/
namespace Go.Proofs.YthhibagcpjeihaaGreat
open Go.RowKit
open Go.ChangeMaps (setBlock)
open M
set_option linter.unusedVariables false
set_option linter.unusedSimpArgs false
set_option maxRecDepth 100000
set_option maxHeartbeats 2000000

def addV (p : Pla) : Value := if p.sized = true ∧ p.limited = true then grant (startV p) else refuse 4

theorem lookAdd_walk (p : Pla) (w : World) :
    Calls Tryz.prog 76 #[plaV p] w fun e w' => e = .returned (addV p) ∧ Mod No w w' := by
  have HA := hide fun W => shape_any p W
  have HB := hide fun W => limits_any p.l0 p.l1 p.l2 p.l3 W
  have hl : p.limited = decide (0 ≤ p.l0 ∧ p.l0 ≤ 200 ∧ 0 ≤ p.l1 ∧ p.l1 ≤ p.l0 ∧ 0 ≤ p.l2 ∧ p.l2 ≤ p.l1 ∧ 0 ≤ p.l3 ∧ p.l3 ≤ p.l2) := rfl
  rw [← hl] at HB
  clear hl
  have HV := hide (show ∀ s m, p.sized = s → p.limited = m → addV p = if s = true ∧ m = true then grant (startV p) else refuse 4 by rintro s m rfl rfl; rfl)
  unfold plaV at HA ⊢
  obtain ⟨s, hs⟩ : ∃ s, p.sized = s := ⟨_, rfl⟩
  obtain ⟨m, hm⟩ : ∃ m, p.limited = m := ⟨_, rfl⟩
  rw [hs] at HA
  rw [hm] at HB
  have M0 := hide ((Mod.refl No w).alloc (.cells #[.int .i64 p.rows, .int .i64 p.cols, .int .i64 p.front, .int .i64 p.l0, .int .i64 p.l1, .int .i64 p.l2, .int .i64 p.l3] 39))
  have B0 := hide (Has.new w #[.int .i64 p.rows, .int .i64 p.cols, .int .i64 p.front, .int .i64 p.l0, .int .i64 p.l1, .int .i64 p.l2, .int .i64 p.l3] 39)
  have HV2 := hide ((unhide HV) s m hs hm)
  clear hs hm HV
  cases s with
  | false =>
    go_enter Tryz.func76, Tryz.ntmps76
    go_wp2_with fail
    refine ((unhide HA) _).mono ?_
    rintro e w1 ⟨rfl, m1⟩
    have M1 := hide ((unhide M0).trans m1)
    clear m1
    go_wp2
    go_ret2
    exact ⟨by rw [unhide HV2, if_neg (by simp)]; rfl, unhide M1⟩
  | true =>
    go_enter Tryz.func76, Tryz.ntmps76
    go_wp2_with fail
    refine ((unhide HA) _).mono ?_
    rintro e w1 ⟨rfl, m1⟩
    have cb := (m1.has (unhide B0) (fun x => x)).cell
    have M1 := hide ((unhide M0).trans m1)
    have B1 := hide (m1.has (unhide B0) (fun x => x))
    clear m1
    go_wp2_with fail
    refine ((unhide HB) _).mono ?_
    rintro e w2 ⟨rfl, m2⟩
    have cb2 := (m2.has (unhide B1) (fun x => x)).cell
    have M2 := hide ((unhide M1).trans m2)
    clear m2 cb
    cases m with
    | true =>
      go_wp2
      go_ret2
      exact ⟨by rw [unhide HV2, if_pos (by simp)]; rfl, unhide M2⟩
    | false =>
      go_wp2
      go_ret2
      exact ⟨by rw [unhide HV2, if_neg (by simp)]; rfl, unhide M2⟩
end Go.Proofs.YthhibagcpjeihaaGreat
/- Another plane: who stays, who goes where. Nothing of the program. -/
namespace Go.Proofs.YthhibagcpjeihaaGreat
open M
set_option linter.unusedVariables false
set_option linter.unusedSimpArgs false

/-- How many seats are not free. -/
def nFull (l : List Sea) : Nat := l.countP fun s => s.st != 0
/-- A seat that stays is laid into the new plane. -/
def stayStep (q : Pla) (acc : List Sea) (s : Sea) : List Sea := if s.st ≠ 0 ∧ q.has s.row s.col = true then acc.set (q.idx s.row s.col) s else acc
def stay (q : Pla) (l : List Sea) : List Sea := l.foldl (stayStep q) (emptySeats q)
def homeless (q : Pla) (l : List Sea) : List Sea := l.filter fun s => s.st != 0 && !q.has s.row s.col
def firstFree (l : List Sea) : Nat := l.findIdx fun s => s.st == 0
/-- A seat at another place. -/
def Sea.at (s x : Sea) : Sea := ⟨x.row, x.col, s.st, s.pa, s.cl, s.un⟩
def reseatStep (acc : List Sea) (s : Sea) : List Sea := acc.set (firstFree acc) (Sea.at s (acc.getD (firstFree acc) noSea))
def swapSeats (q : Pla) (l : List Sea) : List Sea := (homeless q l).foldl reseatStep (stay q l)
/-- The flight's plane behind a Swap: its own limits. -/
def swapPla (p q : Pla) : Pla := ⟨q.rows, q.cols, q.front, p.l0, p.l1, p.l2, p.l3, nx p.ep⟩

theorem has_place {q : Pla} {r c r' c' : Int} (hc : 1 ≤ q.cols) (h : q.has r c = true) (h' : q.has r' c' = true) (e : q.idx r c = q.idx r' c') : r = r' ∧ c = c' := by
  simp only [Pla.has, decide_eq_true_eq] at h h'
  unfold Pla.idx at e
  have m1 : 0 ≤ (r - 1) * q.cols := Int.mul_nonneg (by omega) (by omega)
  have m2 : 0 ≤ (r' - 1) * q.cols := Int.mul_nonneg (by omega) (by omega)
  have e' : (c - 1) + (r - 1) * q.cols = (c' - 1) + (r' - 1) * q.cols := by omega
  have hd : ((c - 1) + (r - 1) * q.cols) / q.cols = ((c' - 1) + (r' - 1) * q.cols) / q.cols := by rw [e']
  rw [Int.add_mul_ediv_right _ _ (by omega), Int.add_mul_ediv_right _ _ (by omega), Int.ediv_eq_zero_of_lt (by omega) (by omega), Int.ediv_eq_zero_of_lt (by omega) (by omega)] at hd
  have hr : r = r' := by omega
  subst hr
  omega

theorem at_wf {s x : Sea} (h : s.wf) : (Sea.at s x).wf := ⟨h.s0, h.s1, h.c0, h.c1, h.bare, h.pa, h.un, h.bk⟩

/-- Who has been laid, of the first i seats. -/
structure Stayed (q : Pla) (l acc : List Sea) (i : Nat) : Prop where
  wf : Wf q acc
  from_ : ∀ j (h : j < acc.length), acc[j].st ≠ 0 → ∃ k, ∃ hk : k < l.length, k < i ∧ l[k].row = acc[j].row ∧ l[k].col = acc[j].col
  count : nFull acc + (homeless q (l.take i)).length = nFull (l.take i)

theorem Stayed.start {p q : Pla} (l : List Sea) (h1 : q.sized = true) (h2 : q.limited = true) : Stayed q l (emptySeats q) 0 := by
  refine ⟨empty_wf h1 h2, fun j h hs => ?_, ?_⟩
  · simp [emptySeats] at hs
  · have : nFull (emptySeats q) = 0 := by
      unfold nFull
      rw [List.countP_eq_zero]
      intro s hs
      simp only [emptySeats, List.mem_map] at hs
      obtain ⟨i, _, rfl⟩ := hs
      simp
    rw [this]
    rfl

theorem take_succ {α : Type} (l : List α) (i : Nat) (h : i < l.length) : l.take (i + 1) = l.take i ++ [l[i]] := by
  rw [List.take_add_one, List.getElem?_eq_getElem h]
  rfl

theorem nFull_set {acc : List Sea} {j : Nat} (h : j < acc.length) (s : Sea) (h0 : acc[j].st = 0) (hs : s.st ≠ 0) : nFull (acc.set j s) = nFull acc + 1 := by
  have := countP_set (fun s : Sea => s.st != 0) acc j h s
  simp [h0, hs] at this
  unfold nFull
  omega

/-- A seat that stays has a free place in the new plane. -/
theorem Stayed.free {p q : Pla} {l acc : List Sea} {i : Nat} (h : Stayed q l acc i) (hwf : Wf p l) (hi : i < l.length) (hh : q.has l[i].row l[i].col = true) :
    ∃ hj : q.idx l[i].row l[i].col < acc.length, acc[q.idx l[i].row l[i].col].st = 0 ∧ acc[q.idx l[i].row l[i].col].row = l[i].row ∧ acc[q.idx l[i].row l[i].col].col = l[i].col := by
  have hj : q.idx l[i].row l[i].col < acc.length := Fli.wf.idx_lt h.wf hh
  have hp := Fli.wf.idx_place h.wf hh
  refine ⟨hj, ?_, hp⟩
  by_cases h0 : acc[q.idx l[i].row l[i].col].st = 0
  · exact h0
  · obtain ⟨k, hk, hki, e1, e2⟩ := h.from_ _ hj h0
    have := hwf.place_inj hk hi (by rw [e1]; exact hp.1) (by rw [e2]; exact hp.2)
    omega

theorem Stayed.step {p q : Pla} {l acc : List Sea} {i : Nat} (h : Stayed q l acc i) (hwf : Wf p l) (hi : i < l.length) : Stayed q l (stayStep q acc l[i]) (i + 1) := by
  have hs := hwf.seat _ (List.getElem_mem hi)
  have hcnt := h.count
  have hT : nFull (l.take (i + 1)) = nFull (l.take i) + (if l[i].st ≠ 0 then 1 else 0) := by
    rw [take_succ l i hi]
    unfold nFull
    rw [List.countP_append]
    by_cases h0 : l[i].st = 0 <;> simp [h0]
  have hH : (homeless q (l.take (i + 1))).length = (homeless q (l.take i)).length + (if l[i].st ≠ 0 ∧ ¬ q.has l[i].row l[i].col = true then 1 else 0) := by
    rw [take_succ l i hi]
    unfold homeless
    rw [List.filter_append, List.length_append]
    congr 1
    by_cases h0 : l[i].st = 0
    · simp [h0]
    · cases hb : q.has l[i].row l[i].col <;> simp [h0, hb]
  unfold stayStep
  by_cases hc : l[i].st ≠ 0 ∧ q.has l[i].row l[i].col = true
  · rw [if_pos hc]
    obtain ⟨hj, f0, fr, fc⟩ := h.free hwf hi hc.2
    refine ⟨h.wf.set hj hs fr.symm fc.symm, fun j hj' hst => ?_, ?_⟩
    · have hj2 : j < acc.length := by simpa using hj'
      simp only [List.getElem_set] at hst ⊢
      by_cases e : q.idx l[i].row l[i].col = j
      · rw [if_pos e]
        exact ⟨i, hi, by omega, rfl, rfl⟩
      · rw [if_neg e] at hst ⊢
        obtain ⟨k, hk, hki, e1, e2⟩ := h.from_ j hj2 hst
        exact ⟨k, hk, by omega, e1, e2⟩
    · rw [nFull_set hj l[i] f0 hc.1, hT, hH, if_pos hc.1, if_neg (fun x => x.2 hc.2)]
      omega
  · rw [if_neg hc]
    refine ⟨h.wf, fun j hj hst => ?_, ?_⟩
    · obtain ⟨k, hk, hki, e1, e2⟩ := h.from_ j hj hst
      exact ⟨k, hk, by omega, e1, e2⟩
    · rw [hT, hH]
      by_cases h0 : l[i].st = 0
      · rw [if_neg (by simp [h0]), if_neg (by simp [h0])]
        omega
      · have : ¬ q.has l[i].row l[i].col = true := fun x => hc ⟨h0, x⟩
        rw [if_pos h0, if_pos ⟨h0, this⟩]
        omega

theorem stay_take (q : Pla) (l : List Sea) (i : Nat) (hi : i < l.length) : stay q (l.take (i + 1)) = stayStep q (stay q (l.take i)) l[i] := by
  rw [take_succ l i hi]
  unfold stay
  rw [List.foldl_append]
  rfl
theorem homeless_take (q : Pla) (l : List Sea) (i : Nat) (hi : i < l.length) : homeless q (l.take (i + 1)) = homeless q (l.take i) ++ (if l[i].st ≠ 0 ∧ ¬ q.has l[i].row l[i].col = true then [l[i]] else []) := by
  rw [take_succ l i hi]
  unfold homeless
  rw [List.filter_append]
  congr 1
  by_cases h0 : l[i].st = 0
  · simp [h0]
  · cases hb : q.has l[i].row l[i].col <;> simp [h0, hb]

theorem stayed_take {p q : Pla} {l : List Sea} (hwf : Wf p l) (h1 : q.sized = true) (h2 : q.limited = true) : ∀ i, i ≤ l.length → Stayed q l (stay q (l.take i)) i
  | 0, _ => Stayed.start (p := p) l h1 h2
  | i + 1, h => by
    rw [stay_take q l i (by omega)]
    exact (stayed_take hwf h1 h2 i (by omega)).step hwf (by omega)

/-- What stands while the homeless find seats. -/
structure Reseat (q : Pla) (acc : List Sea) (n : Nat) : Prop where
  wf : Wf q acc
  room : nFull acc + n ≤ acc.length

theorem firstFree_lt {q : Pla} {acc : List Sea} {n : Nat} (h : Reseat q acc (n + 1)) : firstFree acc < acc.length := by
  unfold firstFree
  rw [List.findIdx_lt_length]
  by_cases hx : ∃ x ∈ acc, (x.st == 0) = true
  · exact hx
  · exfalso
    have : nFull acc = acc.length := by
      unfold nFull
      rw [List.countP_eq_length]
      intro x hx'
      have : ¬ (x.st == 0) = true := fun e => hx ⟨x, hx', e⟩
      simpa using this
    have := h.room
    omega

theorem firstFree_at {acc : List Sea} (h : firstFree acc < acc.length) : acc[firstFree acc].st = 0 := by
  have := List.findIdx_getElem (p := fun s : Sea => s.st == 0) (w := h)
  simp only [beq_iff_eq] at this
  exact this

theorem full_before {acc : List Sea} {j : Nat} (hj : j < firstFree acc) (hl : j < acc.length) : acc[j].st ≠ 0 := by
  have := List.not_of_lt_findIdx (p := fun s : Sea => s.st == 0) (xs := acc) (i := j) hj
  simpa using this

theorem Reseat.step {q : Pla} {acc : List Sea} {n : Nat} (h : Reseat q acc (n + 1)) {s : Sea} (hs : s.wf) (h0 : s.st ≠ 0) : Reseat q (reseatStep acc s) n := by
  have hl := firstFree_lt h
  have e : acc.getD (firstFree acc) noSea = acc[firstFree acc] := by
    rw [List.getD_eq_getElem?_getD, List.getElem?_eq_getElem hl]; rfl
  unfold reseatStep
  rw [e]
  refine ⟨h.wf.set hl (at_wf hs) rfl rfl, ?_⟩
  rw [nFull_set hl _ (firstFree_at hl) (by exact h0), List.length_set]
  have := h.room
  omega

theorem homeless_ok {p q : Pla} {l : List Sea} (hwf : Wf p l) : ∀ s ∈ homeless q l, s.wf ∧ s.st ≠ 0 := by
  intro s hs
  unfold homeless at hs
  rw [List.mem_filter] at hs
  refine ⟨hwf.seat s hs.1, ?_⟩
  have := hs.2
  simp only [Bool.and_eq_true] at this
  simpa using this.1

theorem reseat_start {p q : Pla} {l : List Sea} (hwf : Wf p l) (h1 : q.sized = true) (h2 : q.limited = true) (hn : ¬ q.rows * q.cols < (nFull l : Int)) : Reseat q (stay q l) (homeless q l).length := by
  have h := stayed_take hwf h1 h2 l.length (Nat.le_refl _)
  rw [List.take_length] at h
  refine ⟨h.wf, ?_⟩
  have hc := h.count
  rw [List.take_length] at hc
  have hl := h.wf.len
  simp only at hl
  omega

theorem reseat_all {q : Pla} : ∀ (hs : List Sea) (acc : List Sea), (∀ s ∈ hs, s.wf ∧ s.st ≠ 0) → Reseat q acc hs.length → Wf q (hs.foldl reseatStep acc)
  | [], acc, _, h => h.wf
  | s :: hs, acc, hw, h => by
    rw [List.foldl_cons]
    exact reseat_all hs _ (fun x hx => hw x (List.mem_cons_of_mem _ hx)) (Reseat.step h (hw s (List.mem_cons_self)).1 (hw s (List.mem_cons_self)).2)

theorem swap_wf {p q : Pla} {l : List Sea} (hwf : Wf p l) (h1 : q.sized = true) (h2 : q.limited = true) (hn : ¬ q.rows * q.cols < (nFull l : Int)) : Wf q (swapSeats q l) :=
  reseat_all _ _ (homeless_ok hwf) (reseat_start hwf h1 h2 hn)
end Go.Proofs.YthhibagcpjeihaaGreat
/- A region that draws its order, and whose callees only read and make memory: one walk of the text's order serves every order. -/
namespace Go.Proofs.YthhibagcpjeihaaGreat
open Go.RowKit
set_option linter.unusedVariables false

/-- A world in which the blocks of w0 are as they were. -/
structure Wd (w0 : World) where
  W : World
  h : Mod No w0 W

theorem wp_region_wd {P : Program} {id : Nat} {Q : Exit → Act → World → Prop} {a : Act} {w w0 : World} {l : List Oper} (hm : P.follows .mixedOrders = true) (hB : Region.lexB .any l.toArray = true) (h0 : Mod No w0 w)
    (h : wpQuiet P l.toArray (fun w' => ∃ x : Wd w0, w' = x.W) (fun a' => ∀ w', (∃ x : Wd w0, w' = x.W) → Q .normal a' w') l a) : (Code.region id l.toArray true).wp P Q a w :=
  wp_region_quiet (C := fun w' => ∃ x : Wd w0, w' = x.W) hm hB ⟨⟨_, h0.drew⟩, rfl⟩ (by simpa using h)

theorem wd_ne (w0 : World) : Nonempty (Wd w0) := ⟨⟨w0, Mod.refl _ _⟩⟩
/-- A callee's contract, met in such a world. -/
theorem Calls.wd {P : Program} {f : FuncId} {args : Array Value} {w0 : World} {v : Value} (x : Wd w0)
    (h : Calls P f args x.W fun e w' => e = .returned v ∧ Mod No x.W w') : Calls P f args x.W fun e w'' => e = .returned v ∧ ∃ y : Wd w0, w'' = y.W :=
  h.mono fun _ w'' ⟨he, hm⟩ => ⟨he, ⟨w'', x.h.trans hm⟩, rfl⟩

theorem Has.wd {w0 : World} {b : Nat} {cs : Array Value} {T : TypeId} (h : Has w0 b cs T) (x : Wd w0) (o : Nat) : x.W.cell? ⟨b, o, none⟩ = cs[o]? := (x.h.has h (fun z => z)).cell o
end Go.Proofs.YthhibagcpjeihaaGreat
/- Another plane for a flight is looked over. -/
namespace Go.Proofs.YthhibagcpjeihaaGreat
open Go.RowKit
open Go.ChangeMaps (setBlock)
open M
set_option linter.unusedVariables false
set_option linter.unusedSimpArgs false
set_option maxRecDepth 100000
set_option maxHeartbeats 2000000

def refitV (q : Pla) : Value := .iface 212 (.agg #[.int .i64 q.rows, .int .i64 q.cols, .int .i64 q.front])
def swapV (q : Pla) (n : Nat) : Value := if q.sized = true ∧ ¬ (q.rows * q.cols < (n : Int)) then grant (refitV q) else refuse 4

theorem run_len (w : World) (m clock : Nat) (l : List MEnt) (hm : w.heap[m]? = some (mapObj l clock)) (ty : TypeId) :
    (Builtin.len_ #[162] ty #[.map (some m)]).run Tryz.prog w = .ok (.int .i64 (l.length : Nat)) w := by
  unfold mapObj at hm
  have hg : (getObj m).run Tryz.prog w = .ok (.map (l.map MEnt.obj).toArray clock) w := by simp [getObj, Sem.run, hm]
  simp [Builtin.len_, run_underlying Tryz.underlying162, hg, goInt]

theorem lookSwap_walk (b m : Nat) (cs : Array Value) (q : Pla) (n : Nat) (w : World) (h : Has w b cs 164) (h7 : cs[7]? = some (.map (some m)))
    (hlen : ∀ W, Mod No w W → ∀ ty, (Builtin.len_ #[162] ty #[.map (some m)]).run Tryz.prog W = .ok (.int .i64 (n : Nat)) W)
    (hrc : q.sized = true → IntKind.i64.wrap (q.rows * q.cols) = q.rows * q.cols) :
    Calls Tryz.prog 98 #[.pointer (some ⟨b, 0, none⟩), plaV q] w fun e w' => e = .returned (swapV q n) ∧ Mod No w w' := by
  have HA := hide fun W => shape_any q W
  have HV := hide (show ∀ s, q.sized = s → swapV q n = if s = true ∧ ¬ (q.rows * q.cols < (n : Int)) then grant (refitV q) else refuse 4 by rintro s rfl; rfl)
  unfold plaV at HA ⊢
  obtain ⟨s, hs⟩ : ∃ s, q.sized = s := ⟨_, rfl⟩
  rw [hs] at HA hrc
  have HV2 := hide ((unhide HV) s hs)
  have HB := hide h
  have M0 := hide ((Mod.refl No w).alloc (.cells #[.int .i64 q.rows, .int .i64 q.cols, .int .i64 q.front, .int .i64 q.l0, .int .i64 q.l1, .int .i64 q.l2, .int .i64 q.l3] 39))
  have B0 := hide (Has.new w #[.int .i64 q.rows, .int .i64 q.cols, .int .i64 q.front, .int .i64 q.l0, .int .i64 q.l1, .int .i64 q.l2, .int .i64 q.l3] 39)
  have HL := hide hlen
  have hlt := h.lt
  clear hs HV hlen h
  have hb : ∀ (x : Wd (w.alloc (.cells #[.int .i64 q.rows, .int .i64 q.cols, .int .i64 q.front, .int .i64 q.l0, .int .i64 q.l1, .int .i64 q.l2, .int .i64 q.l3] 39))) (o : Nat), x.W.cell? ⟨w.heap.size, o, none⟩ = _ := (unhide B0).wd
  have h7 : ∀ x : Wd (w.alloc (.cells #[.int .i64 q.rows, .int .i64 q.cols, .int .i64 q.front, .int .i64 q.l0, .int .i64 q.l1, .int .i64 q.l2, .int .i64 q.l3] 39)), x.W.cell? ⟨b, 7, none⟩ = some (.map (some m)) := fun x => by
    rw [((unhide M0).has (unhide HB) (fun x => x)).wd x 7, h7]
  have hL : ∀ (x : Wd (w.alloc (.cells #[.int .i64 q.rows, .int .i64 q.cols, .int .i64 q.front, .int .i64 q.l0, .int .i64 q.l1, .int .i64 q.l2, .int .i64 q.l3] 39))) ty, (Builtin.len_ #[162] ty #[.map (some m)]).run Tryz.prog x.W = .ok (.int .i64 (n : Nat)) x.W := fun x ty => (unhide HL) _ ((unhide M0).trans x.h) ty
  have hne := wd_ne (w.alloc (.cells #[.int .i64 q.rows, .int .i64 q.cols, .int .i64 q.front, .int .i64 q.l0, .int .i64 q.l1, .int .i64 q.l2, .int .i64 q.l3] 39))
  cases s with
  | false =>
    clear hrc h7 hL
    go_enter Tryz.func98, Tryz.ntmps98
    go_wp2_with fail
    refine wp_region_wd (w0 := (w.alloc (.cells #[.int .i64 q.rows, .int .i64 q.cols, .int .i64 q.front, .int .i64 q.l0, .int .i64 q.l1, .int .i64 q.l2, .int .i64 q.l3] 39))) (by kernel_rfl) (by kernel_rfl) (Mod.refl _ _) ?_
    repeat (go_big_quiet_step ((go_at_call 96; exact Calls.wd _ ((unhide HA) _))))
    refine wpQuiet_nil ?_
    rintro w3 ⟨⟨_, hm3⟩, rfl⟩
    go_wp2
    go_ret2
    exact ⟨by rw [unhide HV2, if_neg (by simp)]; rfl, (unhide M0).trans hm3⟩
  | true =>
    have hrc := hrc rfl
    by_cases hd : q.rows * q.cols < (n : Int)
    · have HD := hide hd
      go_enter Tryz.func98, Tryz.ntmps98
      go_wp2_with fail
      refine wp_region_wd (w0 := (w.alloc (.cells #[.int .i64 q.rows, .int .i64 q.cols, .int .i64 q.front, .int .i64 q.l0, .int .i64 q.l1, .int .i64 q.l2, .int .i64 q.l3] 39))) (by kernel_rfl) (by kernel_rfl) (Mod.refl _ _) ?_
      repeat (go_big_quiet_step ((go_at_call 96; exact Calls.wd _ ((unhide HA) _))))
      refine wpQuiet_nil ?_
      rintro w3 ⟨⟨_, hm3⟩, rfl⟩
      go_wp2
      go_ret2
      exact ⟨by rw [unhide HV2, if_neg (by have := unhide HD; omega)]; rfl, (unhide M0).trans hm3⟩
    · have HD := hide hd
      have BX := hide fun (w3 : World) (hm3 : Mod No (w.alloc (.cells #[.int .i64 q.rows, .int .i64 q.cols, .int .i64 q.front, .int .i64 q.l0, .int .i64 q.l1, .int .i64 q.l2, .int .i64 q.l3] 39)) w3) => (hm3.has (unhide B0) (fun x => x))
      go_enter Tryz.func98, Tryz.ntmps98
      go_wp2_with fail
      refine wp_region_wd (w0 := (w.alloc (.cells #[.int .i64 q.rows, .int .i64 q.cols, .int .i64 q.front, .int .i64 q.l0, .int .i64 q.l1, .int .i64 q.l2, .int .i64 q.l3] 39))) (by kernel_rfl) (by kernel_rfl) (Mod.refl _ _) ?_
      repeat (go_big_quiet_step ((go_at_call 96; exact Calls.wd _ ((unhide HA) _))))
      refine wpQuiet_nil ?_
      rintro w3 ⟨⟨_, hm3⟩, rfl⟩
      have cb3 := ((unhide BX) w3 hm3).cell
      go_wp2
      go_ret2
      exact ⟨by rw [unhide HV2, if_pos (by have := unhide HD; simp; omega)]; rfl, (unhide M0).trans hm3⟩

theorem look_swap (b : Nat) (c : Cmd) (now : Int) (x y : Value) (hk : c.kind = 9) (w : World)
    (hS : ∀ W, Mod No w W → Calls Tryz.prog 98 #[.pointer (some ⟨b, 0, none⟩), plaV c.pla] W fun e w' => e = .returned (.tuple #[x, y]) ∧ Mod No W w') :
    Calls Tryz.prog 77 #[.pointer (some ⟨b, 0, none⟩), .agg (cmdCells c), .int .i64 now] w fun e w' => e = .returned (.tuple #[x, y]) ∧ Mod No w w' := by
  have HS := hide hS
  have M0 := hide ((Mod.refl No w).alloc (.cells (cmdCells c) 41))
  unfold cmdCells at M0 ⊢
  unfold plaV at HS
  rw [hk] at M0 ⊢
  clear hk hS
  go_enter Tryz.func77, Tryz.ntmps77
  go_wp2_with fail
  refine ((unhide HS) _ (unhide M0)).mono ?_
  rintro e w1 ⟨rfl, m1⟩
  have M1 := hide ((unhide M0).trans m1)
  clear m1
  go_wp2
  go_ret2
  exact ⟨rfl, unhide M1⟩
end Go.Proofs.YthhibagcpjeihaaGreat
