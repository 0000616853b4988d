import Derived.Test.YtgemhmhlcaojcaaOpen
import Derived.Handy
/- A keeper with one flight is begun. -/
namespace Go.Proofs.Ytgemhmhlcaojcaa
open Go.RowKit
open Go.ChangeMaps (setBlock)
open M
set_option linter.unusedVariables false
set_option linter.unusedSimpArgs false
set_option maxRecDepth 100000
set_option maxHeartbeats 2000000

def p0 : Pla := ⟨4, 3, 2, 10, 8, 5, 1, 1⟩
def addC : Cmd := ⟨1, 1, 0, 0, 0, 0, 0, 0, 0, p0⟩
def fl0 : Nat → Option (Pla × List Sea) := fun j => if j = 1 then some (p0, emptySeats p0) else none

theorem doK_begun : doK 0 noFl addC = (0, 0, fl0) := by
  unfold doK
  rw [if_neg (by decide), if_neg (by decide), if_neg (by decide)]
  simp only [noFl]
  rw [if_pos (by decide), if_pos (by decide)]
  rfl
theorem left_begun0 : leftK fl0 1 0 = (9, 0) := by decide +kernel
theorem left_begun2 : leftK fl0 1 2 = (5, 0) := by decide +kernel

theorem begun_any (tb : Nat) (cs : Array Value) (w : World) (h : Has w tb cs 84) (h8 : cs[8]? = some (.int .i64 1099511627776)) :
    Calls Try.prog 11 #[.pointer (some ⟨tb, 0, none⟩)] w fun e w' => e = .returned (.tuple #[.pointer (some ⟨w.heap.size, 0, none⟩), .bool true]) ∧
      (∃ ow, KeepH w' ow w.heap.size 0 fl0 ∧ ∀ k, k < w.heap.size → ow k = 0) ∧ Mod No w w' := by
  have HO := hide (open_walk tb 1099511627776 cs w h h8 (by omega))
  have K0 := hide (keep_start w)
  have M0 := hide ((Mod.refl No w).alloc (.cells (keepCells 0 noP) 93))
  have l0 := (Has.new w (keepCells 0 noP) 93).lt
  clear h h8
  go_enter Try.func11, Try.ntmps11
  go_wp2_with fail
  refine (unhide HO).mono ?_
  rintro e w1 ⟨rfl, rfl⟩
  clear HO
  generalize w.alloc (.cells (keepCells 0 noP) 93) = w1 at *
  go_wp2_with fail
  have HD : Calls Try.prog 23 #[.pointer (some ⟨w.heap.size, 0, none⟩), .agg #[.int .i64 1, .int .i64 1, .int .i64 0, .int .i64 0, .int .i64 0, .int .i64 0, .int .i64 0, .int .i64 0, .int .i64 0, .int .i64 4, .int .i64 3, .int .i64 2, .int .i64 10, .int .i64 8, .int .i64 5, .int .i64 1]] (w1.alloc (.cells #[.int .i64 4, .int .i64 3, .int .i64 2, .int .i64 10, .int .i64 8, .int .i64 5, .int .i64 1] 35)) fun e w' => e = .returned (.int .i64 0) ∧ Kept (w1.alloc (.cells #[.int .i64 4, .int .i64 3, .int .i64 2, .int .i64 10, .int .i64 8, .int .i64 5, .int .i64 1] 35)) w' (fun k => if k = w.heap.size then 1 else 0) w.heap.size 0 fl0 := by
    have := do_any ((unhide K0).mod ((Mod.refl No _).alloc (.cells #[.int .i64 4, .int .i64 3, .int .i64 2, .int .i64 10, .int .i64 8, .int .i64 5, .int .i64 1] 35)) (fun _ _ x => x)) (by omega) addC
    rw [doK_begun] at this
    exact this
  refine HD.mono ?_
  rintro e w2 ⟨rfl, ⟨ow, k2, ho⟩, m2⟩
  have H0 : ∀ W, Mod No w2 W → Calls Try.prog 22 #[.pointer (some ⟨w.heap.size, 0, none⟩), .int .i64 1, .int .i64 0] W fun e w' => e = .returned (.tuple #[.int .i64 9, .int .i64 0]) ∧ Mod No W w' := fun W hW => by
    have := left_any (k2.mod hW (fun _ _ x => x)) 1 0
    rw [left_begun0] at this
    exact this
  have H2 : ∀ W, Mod No w2 W → Calls Try.prog 22 #[.pointer (some ⟨w.heap.size, 0, none⟩), .int .i64 1, .int .i64 2] W fun e w' => e = .returned (.tuple #[.int .i64 5, .int .i64 0]) ∧ Mod No W w' := fun W hW => by
    have := left_any (k2.mod hW (fun _ _ x => x)) 1 2
    rw [left_begun2] at this
    exact this
  have K2 := hide k2
  have OW := hide ho
  have M2 := hide ((((unhide M0).alloc _).mono (fun k hk (x : No k) => x.elim)).trans' (S := No) m2 (fun i hi hl => hi (if_neg (by omega))))
  have HH0 := hide H0
  have HH2 := hide H2
  clear H0 H2 k2 ho m2 HD K0 M0
  go_wp2_with fail
  refine ((unhide HH0) _ (Mod.refl _ _)).mono ?_
  rintro e w3 ⟨rfl, m3⟩
  have M3 := hide m3
  clear m3
  go_wp2_with fail
  refine ((unhide HH2) _ (unhide M3)).mono ?_
  rintro e w4 ⟨rfl, m4⟩
  have M4 := hide ((unhide M3).trans m4)
  clear m4
  go_wp2
  go_ret2
  refine ⟨rfl, ⟨ow, (unhide K2).mod (unhide M4) (fun _ _ x => x), fun k hk => ?_⟩, (unhide M2).trans (unhide M4)⟩
  rw [(unhide OW) k (by simp; omega)]
  exact if_neg (by omega)

theorem first_any (w : World) : Calls Try.prog 13 #[] w fun e w' => ∃ cs, cs.size = 84 ∧ e = .returned (.pointer (some ⟨w.heap.size, 0, none⟩)) ∧ Has w' w.heap.size cs 86 ∧ Mod No w w' := by
  go_enter Try.func13, Try.ntmps13
  go_wp2
  go_ret
  exact ⟨_, rfl, rfl, Has.new w _ _, (Mod.refl No w).alloc _⟩
end Go.Proofs.Ytgemhmhlcaojcaa
