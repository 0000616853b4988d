import Derived.Test.YtgemhmhlcaojcaaSwapM
import Derived.BigQuiet
import Derived.Handy
import Derived.Deep.QuietTactic
/- How many seats there are; the place that has so many ahead of it. -/
namespace Go.Proofs.Ytgemhmhlcaojcaa
open Go.RowKit
open Go.ChangeMaps (setBlock)
open M
set_option linter.unusedVariables false
set_option linter.unusedSimpArgs false
set_option maxRecDepth 100000

theorem size_walk (b : Nat) (cs : Array Value) (T : TypeId) (R C : Int) (w : World) (h : Has w b cs T) (h0 : cs[0]? = some (.int .i64 R)) (h1 : cs[1]? = some (.int .i64 C)) (hw : IntKind.i64.wrap (R * C) = R * C) :
    Calls Try.prog 51 #[.pointer (some ⟨b, 0, none⟩)] w fun e w' => e = .returned (.int .i64 (R * C)) ∧ Mod No w w' := by
  have c0 := h.cell 0
  have c1 := h.cell 1
  rw [h0] at c0
  rw [h1] at c1
  have hlt := h.lt
  clear h h0 h1
  go_enter Try.func51, Try.ntmps51
  go_wp2
  go_quiet (fail)
  go_wp2
  go_ret
  exact ⟨rfl, (Mod.refl _ _).drewN _⟩

theorem placeAt_walk (b : Nat) (cs : Array Value) (T : TypeId) (C a : Nat) (w : World) (h : Has w b cs T) (h1 : cs[1]? = some (.int .i64 (C : Int))) (hC : 1 ≤ C ∧ C ≤ 6) (ha : a ≤ 1000) :
    Calls Try.prog 52 #[.pointer (some ⟨b, 0, none⟩), .int .i64 (a : Int)] w fun e w' => e = .returned (.agg #[.int .i64 ((a : Int) / C + 1), .int .i64 ((a : Int) % C + 1)]) ∧ Mod No w w' := by
  have c1 := h.cell 1
  rw [h1] at c1
  have hlt := h.lt
  have d0 : (C : Int) ≠ 0 := by omega
  have t1 : Int.tdiv (a : Int) C = (a : Int) / C := Int.tdiv_eq_ediv_of_nonneg (by omega)
  have t2 : Int.tmod (a : Int) C = (a : Int) % C := Int.tmod_eq_emod_of_nonneg (by omega)
  have b1 : 0 ≤ (a : Int) / C := Int.ediv_nonneg (by omega) (by omega)
  have b2 : (a : Int) / C ≤ a := Int.ediv_le_self _ (by omega)
  have b3 : 0 ≤ (a : Int) % C := Int.emod_nonneg _ d0
  have b4 : (a : Int) % C < C := Int.emod_lt_of_pos _ (by omega)
  have w1 : IntKind.i64.wrap ((a : Int) / C) = (a : Int) / C := wrap_id _ (by omega) (by omega)
  have w2 : IntKind.i64.wrap ((a : Int) % C) = (a : Int) % C := wrap_id _ (by omega) (by omega)
  have w3 : IntKind.i64.wrap ((a : Int) / C + 1) = (a : Int) / C + 1 := wrap_id _ (by omega) (by omega)
  have w4 : IntKind.i64.wrap ((a : Int) % C + 1) = (a : Int) % C + 1 := wrap_id _ (by omega) (by omega)
  clear h h1
  go_enter Try.func52, Try.ntmps52
  go_wp2
  go_region
  all_goals go_wp2
  all_goals go_returns
  all_goals exact ⟨rfl, ((Mod.refl _ _).alloc _).drew⟩
end Go.Proofs.Ytgemhmhlcaojcaa
