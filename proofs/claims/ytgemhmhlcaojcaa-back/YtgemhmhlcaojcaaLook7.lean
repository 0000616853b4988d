import Derived.Test.YtgemhmhlcaojcaaLook4
import Derived.Test.YtgemhmhlcaojcaaLook5
/- A flight more: looked over. -/
namespace Go.Proofs.Ytgemhmhlcaojcaa
open Go.RowKit
open Go.ChangeMaps (setBlock)
open M
set_option linter.unusedVariables false
set_option linter.unusedSimpArgs false
set_option maxRecDepth 100000
set_option maxHeartbeats 2000000

def addV (p : Pla) : Value := if p.sized = true ∧ p.limited = true then grant (startV p) else refuse 4

theorem lookAdd_walk (p : Pla) (w : World) :
    Calls Try.prog 47 #[plaV p] w fun e w' => e = .returned (addV p) ∧ Mod No w w' := by
  have HA := hide fun W => shape_any p W
  have HB := hide fun W => limits_any p.l0 p.l1 p.l2 p.l3 W
  have hl : p.limited = decide (0 ≤ p.l0 ∧ p.l0 ≤ 200 ∧ 0 ≤ p.l1 ∧ p.l1 ≤ p.l0 ∧ 0 ≤ p.l2 ∧ p.l2 ≤ p.l1 ∧ 0 ≤ p.l3 ∧ p.l3 ≤ p.l2) := rfl
  rw [← hl] at HB
  clear hl
  have HV := hide (show ∀ s m, p.sized = s → p.limited = m → addV p = if s = true ∧ m = true then grant (startV p) else refuse 4 by rintro s m rfl rfl; rfl)
  unfold plaV at HA ⊢
  obtain ⟨s, hs⟩ : ∃ s, p.sized = s := ⟨_, rfl⟩
  obtain ⟨m, hm⟩ : ∃ m, p.limited = m := ⟨_, rfl⟩
  rw [hs] at HA
  rw [hm] at HB
  have M0 := hide ((Mod.refl No w).alloc (.cells #[.int .i64 p.rows, .int .i64 p.cols, .int .i64 p.front, .int .i64 p.l0, .int .i64 p.l1, .int .i64 p.l2, .int .i64 p.l3] 35))
  have B0 := hide (Has.new w #[.int .i64 p.rows, .int .i64 p.cols, .int .i64 p.front, .int .i64 p.l0, .int .i64 p.l1, .int .i64 p.l2, .int .i64 p.l3] 35)
  have HV2 := hide ((unhide HV) s m hs hm)
  clear hs hm HV
  cases s with
  | false =>
    go_enter Try.func47, Try.ntmps47
    go_wp2_with fail
    refine ((unhide HA) _).mono ?_
    rintro e w1 ⟨rfl, m1⟩
    have M1 := hide ((unhide M0).trans m1)
    clear m1
    go_wp2
    go_ret2
    exact ⟨by rw [unhide HV2, if_neg (by simp)]; rfl, unhide M1⟩
  | true =>
    go_enter Try.func47, Try.ntmps47
    go_wp2_with fail
    refine ((unhide HA) _).mono ?_
    rintro e w1 ⟨rfl, m1⟩
    have cb := (m1.has (unhide B0) (fun x => x)).cell
    have M1 := hide ((unhide M0).trans m1)
    have B1 := hide (m1.has (unhide B0) (fun x => x))
    clear m1
    go_wp2_with fail
    refine ((unhide HB) _).mono ?_
    rintro e w2 ⟨rfl, m2⟩
    have cb2 := (m2.has (unhide B1) (fun x => x)).cell
    have M2 := hide ((unhide M1).trans m2)
    clear m2 cb
    cases m with
    | true =>
      go_wp2
      go_ret2
      exact ⟨by rw [unhide HV2, if_pos (by simp)]; rfl, unhide M2⟩
    | false =>
      go_wp2
      go_ret2
      exact ⟨by rw [unhide HV2, if_neg (by simp)]; rfl, unhide M2⟩
end Go.Proofs.Ytgemhmhlcaojcaa
