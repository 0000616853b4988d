import Derived.Test.YtgemhmhlcaojcaaTame5
/- A raw step is tamed: the whole. -/
namespace Go.Proofs.Ytgemhmhlcaojcaa
open Go.RowKit
set_option linter.unusedVariables false
set_option linter.unusedSimpArgs false
set_option maxRecDepth 100000
set_option maxHeartbeats 20000000

theorem tamed_any (x0 x1 x2 x3 x4 x5 x6 x7 x8 x9 x10 x11 x12 x13 x14 x15 k fu : Int) (kp sp fa : Value) (hk : -9223372036854775808 ≤ k ∧ k ≤ 9223372036854775807) (hi : Ints #[.int .i64 x0, .int .i64 x1, .int .i64 x2, .int .i64 x3, .int .i64 x4, .int .i64 x5, .int .i64 x6, .int .i64 x7, .int .i64 x8, .int .i64 x9, .int .i64 x10, .int .i64 x11, .int .i64 x12, .int .i64 x13, .int .i64 x14, .int .i64 x15] 16) (w : World) :
    Calls Try.prog 14 #[.agg #[.int .i64 x0, .int .i64 x1, .int .i64 x2, .int .i64 x3, .int .i64 x4, .int .i64 x5, .int .i64 x6, .int .i64 x7, .int .i64 x8, .int .i64 x9, .int .i64 x10, .int .i64 x11, .int .i64 x12, .int .i64 x13, .int .i64 x14, .int .i64 x15, .int .i64 k, .int .i64 fu, kp, sp, fa]] w fun e w' => ∃ cs, e = .returned (.agg cs) ∧ cs.size = 16 ∧ Ints cs 16 ∧ Mod No w w' := by
  have T0 := hide (tamed_start x0 x1 x2 x3 x4 x5 x6 x7 x8 x9 x10 x11 x12 x13 x14 x15 k fu kp sp fa hi w)
  clear hi
  have pk := pick_small k 9 (by omega)
  go_enter Try.func14, Try.ntmps14
  go_wp2_with fail
  refine (pick_any k 9 hk (by omega) _).mono ?_
  rintro e w1 ⟨rfl, rfl⟩
  generalize (((w.alloc (.cells #[.int .i64 x0, .int .i64 x1, .int .i64 x2, .int .i64 x3, .int .i64 x4, .int .i64 x5, .int .i64 x6, .int .i64 x7, .int .i64 x8, .int .i64 x9, .int .i64 x10, .int .i64 x11, .int .i64 x12, .int .i64 x13, .int .i64 x14, .int .i64 x15, .int .i64 k, .int .i64 fu, kp, sp, fa] 41)).alloc (.cells #[.int .i64 0, .int .i64 0, .int .i64 0, .int .i64 0, .int .i64 0, .int .i64 0, .int .i64 0, .int .i64 0, .int .i64 0, .int .i64 0, .int .i64 0, .int .i64 0, .int .i64 0, .int .i64 0, .int .i64 0, .int .i64 0] 37)).alloc (.cells #[.int .i64 x0, .int .i64 x1, .int .i64 x2, .int .i64 x3, .int .i64 x4, .int .i64 x5, .int .i64 x6, .int .i64 x7, .int .i64 x8, .int .i64 x9, .int .i64 x10, .int .i64 x11, .int .i64 x12, .int .i64 x13, .int .i64 x14, .int .i64 x15] 37)) = W0 at *
  obtain ⟨y0, c0, r0⟩ := (unhide T0).cell 0 (by omega)
  obtain ⟨y1, c1, r1⟩ := (unhide T0).cell 1 (by omega)
  have f0 := (unhide T0).froz
  have lt0 := (unhide T0).lt
  have p1 := pick_small y1 3 (by omega)
  have T1 := hide ((unhide T0).set 0 (1 + pickN k 9) (by have := pickN_range k 9 (by omega); omega))
  clear T0
  go_wp2_with fail
  refine (pick_any y1 9 r1 (by omega) _).mono ?_
  rintro e w1 ⟨rfl, rfl⟩
  go_upto_if 16 with fail
  go_cut [] (fun wx => Hid (TameI w wx))
  case first =>
    by_cases h : pickN y1 9 > 0
    · go_wp2_with fail
      refine (pick_any y1 3 r1 (by omega) _).mono ?_
      rintro e w1 ⟨rfl, rfl⟩
      have T2 := hide ((unhide T1).set 1 (1 + pickN y1 3) (by have := pickN_range y1 3 (by omega); omega))
      go_wp2
      go_meet
      exact T2
    · go_wp2
      go_meet
      exact T1
  case rest =>
    clear T1 c1 c0 f0 lt0 r0 r1 p1 pk y1 y0
    have T := hcut
    clear hcut
    generalize wc = wd at *
    clear W0
    go_upto_region 5 with fail
    go_cut [] (fun wx => Hid (TameI w wx))
    case first =>
      obtain ⟨y2, c2, r2⟩ := (unhide T).cell 2 (by omega)
      obtain ⟨y3, c3, r3⟩ := (unhide T).cell 3 (by omega)
      have f0 := (unhide T).froz
      have lt0 := (unhide T).lt
      have p2 := pick_small y2 4 (by omega)
      have p3 := pick_small y3 3 (by omega)
      have q2 := pickN_range y2 4 (by omega)
      have q3 := pickN_range y3 3 (by omega)
      have T2 := hide (((unhide T).set 2 (1 + pickN y2 4) (by omega)).set 3 (1 + pickN y3 3) (by omega)).drew
      clear T
      go_region_with ((first | (go_at_call_of 20 (Value.int IntKind.i64 y2); refine (pick_any y2 4 r2 (by omega) _).mono ?_) | (go_at_call_of 20 (Value.int IntKind.i64 y3); refine (pick_any y3 3 r3 (by omega) _).mono ?_)); rintro e w1 ⟨rfl, rfl⟩)
      all_goals go_wp2
      all_goals go_meet
      all_goals exact T2
    case rest =>
      clear T
      have T := hcut
      clear hcut
      generalize wc = wd6 at *
      go_upto_region 6 with fail
      go_cut [] (fun wx => Hid (TameI w wx))
      case first =>
        obtain ⟨y4, c4, r4⟩ := (unhide T).cell 4 (by omega)
        obtain ⟨y5, c5, r5⟩ := (unhide T).cell 5 (by omega)
        have f0 := (unhide T).froz
        have lt0 := (unhide T).lt
        have p2 := pick_small y4 4 (by omega)
        have p3 := pick_small y5 3 (by omega)
        have q2 := pickN_range y4 4 (by omega)
        have q3 := pickN_range y5 3 (by omega)
        have T2 := hide (((unhide T).set 4 (1 + pickN y4 4) (by omega)).set 5 (1 + pickN y5 3) (by omega)).drew
        clear T
        go_region_with ((first | (go_at_call_of 20 (Value.int IntKind.i64 y4); refine (pick_any y4 4 r4 (by omega) _).mono ?_) | (go_at_call_of 20 (Value.int IntKind.i64 y5); refine (pick_any y5 3 r5 (by omega) _).mono ?_)); rintro e w1 ⟨rfl, rfl⟩)
        all_goals go_wp2
        all_goals go_meet
        all_goals exact T2
      case rest =>
        apply_assumption
        exact tame_b w _ _ _ _ _ _ _ _ _ _ _ _ _ _ _ _ _ _ _ _ _ _ _ _ _ _ _ _ _ _ _ _ _ _ _ _ _ _ _ _ _ _ _ _ _ _ _ _ _ _ _ _ _ _ _ _ _ _ _ _ _ _ _ _ _ _ _ _ _ _ _ _ _ _ _ _ _ _ _ _ _ _ _ _ _ _ _ _ _ _ _ _ _ _ _ _ _ _ _ _ _ _ _ _ _ _ _ _ _ _ _ _ _ _ _ _ _ _ _ _ hcut
end Go.Proofs.Ytgemhmhlcaojcaa
