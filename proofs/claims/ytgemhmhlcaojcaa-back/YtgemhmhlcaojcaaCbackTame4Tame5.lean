import Derived.Test.YtgemhmhlcaojcaaCbackTame3
/- A raw step is tamed: the time, the plane. -/
namespace Go.Proofs.Ytgemhmhlcaojcaa
open Go.RowKit
set_option linter.unusedVariables false
set_option linter.unusedSimpArgs false
set_option maxRecDepth 100000
set_option maxHeartbeats 20000000
theorem tame_c (w wd : World) (s0 s4 s5 s6 s7 s8 s9 s10 s11 s12 s13 s14 s15 s16 s17 s18 s19 s20 s21 s22 s23 s24 s25 s26 s27 s28 s29 s30 s31 s32 s33 s34 s35 s36 s37 s38 s39 s40 s41 s42 s43 s44 s45 s46 s47 s48 s49 s50 s51 s52 s53 s54 s55 s56 s57 s58 s59 s60 s61 s62 s63 s64 s65 s66 s67 s68 s69 s70 s71 s72 s73 s74 s75 s76 s77 s78 s79 s80 s81 s82 s83 s84 s85 s86 s87 s88 s89 s90 s91 s92 s93 s94 s95 s96 s97 s98 s99 s100 s101 s102 s103 s104 s105 s106 s107 s108 s109 s110 s111 s112 s113 s114 s115 s116 s117 s118 s119 s120 s121 : Value) (T : Hid (TameI w wd)) :
    Code.wp Try.prog (tameRest 8) (bodyPost Try.prog Try.f14 fun e w' => ∃ cs, e = .returned (.agg cs) ∧ cs.size = 16 ∧ Ints cs 16 ∧ Mod No w w') ⟨#[s0, .pointer (some ⟨w.heap.size, 0, none⟩), .pointer (some ⟨w.heap.size + 1, 0, none⟩), .pointer (some ⟨w.heap.size + 1 + 1, 0, none⟩), s4, s5, s6, s7, s8, s9, s10, s11, s12, s13, s14, s15, s16, s17, s18, s19, s20, s21, s22, s23, s24, s25, s26, s27, s28, s29, s30, s31, s32, s33, s34, s35, s36, s37, s38, s39, s40, s41, s42, s43, s44, s45, s46, s47, s48, s49, s50, s51, s52, s53, s54, s55, s56, s57, s58, s59, s60, s61, s62, s63, s64, s65, s66, s67, s68, s69, s70, s71, s72, s73, s74, s75, s76, s77, s78, s79, s80, s81, s82, s83, s84, s85, s86, s87, s88, s89, s90, s91, s92, s93, s94, s95, s96, s97, s98, s99, s100, s101, s102, s103, s104, s105, s106, s107, s108, s109, s110, s111, s112, s113, s114, s115, s116, s117, s118, s119, s120, s121], []⟩ wd := by
  conv => arg 2; whnf
  obtain ⟨y0, c0, r0⟩ := (unhide T).cell 0 (by omega)
  obtain ⟨y8, c8, r8⟩ := (unhide T).cell 8 (by omega)
  have f0 := (unhide T).froz
  have lt0 := (unhide T).lt
  have p8 := pick_small y8 20 (by omega)
  have q8 := pickN_range y8 20 (by omega)
  go_upto_if 61 with fail
  go_cut [] (fun wx => Hid (TameI w wx))
  case first =>
    by_cases h : y0 = 8
    · subst h
      go_wp2_with fail
      refine (pick_any y8 20 r8 (by omega) _).mono ?_
      rintro e w1 ⟨rfl, rfl⟩
      have T2 := hide ((unhide T).set 8 (1 + pickN y8 20) (by omega))
      go_wp2
      go_meet
      exact T2
    · go_wp2
      go_meet
      exact T
  case rest =>
    clear T c0 c8 f0 lt0 r0 r8 p8 q8 y0 y8
    have T := hcut
    clear hcut
    generalize wc = wd4 at *
    obtain ⟨y9, c9, r9⟩ := (unhide T).cell 9 (by omega)
    obtain ⟨y10, c10, r10⟩ := (unhide T).cell 10 (by omega)
    obtain ⟨y11, c11, r11⟩ := (unhide T).cell 11 (by omega)
    have f0 := (unhide T).froz
    have lt0 := (unhide T).lt
    have p9 := pick_small y9 5 (by omega)
    have q9 := pickN_range y9 5 (by omega)
    have p10 := pick_small y10 3 (by omega)
    have q10 := pickN_range y10 3 (by omega)
    have n11 := wrap_fit (1 + pickN y9 5 + 1) (by omega) (by omega)
    have q11 := pickN_range y11 (1 + pickN y9 5 + 1) (by omega)
    go_wp2_with fail
    refine (pick_any y9 9 r9 (by omega) _).mono ?_
    rintro e w1 ⟨rfl, rfl⟩
    go_upto_if 71 with fail
    go_cut [] (fun wx => Hid (TameI w wx))
    case first =>
      by_cases h : pickN y9 9 > 0
      · go_wp2_with fail
        refine (pick_any y9 5 r9 (by omega) _).mono ?_
        rintro e w1 ⟨rfl, rfl⟩
        go_wp2_with fail
        refine (pick_any y10 3 r10 (by omega) _).mono ?_
        rintro e w1 ⟨rfl, rfl⟩
        go_wp2_with fail
        refine (pick_any y11 (1 + pickN y9 5 + 1) r11 (by omega) _).mono ?_
        rintro e w1 ⟨rfl, rfl⟩
        have T2 := hide ((((unhide T).set 9 (1 + pickN y9 5) (by omega)).set 10 (1 + pickN y10 3) (by omega)).set 11 (pickN y11 (1 + pickN y9 5 + 1)) (by omega))
        go_wp2
        go_meet
        exact T2
      · go_wp2
        go_meet
        exact T
    case rest =>
      apply_assumption
      exact tame_d w _ _ _ _ _ _ _ _ _ _ _ _ _ _ _ _ _ _ _ _ _ _ _ _ _ _ _ _ _ _ _ _ _ _ _ _ _ _ _ _ _ _ _ _ _ _ _ _ _ _ _ _ _ _ _ _ _ _ _ _ _ _ _ _ _ _ _ _ _ _ _ _ _ _ _ _ _ _ _ _ _ _ _ _ _ _ _ _ _ _ _ _ _ _ _ _ _ _ _ _ _ _ _ _ _ _ _ _ _ _ _ _ _ _ _ _ _ _ _ _ hcut
end Go.Proofs.Ytgemhmhlcaojcaa
/- A raw step is tamed: the class; the whole. -/
namespace Go.Proofs.Ytgemhmhlcaojcaa
open Go.RowKit
set_option linter.unusedVariables false
set_option linter.unusedSimpArgs false
set_option maxRecDepth 100000
set_option maxHeartbeats 20000000
theorem tame_b (w wd : World) (s0 s4 s5 s6 s7 s8 s9 s10 s11 s12 s13 s14 s15 s16 s17 s18 s19 s20 s21 s22 s23 s24 s25 s26 s27 s28 s29 s30 s31 s32 s33 s34 s35 s36 s37 s38 s39 s40 s41 s42 s43 s44 s45 s46 s47 s48 s49 s50 s51 s52 s53 s54 s55 s56 s57 s58 s59 s60 s61 s62 s63 s64 s65 s66 s67 s68 s69 s70 s71 s72 s73 s74 s75 s76 s77 s78 s79 s80 s81 s82 s83 s84 s85 s86 s87 s88 s89 s90 s91 s92 s93 s94 s95 s96 s97 s98 s99 s100 s101 s102 s103 s104 s105 s106 s107 s108 s109 s110 s111 s112 s113 s114 s115 s116 s117 s118 s119 s120 s121 : Value) (T : Hid (TameI w wd)) :
    Code.wp Try.prog (tameRest 6) (bodyPost Try.prog Try.f14 fun e w' => ∃ cs, e = .returned (.agg cs) ∧ cs.size = 16 ∧ Ints cs 16 ∧ Mod No w w') ⟨#[s0, .pointer (some ⟨w.heap.size, 0, none⟩), .pointer (some ⟨w.heap.size + 1, 0, none⟩), .pointer (some ⟨w.heap.size + 1 + 1, 0, none⟩), s4, s5, s6, s7, s8, s9, s10, s11, s12, s13, s14, s15, s16, s17, s18, s19, s20, s21, s22, s23, s24, s25, s26, s27, s28, s29, s30, s31, s32, s33, s34, s35, s36, s37, s38, s39, s40, s41, s42, s43, s44, s45, s46, s47, s48, s49, s50, s51, s52, s53, s54, s55, s56, s57, s58, s59, s60, s61, s62, s63, s64, s65, s66, s67, s68, s69, s70, s71, s72, s73, s74, s75, s76, s77, s78, s79, s80, s81, s82, s83, s84, s85, s86, s87, s88, s89, s90, s91, s92, s93, s94, s95, s96, s97, s98, s99, s100, s101, s102, s103, s104, s105, s106, s107, s108, s109, s110, s111, s112, s113, s114, s115, s116, s117, s118, s119, s120, s121], []⟩ wd := by
  conv => arg 2; whnf
  obtain ⟨y6, c6, r6⟩ := (unhide T).cell 6 (by omega)
  obtain ⟨y7, c7, r7⟩ := (unhide T).cell 7 (by omega)
  have f0 := (unhide T).froz
  have lt0 := (unhide T).lt
  have p6 := pick_small y6 4 (by omega)
  have q6 := pickN_range y6 4 (by omega)
  have p7 := pick_small y7 4 (by omega)
  have q7 := pickN_range y7 4 (by omega)
  have T1 := hide ((unhide T).set 6 (1 + pickN y6 4) (by omega))
  clear T
  go_wp2_with fail
  refine (pick_any y6 4 r6 (by omega) _).mono ?_
  rintro e w1 ⟨rfl, rfl⟩
  go_wp2_with fail
  refine (pick_any y7 9 r7 (by omega) _).mono ?_
  rintro e w1 ⟨rfl, rfl⟩
  go_upto_if 54 with fail
  go_cut [] (fun wx => Hid (TameI w wx))
  case first =>
    by_cases h : pickN y7 9 > 0
    · go_wp2_with fail
      refine (pick_any y7 4 r7 (by omega) _).mono ?_
      rintro e w1 ⟨rfl, rfl⟩
      have T2 := hide ((unhide T1).set 7 (pickN y7 4) (by omega))
      go_wp2
      go_meet
      exact T2
    · go_wp2
      go_meet
      exact T1
  case rest =>
    apply_assumption
    exact tame_c w _ _ _ _ _ _ _ _ _ _ _ _ _ _ _ _ _ _ _ _ _ _ _ _ _ _ _ _ _ _ _ _ _ _ _ _ _ _ _ _ _ _ _ _ _ _ _ _ _ _ _ _ _ _ _ _ _ _ _ _ _ _ _ _ _ _ _ _ _ _ _ _ _ _ _ _ _ _ _ _ _ _ _ _ _ _ _ _ _ _ _ _ _ _ _ _ _ _ _ _ _ _ _ _ _ _ _ _ _ _ _ _ _ _ _ _ _ _ _ _ hcut
end Go.Proofs.Ytgemhmhlcaojcaa
