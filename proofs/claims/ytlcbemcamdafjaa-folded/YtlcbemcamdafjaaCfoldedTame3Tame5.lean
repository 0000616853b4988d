import Derived.Test.YtlcbemcamdafjaaCfoldedPaged2Tame2
/- A raw step is tamed: the limits, and the end. -/
namespace Go.Proofs.Ytlcbemcamdafjaa
open Go.RowKit
set_option linter.unusedVariables false
set_option linter.unusedSimpArgs false
set_option maxRecDepth 100000
set_option maxHeartbeats 20000000
theorem tame_d (w wd : World) (s0 s4 s5 s6 s7 s8 s9 s10 s11 s12 s13 s14 s15 s16 s17 s18 s19 s20 s21 s22 s23 s24 s25 s26 s27 s28 s29 s30 s31 s32 s33 s34 s35 s36 s37 s38 s39 s40 s41 s42 s43 s44 s45 s46 s47 s48 s49 s50 s51 s52 s53 s54 s55 s56 s57 s58 s59 s60 s61 s62 s63 s64 s65 s66 s67 s68 s69 s70 s71 s72 s73 s74 s75 s76 s77 s78 s79 s80 s81 s82 s83 s84 s85 s86 s87 s88 s89 s90 s91 s92 s93 s94 s95 s96 s97 s98 s99 s100 s101 s102 s103 s104 s105 s106 s107 s108 s109 s110 s111 s112 s113 s114 s115 s116 s117 s118 s119 s120 s121 : Value) (T : Hid (TameI w wd)) :
    Code.wp Try.prog (tameRest 10) (bodyPost Try.prog Try.f15 fun e w' => ∃ cs, e = .returned (.agg cs) ∧ cs.size = 16 ∧ Ints cs 16 ∧ Mod No w w') ⟨#[s0, .pointer (some ⟨w.heap.size, 0, none⟩), .pointer (some ⟨w.heap.size + 1, 0, none⟩), .pointer (some ⟨w.heap.size + 1 + 1, 0, none⟩), s4, s5, s6, s7, s8, s9, s10, s11, s12, s13, s14, s15, s16, s17, s18, s19, s20, s21, s22, s23, s24, s25, s26, s27, s28, s29, s30, s31, s32, s33, s34, s35, s36, s37, s38, s39, s40, s41, s42, s43, s44, s45, s46, s47, s48, s49, s50, s51, s52, s53, s54, s55, s56, s57, s58, s59, s60, s61, s62, s63, s64, s65, s66, s67, s68, s69, s70, s71, s72, s73, s74, s75, s76, s77, s78, s79, s80, s81, s82, s83, s84, s85, s86, s87, s88, s89, s90, s91, s92, s93, s94, s95, s96, s97, s98, s99, s100, s101, s102, s103, s104, s105, s106, s107, s108, s109, s110, s111, s112, s113, s114, s115, s116, s117, s118, s119, s120, s121], []⟩ wd := by
  conv => arg 2; whnf
  go_wp2_with fail
  go_loopw [4, 5] (fun s4 s5 wr => ∃ (m : Int) (j : Nat), s4 = .int .i64 m ∧ s5 = .int .i64 j ∧ 0 ≤ m ∧ m ≤ 8 ∧ j ≤ 4 ∧ Hid (TameI w wr)) (fun _ i _ => 4 - (intOf i).toNat)
  case atStart => exact ⟨8, 0, rfl, rfl, by omega, by omega, by omega, T⟩
  case round =>
    obtain ⟨m, j, rfl, rfl, hm0, hm8, hj, T2⟩ := hrel
    clear T
    obtain ⟨y12, c12, r12⟩ := (unhide T2).cell 12 (by omega)
    obtain ⟨y13, c13, r13⟩ := (unhide T2).cell 13 (by omega)
    obtain ⟨y14, c14, r14⟩ := (unhide T2).cell 14 (by omega)
    obtain ⟨y15, c15, r15⟩ := (unhide T2).cell 15 (by omega)
    have f0 := (unhide T2).froz
    have lt0 := (unhide T2).lt
    have hm1 := wrap_fit (m + 1) (by omega) (by omega)
    by_cases hj4 : j < 4
    case neg =>
      have hj4i : ¬ (j : Int) < 4 := by omega
      go_upto_region 22 with fail
      obtain ⟨cs, hz, hI, hC⟩ := (unhide T2).cmd
      obtain ⟨cr, hrz, hR⟩ := (unhide T2).res
      have HM := hide (unhide T2).mod
      clear c12 c13 c14 c15 f0 r12 r13 r14 r15 
      obtain ⟨z0, z1, z2, z3, z4, z5, z6, z7, z8, z9, z10, z11, z12, z13, z14, z15, rfl⟩ := hI.lits hz
      have HI := hide hI
      clear hI
      refine wp_region_list ?_
      refine (wpList_load_has rfl 37 _ rfl (w.heap.size + 1 + 1) 0 rfl #[.int .i64 z0, .int .i64 z1, .int .i64 z2, .int .i64 z3, .int .i64 z4, .int .i64 z5, .int .i64 z6, .int .i64 z7, .int .i64 z8, .int .i64 z9, .int .i64 z10, .int .i64 z11, .int .i64 z12, .int .i64 z13, .int .i64 z14, .int .i64 z15] 37 hC #[.int .i64 z0, .int .i64 z1, .int .i64 z2, .int .i64 z3, .int .i64 z4, .int .i64 z5, .int .i64 z6, .int .i64 z7, .int .i64 z8, .int .i64 z9, .int .i64 z10, .int .i64 z11, .int .i64 z12, .int .i64 z13, .int .i64 z14, .int .i64 z15] (fun j v h => by rw [Nat.zero_add]; simpa using h) row44 size44 ?_)
      refine (wpList_store_has rfl 37 _ _ rfl (w.heap.size + 1) _ rfl rfl cr 37 hR hrz.symm size44 (by simp [Value.oneCell']) ?_)
      intro w5 h5 m5
      have d0 : w5.cell? ⟨w.heap.size + 1, 0, none⟩ = some (.int .i64 z0) := h5.cell 0
      have d1 : w5.cell? ⟨w.heap.size + 1, 1, none⟩ = some (.int .i64 z1) := h5.cell 1
      have d2 : w5.cell? ⟨w.heap.size + 1, 2, none⟩ = some (.int .i64 z2) := h5.cell 2
      have d3 : w5.cell? ⟨w.heap.size + 1, 3, none⟩ = some (.int .i64 z3) := h5.cell 3
      have d4 : w5.cell? ⟨w.heap.size + 1, 4, none⟩ = some (.int .i64 z4) := h5.cell 4
      have d5 : w5.cell? ⟨w.heap.size + 1, 5, none⟩ = some (.int .i64 z5) := h5.cell 5
      have d6 : w5.cell? ⟨w.heap.size + 1, 6, none⟩ = some (.int .i64 z6) := h5.cell 6
      have d7 : w5.cell? ⟨w.heap.size + 1, 7, none⟩ = some (.int .i64 z7) := h5.cell 7
      have d8 : w5.cell? ⟨w.heap.size + 1, 8, none⟩ = some (.int .i64 z8) := h5.cell 8
      have d9 : w5.cell? ⟨w.heap.size + 1, 9, none⟩ = some (.int .i64 z9) := h5.cell 9
      have d10 : w5.cell? ⟨w.heap.size + 1, 10, none⟩ = some (.int .i64 z10) := h5.cell 10
      have d11 : w5.cell? ⟨w.heap.size + 1, 11, none⟩ = some (.int .i64 z11) := h5.cell 11
      have d12 : w5.cell? ⟨w.heap.size + 1, 12, none⟩ = some (.int .i64 z12) := h5.cell 12
      have d13 : w5.cell? ⟨w.heap.size + 1, 13, none⟩ = some (.int .i64 z13) := h5.cell 13
      have d14 : w5.cell? ⟨w.heap.size + 1, 14, none⟩ = some (.int .i64 z14) := h5.cell 14
      have d15 : w5.cell? ⟨w.heap.size + 1, 15, none⟩ = some (.int .i64 z15) := h5.cell 15
      have M5 := hide ((unhide HM).trans' (S := No) m5 (fun i e hl => by subst e; omega))
      have l5 := h5.lt
      clear m5 h5 hR hC
      go_wp2
      refine bodyPost_ret (by simp [results, Try.results15, go_sem, d0, d1, d2, d3, d4, d5, d6, d7, d8, d9, d10, d11, d12, d13, d14, d15]; try rfl) rfl ?_
      exact ⟨_, rfl, rfl, unhide HI, unhide M5⟩
    have hj4i : (j : Int) < 4 := by omega
    by_cases hg : pickN y12 9 > 0
    case neg =>
      go_wp2_with fail
      refine (pick_any y12 9 r12 (by omega) _).mono ?_
      rintro e w1 ⟨rfl, rfl⟩
      go_upto_region 22 with fail
      obtain ⟨cs, hz, hI, hC⟩ := (unhide T2).cmd
      obtain ⟨cr, hrz, hR⟩ := (unhide T2).res
      have HM := hide (unhide T2).mod
      clear c12 c13 c14 c15 f0 r12 r13 r14 r15 
      obtain ⟨z0, z1, z2, z3, z4, z5, z6, z7, z8, z9, z10, z11, z12, z13, z14, z15, rfl⟩ := hI.lits hz
      have HI := hide hI
      clear hI
      refine wp_region_list ?_
      refine (wpList_load_has rfl 37 _ rfl (w.heap.size + 1 + 1) 0 rfl #[.int .i64 z0, .int .i64 z1, .int .i64 z2, .int .i64 z3, .int .i64 z4, .int .i64 z5, .int .i64 z6, .int .i64 z7, .int .i64 z8, .int .i64 z9, .int .i64 z10, .int .i64 z11, .int .i64 z12, .int .i64 z13, .int .i64 z14, .int .i64 z15] 37 hC #[.int .i64 z0, .int .i64 z1, .int .i64 z2, .int .i64 z3, .int .i64 z4, .int .i64 z5, .int .i64 z6, .int .i64 z7, .int .i64 z8, .int .i64 z9, .int .i64 z10, .int .i64 z11, .int .i64 z12, .int .i64 z13, .int .i64 z14, .int .i64 z15] (fun j v h => by rw [Nat.zero_add]; simpa using h) row44 size44 ?_)
      refine (wpList_store_has rfl 37 _ _ rfl (w.heap.size + 1) _ rfl rfl cr 37 hR hrz.symm size44 (by simp [Value.oneCell']) ?_)
      intro w5 h5 m5
      have d0 : w5.cell? ⟨w.heap.size + 1, 0, none⟩ = some (.int .i64 z0) := h5.cell 0
      have d1 : w5.cell? ⟨w.heap.size + 1, 1, none⟩ = some (.int .i64 z1) := h5.cell 1
      have d2 : w5.cell? ⟨w.heap.size + 1, 2, none⟩ = some (.int .i64 z2) := h5.cell 2
      have d3 : w5.cell? ⟨w.heap.size + 1, 3, none⟩ = some (.int .i64 z3) := h5.cell 3
      have d4 : w5.cell? ⟨w.heap.size + 1, 4, none⟩ = some (.int .i64 z4) := h5.cell 4
      have d5 : w5.cell? ⟨w.heap.size + 1, 5, none⟩ = some (.int .i64 z5) := h5.cell 5
      have d6 : w5.cell? ⟨w.heap.size + 1, 6, none⟩ = some (.int .i64 z6) := h5.cell 6
      have d7 : w5.cell? ⟨w.heap.size + 1, 7, none⟩ = some (.int .i64 z7) := h5.cell 7
      have d8 : w5.cell? ⟨w.heap.size + 1, 8, none⟩ = some (.int .i64 z8) := h5.cell 8
      have d9 : w5.cell? ⟨w.heap.size + 1, 9, none⟩ = some (.int .i64 z9) := h5.cell 9
      have d10 : w5.cell? ⟨w.heap.size + 1, 10, none⟩ = some (.int .i64 z10) := h5.cell 10
      have d11 : w5.cell? ⟨w.heap.size + 1, 11, none⟩ = some (.int .i64 z11) := h5.cell 11
      have d12 : w5.cell? ⟨w.heap.size + 1, 12, none⟩ = some (.int .i64 z12) := h5.cell 12
      have d13 : w5.cell? ⟨w.heap.size + 1, 13, none⟩ = some (.int .i64 z13) := h5.cell 13
      have d14 : w5.cell? ⟨w.heap.size + 1, 14, none⟩ = some (.int .i64 z14) := h5.cell 14
      have d15 : w5.cell? ⟨w.heap.size + 1, 15, none⟩ = some (.int .i64 z15) := h5.cell 15
      have M5 := hide ((unhide HM).trans' (S := No) m5 (fun i e hl => by subst e; omega))
      have l5 := h5.lt
      clear m5 h5 hR hC
      go_wp2
      refine bodyPost_ret (by simp [results, Try.results15, go_sem, d0, d1, d2, d3, d4, d5, d6, d7, d8, d9, d10, d11, d12, d13, d14, d15]; try rfl) rfl ?_
      exact ⟨_, rfl, rfl, unhide HI, unhide M5⟩
    have : j = 0 ∨ j = 1 ∨ j = 2 ∨ j = 3 := by omega
    rcases this with rfl | rfl | rfl | rfl
    · have qq := pickN_range y12 (m + 1) (by omega)
      have T3 := hide ((unhide T2).set 12 (pickN y12 (m + 1)) (by omega))
      have hj1 : IntKind.i64.wrap ((0 : Int) + 1) = 1 := wrap_fit _ (by omega) (by omega)
      clear T2
      go_wp2_with fail
      refine (pick_any y12 9 r12 (by omega) _).mono ?_
      rintro e w1 ⟨rfl, rfl⟩
      go_wp2_with fail
      refine (pick_any y12 (m + 1) r12 (by omega) _).mono ?_
      rintro e w1 ⟨rfl, rfl⟩
      go_wp2
      exact ⟨⟨_, 1, rfl, rfl, by omega, by omega, by omega, T3⟩, by simp [intOf]⟩
    · have qq := pickN_range y13 (m + 1) (by omega)
      have T3 := hide ((unhide T2).set 13 (pickN y13 (m + 1)) (by omega))
      have hj1 : IntKind.i64.wrap ((1 : Int) + 1) = 2 := wrap_fit _ (by omega) (by omega)
      clear T2
      go_wp2_with fail
      refine (pick_any y12 9 r12 (by omega) _).mono ?_
      rintro e w1 ⟨rfl, rfl⟩
      go_wp2_with fail
      refine (pick_any y13 (m + 1) r13 (by omega) _).mono ?_
      rintro e w1 ⟨rfl, rfl⟩
      go_wp2
      exact ⟨⟨_, 2, rfl, rfl, by omega, by omega, by omega, T3⟩, by simp [intOf]⟩
    · have qq := pickN_range y14 (m + 1) (by omega)
      have T3 := hide ((unhide T2).set 14 (pickN y14 (m + 1)) (by omega))
      have hj1 : IntKind.i64.wrap ((2 : Int) + 1) = 3 := wrap_fit _ (by omega) (by omega)
      clear T2
      go_wp2_with fail
      refine (pick_any y12 9 r12 (by omega) _).mono ?_
      rintro e w1 ⟨rfl, rfl⟩
      go_wp2_with fail
      refine (pick_any y14 (m + 1) r14 (by omega) _).mono ?_
      rintro e w1 ⟨rfl, rfl⟩
      go_wp2
      exact ⟨⟨_, 3, rfl, rfl, by omega, by omega, by omega, T3⟩, by simp [intOf]⟩
    · have qq := pickN_range y15 (m + 1) (by omega)
      have T3 := hide ((unhide T2).set 15 (pickN y15 (m + 1)) (by omega))
      have hj1 : IntKind.i64.wrap ((3 : Int) + 1) = 4 := wrap_fit _ (by omega) (by omega)
      clear T2
      go_wp2_with fail
      refine (pick_any y12 9 r12 (by omega) _).mono ?_
      rintro e w1 ⟨rfl, rfl⟩
      go_wp2_with fail
      refine (pick_any y15 (m + 1) r15 (by omega) _).mono ?_
      rintro e w1 ⟨rfl, rfl⟩
      go_wp2
      exact ⟨⟨_, 4, rfl, rfl, by omega, by omega, by omega, T3⟩, by simp [intOf]⟩
end Go.Proofs.Ytlcbemcamdafjaa
/- A raw step is tamed: the time, the plane. -/
namespace Go.Proofs.Ytlcbemcamdafjaa
open Go.RowKit
set_option linter.unusedVariables false
set_option linter.unusedSimpArgs false
set_option maxRecDepth 100000
set_option maxHeartbeats 20000000
theorem tame_c (w wd : World) (s0 s4 s5 s6 s7 s8 s9 s10 s11 s12 s13 s14 s15 s16 s17 s18 s19 s20 s21 s22 s23 s24 s25 s26 s27 s28 s29 s30 s31 s32 s33 s34 s35 s36 s37 s38 s39 s40 s41 s42 s43 s44 s45 s46 s47 s48 s49 s50 s51 s52 s53 s54 s55 s56 s57 s58 s59 s60 s61 s62 s63 s64 s65 s66 s67 s68 s69 s70 s71 s72 s73 s74 s75 s76 s77 s78 s79 s80 s81 s82 s83 s84 s85 s86 s87 s88 s89 s90 s91 s92 s93 s94 s95 s96 s97 s98 s99 s100 s101 s102 s103 s104 s105 s106 s107 s108 s109 s110 s111 s112 s113 s114 s115 s116 s117 s118 s119 s120 s121 : Value) (T : Hid (TameI w wd)) :
    Code.wp Try.prog (tameRest 8) (bodyPost Try.prog Try.f15 fun e w' => ∃ cs, e = .returned (.agg cs) ∧ cs.size = 16 ∧ Ints cs 16 ∧ Mod No w w') ⟨#[s0, .pointer (some ⟨w.heap.size, 0, none⟩), .pointer (some ⟨w.heap.size + 1, 0, none⟩), .pointer (some ⟨w.heap.size + 1 + 1, 0, none⟩), s4, s5, s6, s7, s8, s9, s10, s11, s12, s13, s14, s15, s16, s17, s18, s19, s20, s21, s22, s23, s24, s25, s26, s27, s28, s29, s30, s31, s32, s33, s34, s35, s36, s37, s38, s39, s40, s41, s42, s43, s44, s45, s46, s47, s48, s49, s50, s51, s52, s53, s54, s55, s56, s57, s58, s59, s60, s61, s62, s63, s64, s65, s66, s67, s68, s69, s70, s71, s72, s73, s74, s75, s76, s77, s78, s79, s80, s81, s82, s83, s84, s85, s86, s87, s88, s89, s90, s91, s92, s93, s94, s95, s96, s97, s98, s99, s100, s101, s102, s103, s104, s105, s106, s107, s108, s109, s110, s111, s112, s113, s114, s115, s116, s117, s118, s119, s120, s121], []⟩ wd := by
  conv => arg 2; whnf
  obtain ⟨y0, c0, r0⟩ := (unhide T).cell 0 (by omega)
  obtain ⟨y8, c8, r8⟩ := (unhide T).cell 8 (by omega)
  have f0 := (unhide T).froz
  have lt0 := (unhide T).lt
  have p8 := pick_small y8 20 (by omega)
  have q8 := pickN_range y8 20 (by omega)
  go_upto_if 61 with fail
  go_cut [] (fun wx => Hid (TameI w wx))
  case first =>
    by_cases h : y0 = 8
    · subst h
      go_wp2_with fail
      refine (pick_any y8 20 r8 (by omega) _).mono ?_
      rintro e w1 ⟨rfl, rfl⟩
      have T2 := hide ((unhide T).set 8 (1 + pickN y8 20) (by omega))
      go_wp2
      go_meet
      exact T2
    · go_wp2
      go_meet
      exact T
  case rest =>
    clear T c0 c8 f0 lt0 r0 r8 p8 q8 y0 y8
    have T := hcut
    clear hcut
    generalize wc = wd4 at *
    obtain ⟨y9, c9, r9⟩ := (unhide T).cell 9 (by omega)
    obtain ⟨y10, c10, r10⟩ := (unhide T).cell 10 (by omega)
    obtain ⟨y11, c11, r11⟩ := (unhide T).cell 11 (by omega)
    have f0 := (unhide T).froz
    have lt0 := (unhide T).lt
    have p9 := pick_small y9 5 (by omega)
    have q9 := pickN_range y9 5 (by omega)
    have p10 := pick_small y10 3 (by omega)
    have q10 := pickN_range y10 3 (by omega)
    have n11 := wrap_fit (1 + pickN y9 5 + 1) (by omega) (by omega)
    have q11 := pickN_range y11 (1 + pickN y9 5 + 1) (by omega)
    go_wp2_with fail
    refine (pick_any y9 9 r9 (by omega) _).mono ?_
    rintro e w1 ⟨rfl, rfl⟩
    go_upto_if 71 with fail
    go_cut [] (fun wx => Hid (TameI w wx))
    case first =>
      by_cases h : pickN y9 9 > 0
      · go_wp2_with fail
        refine (pick_any y9 5 r9 (by omega) _).mono ?_
        rintro e w1 ⟨rfl, rfl⟩
        go_wp2_with fail
        refine (pick_any y10 3 r10 (by omega) _).mono ?_
        rintro e w1 ⟨rfl, rfl⟩
        go_wp2_with fail
        refine (pick_any y11 (1 + pickN y9 5 + 1) r11 (by omega) _).mono ?_
        rintro e w1 ⟨rfl, rfl⟩
        have T2 := hide ((((unhide T).set 9 (1 + pickN y9 5) (by omega)).set 10 (1 + pickN y10 3) (by omega)).set 11 (pickN y11 (1 + pickN y9 5 + 1)) (by omega))
        go_wp2
        go_meet
        exact T2
      · go_wp2
        go_meet
        exact T
    case rest =>
      apply_assumption
      exact tame_d w _ _ _ _ _ _ _ _ _ _ _ _ _ _ _ _ _ _ _ _ _ _ _ _ _ _ _ _ _ _ _ _ _ _ _ _ _ _ _ _ _ _ _ _ _ _ _ _ _ _ _ _ _ _ _ _ _ _ _ _ _ _ _ _ _ _ _ _ _ _ _ _ _ _ _ _ _ _ _ _ _ _ _ _ _ _ _ _ _ _ _ _ _ _ _ _ _ _ _ _ _ _ _ _ _ _ _ _ _ _ _ _ _ _ _ _ _ _ _ _ hcut
end Go.Proofs.Ytlcbemcamdafjaa
/- A raw step is tamed: the class; the whole. -/
namespace Go.Proofs.Ytlcbemcamdafjaa
open Go.RowKit
set_option linter.unusedVariables false
set_option linter.unusedSimpArgs false
set_option maxRecDepth 100000
set_option maxHeartbeats 20000000
theorem tame_b (w wd : World) (s0 s4 s5 s6 s7 s8 s9 s10 s11 s12 s13 s14 s15 s16 s17 s18 s19 s20 s21 s22 s23 s24 s25 s26 s27 s28 s29 s30 s31 s32 s33 s34 s35 s36 s37 s38 s39 s40 s41 s42 s43 s44 s45 s46 s47 s48 s49 s50 s51 s52 s53 s54 s55 s56 s57 s58 s59 s60 s61 s62 s63 s64 s65 s66 s67 s68 s69 s70 s71 s72 s73 s74 s75 s76 s77 s78 s79 s80 s81 s82 s83 s84 s85 s86 s87 s88 s89 s90 s91 s92 s93 s94 s95 s96 s97 s98 s99 s100 s101 s102 s103 s104 s105 s106 s107 s108 s109 s110 s111 s112 s113 s114 s115 s116 s117 s118 s119 s120 s121 : Value) (T : Hid (TameI w wd)) :
    Code.wp Try.prog (tameRest 6) (bodyPost Try.prog Try.f15 fun e w' => ∃ cs, e = .returned (.agg cs) ∧ cs.size = 16 ∧ Ints cs 16 ∧ Mod No w w') ⟨#[s0, .pointer (some ⟨w.heap.size, 0, none⟩), .pointer (some ⟨w.heap.size + 1, 0, none⟩), .pointer (some ⟨w.heap.size + 1 + 1, 0, none⟩), s4, s5, s6, s7, s8, s9, s10, s11, s12, s13, s14, s15, s16, s17, s18, s19, s20, s21, s22, s23, s24, s25, s26, s27, s28, s29, s30, s31, s32, s33, s34, s35, s36, s37, s38, s39, s40, s41, s42, s43, s44, s45, s46, s47, s48, s49, s50, s51, s52, s53, s54, s55, s56, s57, s58, s59, s60, s61, s62, s63, s64, s65, s66, s67, s68, s69, s70, s71, s72, s73, s74, s75, s76, s77, s78, s79, s80, s81, s82, s83, s84, s85, s86, s87, s88, s89, s90, s91, s92, s93, s94, s95, s96, s97, s98, s99, s100, s101, s102, s103, s104, s105, s106, s107, s108, s109, s110, s111, s112, s113, s114, s115, s116, s117, s118, s119, s120, s121], []⟩ wd := by
  conv => arg 2; whnf
  obtain ⟨y6, c6, r6⟩ := (unhide T).cell 6 (by omega)
  obtain ⟨y7, c7, r7⟩ := (unhide T).cell 7 (by omega)
  have f0 := (unhide T).froz
  have lt0 := (unhide T).lt
  have p6 := pick_small y6 4 (by omega)
  have q6 := pickN_range y6 4 (by omega)
  have p7 := pick_small y7 4 (by omega)
  have q7 := pickN_range y7 4 (by omega)
  have T1 := hide ((unhide T).set 6 (1 + pickN y6 4) (by omega))
  clear T
  go_wp2_with fail
  refine (pick_any y6 4 r6 (by omega) _).mono ?_
  rintro e w1 ⟨rfl, rfl⟩
  go_wp2_with fail
  refine (pick_any y7 9 r7 (by omega) _).mono ?_
  rintro e w1 ⟨rfl, rfl⟩
  go_upto_if 54 with fail
  go_cut [] (fun wx => Hid (TameI w wx))
  case first =>
    by_cases h : pickN y7 9 > 0
    · go_wp2_with fail
      refine (pick_any y7 4 r7 (by omega) _).mono ?_
      rintro e w1 ⟨rfl, rfl⟩
      have T2 := hide ((unhide T1).set 7 (pickN y7 4) (by omega))
      go_wp2
      go_meet
      exact T2
    · go_wp2
      go_meet
      exact T1
  case rest =>
    apply_assumption
    exact tame_c w _ _ _ _ _ _ _ _ _ _ _ _ _ _ _ _ _ _ _ _ _ _ _ _ _ _ _ _ _ _ _ _ _ _ _ _ _ _ _ _ _ _ _ _ _ _ _ _ _ _ _ _ _ _ _ _ _ _ _ _ _ _ _ _ _ _ _ _ _ _ _ _ _ _ _ _ _ _ _ _ _ _ _ _ _ _ _ _ _ _ _ _ _ _ _ _ _ _ _ _ _ _ _ _ _ _ _ _ _ _ _ _ _ _ _ _ _ _ _ _ hcut
end Go.Proofs.Ytlcbemcamdafjaa
