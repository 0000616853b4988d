import Derived.Test.YtlcbemcamdafjaaCbackBack2
/- A seat is sold and given back: the sale. -/
namespace Go.Proofs.Ytlcbemcamdafjaa
open Go.RowKit
open M
set_option linter.unusedVariables false
set_option linter.unusedSimpArgs false
set_option maxRecDepth 100000
set_option maxHeartbeats 20000000
attribute [local go_sem] eq40 same4_self
theorem back_q12 (p : Pla) (w w12 : World) (kb cb tb ub k : Nat) (ow : Nat → Nat) (now R C P kd g : Int) (fl : Nat → Option (Pla × List Sea)) (l l1 : List Sea) (book : Bool) (hk4 : k < 4) (hn : 0 ≤ now ∧ now ≤ 109951162777600)
    (B12 : Hid (Has w12 cb #[.int .i64 kd, .int .i64 1, .int .i64 R, .int .i64 C, .int .i64 0, .int .i64 0, .int .i64 P, .int .i64 k, .int .i64 (now + 5), .int .i64 0, .int .i64 0, .int .i64 0, .int .i64 0, .int .i64 0, .int .i64 0, .int .i64 0] 37)) (T12 : Hid (Has w12 tb #[.int .i64 (cA p l 0), .int .i64 (cA p l 1), .int .i64 (cA p l 2), .int .i64 (cA p l 3), .int .i64 (cB p l 0), .int .i64 (cB p l 1), .int .i64 (cB p l 2), .int .i64 (cB p l 3), .int .i64 (cS l 0), .int .i64 (cS l 1), .int .i64 (cS l 2), .int .i64 (cS l 3)] 45)) (U12 : Hid (Has w12 ub #[.int .i64 (cA p l1 0), .int .i64 (cA p l1 1), .int .i64 (cA p l1 2), .int .i64 (cA p l1 3), .int .i64 (cB p l1 0), .int .i64 (cB p l1 1), .int .i64 (cB p l1 2), .int .i64 (cB p l1 3), .int .i64 (cS l1 0), .int .i64 (cS l1 1), .int .i64 (cS l1 2), .int .i64 (cS l1 3)] 45)) (M12 : Hid (Mod No w w12)) (K12 : Hid (KeepH w12 ow kb now fl))
    (OWB : ow cb = 0) (OWT : ow tb = 0) (OWU : ow ub = 0) (OWO : Hid (∀ j, j < w.heap.size → ow j = 0)) (F1 : Hid (∃ e, fl 1 = some (p.at e, l1))) (TBN : tb ≠ cb) (UBN : ub ≠ cb) (ZW : w.heap.size ≤ cb) (s0 : Hid (0 ≤ cS l k ∧ cS l k ≤ 120))
    (NO : Hid (g ≠ 0 → l1 = l ∧ g ≠ 15 ∧ g ≠ 16 ∧ (g = 11 → M.leftOf p l k = 0)))
    (YES : Hid (g = 0 → ∃ l2, (doK now fl (backC 4 R C k P now)).1 = 0 ∧ (∃ e, (doK now fl (backC 4 R C k P now)).2.2 1 = some (p.at e, l2)) ∧ (book = false → cS l1 k = cS l k + 1 ∧ l2 = l) ∧ cA p l1 0 + cB p l1 0 + 1 = cA p l2 0 + cB p l2 0 ∧ cS l2 k = cS l1 k - 1)) (sl0 sl1 sl2 sl3 sl5 sl6 sl7 sl8 sl9 sl10 sl12 sl13 sl14 sl17 sl19 sl22 sl23 sl24 sl25 sl26 sl27 sl28 sl29 sl30 sl31 sl32 sl33 sl34 sl35 sl36 sl37 sl38 sl39 sl40 sl41 sl42 sl43 sl44 sl45 sl46 sl47 sl48 sl49 sl50 sl51 sl52 sl53 sl54 sl55 sl56 sl57 sl58 sl59 sl60 sl61 sl62 sl63 sl64 sl65 sl66 sl67 sl68 sl69 sl70 sl71 sl72 sl73 sl74 sl75 sl76 sl77 sl78 sl79 sl80 sl81 sl82 sl83 sl84 sl85 sl86 sl87 sl88 sl89 sl90 sl91 sl92 sl93 sl94 sl95 sl96 sl97 sl98 sl99 sl100 sl101 sl102 sl103 sl104 sl105 sl106 sl107 sl108 sl109 sl110 sl111 sl112 sl113 sl114 sl115 sl116 sl117 sl118 sl119 sl120 sl121 sl122 sl123 sl124 sl125 sl126 sl127 sl128 sl129 sl130 sl131 sl132 sl133 sl134 sl135 sl136 sl137 sl138 sl139 sl140 sl141 sl142 sl143 sl144 sl145 sl146 sl147 sl148 sl149 sl150 sl151 sl152 sl153 sl154 sl155 sl156 sl157 sl158 sl159 sl160 sl161 sl162 sl163 sl164 sl165 sl166 sl167 sl168 sl169 sl170 sl171 sl172 sl173 sl174 sl175 sl176 sl177 sl178 sl179 sl180 sl181 sl182 sl183 sl184 sl185 sl186 sl187 sl188 sl189 sl190 sl191 sl192 sl193 sl194 : Value) :
    Code.wp Try.prog (backRest 12) (bodyPost Try.prog Try.f5 fun e w' => e = .returned (.bool true) ∧ Mod No w w') ⟨#[sl0, sl1, sl2, sl3, .bool book, sl5, sl6, sl7, sl8, sl9, sl10, .pointer (some ⟨kb, 0, none⟩), sl12, sl13, sl14, .pointer (some ⟨cb, 0, none⟩), .pointer (some ⟨tb, 0, none⟩), sl17, .int .i64 (min (M.leftOf p l k) 9), sl19, .int .i64 g, .pointer (some ⟨ub, 0, none⟩), sl22, sl23, sl24, sl25, sl26, sl27, sl28, sl29, sl30, sl31, sl32, sl33, sl34, sl35, sl36, sl37, sl38, sl39, sl40, sl41, sl42, sl43, sl44, sl45, sl46, sl47, sl48, sl49, sl50, sl51, sl52, sl53, sl54, sl55, sl56, sl57, sl58, sl59, sl60, sl61, sl62, sl63, sl64, sl65, sl66, sl67, sl68, sl69, sl70, sl71, sl72, sl73, sl74, sl75, sl76, sl77, sl78, sl79, sl80, sl81, sl82, sl83, sl84, sl85, sl86, sl87, sl88, sl89, sl90, sl91, sl92, sl93, sl94, sl95, sl96, sl97, sl98, sl99, sl100, sl101, sl102, sl103, sl104, sl105, sl106, sl107, sl108, sl109, sl110, sl111, sl112, sl113, sl114, sl115, sl116, sl117, sl118, sl119, sl120, sl121, sl122, sl123, sl124, sl125, sl126, sl127, sl128, sl129, sl130, sl131, sl132, sl133, sl134, sl135, sl136, sl137, sl138, sl139, sl140, sl141, sl142, sl143, sl144, sl145, sl146, sl147, sl148, sl149, sl150, sl151, sl152, sl153, sl154, sl155, sl156, sl157, sl158, sl159, sl160, sl161, sl162, sl163, sl164, sl165, sl166, sl167, sl168, sl169, sl170, sl171, sl172, sl173, sl174, sl175, sl176, sl177, sl178, sl179, sl180, sl181, sl182, sl183, sl184, sl185, sl186, sl187, sl188, sl189, sl190, sl191, sl192, sl193, sl194], []⟩ w12 := by
  conv => arg 2; whnf
  have hk0 : (0 : Int) ≤ k := by omega
  have hk4i : (k : Int) < 4 := by omega
  by_cases hg : g = 0
  case neg =>
    obtain ⟨rfl, n2, n3, n4⟩ := (unhide NO) hg
    have g0 : (g != 0) = true := by simp [hg]
    have g15 : (g != 15) = true := by simpa using n2
    have g16 : (g != 16) = true := by simpa using n3
    clear YES NO n2 n3 K12 F1 s0
    have t10 := (unhide T12).cell
    have u10 := (unhide U12).cell
    by_cases h11 : g = 11
    · have n0 : min (M.leftOf p l1 k) 9 = 0 := by have := n4 h11; omega
      subst h11
      clear n4 hg
      go_wp2
      go_ret
      exact ⟨rfl, unhide M12⟩
    · have g11 : (g != 11) = true := by simp [h11]
      clear n4
      go_wp2
      go_ret
      exact ⟨rfl, unhide M12⟩
  case pos =>
    subst hg
    obtain ⟨l2, y2, y4, y5, y6, y7⟩ := (unhide YES) rfl
    have Y2 := hide y2
    have Y4 := hide y4
    have Y5 := hide y5
    have Y6 := hide y6
    have Y7 := hide y7
    clear y2 y4 y5 y6 y7 YES NO
    have B13 := hide (show Has (w12.setCell ⟨cb, 0, none⟩ (.int .i64 4)) cb #[.int .i64 4, .int .i64 1, .int .i64 R, .int .i64 C, .int .i64 0, .int .i64 0, .int .i64 P, .int .i64 k, .int .i64 (now + 5), .int .i64 0, .int .i64 0, .int .i64 0, .int .i64 0, .int .i64 0, .int .i64 0, .int .i64 0] 37 from (unhide B12).set 0 _)
    have U13 := hide ((unhide U12).set_ne (a := ⟨cb, 0, none⟩) UBN (.int .i64 4))
    have T13 := hide ((unhide T12).set_ne (a := ⟨cb, 0, none⟩) TBN (.int .i64 4))
    have M13 := hide (show Mod No w (w12.setCell ⟨cb, 0, none⟩ (.int .i64 4)) from (unhide M12).setCell (.inr ZW) _)
    have K13 := hide (show KeepH (w12.setCell ⟨cb, 0, none⟩ (.int .i64 4)) ow kb now fl from (unhide K12).mod ((Mod.refl (fun j => j = cb) w12).setCell (.inl rfl) _) (fun j hj e => hj (by rw [e]; exact OWB)))
    have b12 := (unhide B12).cell
    have f12 := (unhide B12).frozen
    have z12 := (unhide B12).lt
    clear B12 U12 T12 M12 K12
    go_upto_region 21 with fail
    clear b12 f12 z12
    generalize (w12.setCell ⟨cb, 0, none⟩ (.int .i64 4)) = w13 at *
    go_cut [139] (fun s wx => s = .bool false ∧ ∃ nq, wx = w13.drewN nq)
    case first =>
      have b7 : w13.cell? ⟨cb, 7, none⟩ = some (.int .i64 k) := (unhide B13).cell 7
      have u8 : w13.cell? ⟨ub, 8 + k, none⟩ = some (.int .i64 (cS l1 k)) := by rw [(unhide U13).cell]; exact tot_at p l1 k hk4
      have t8 : w13.cell? ⟨tb, 8 + k, none⟩ = some (.int .i64 (cS l k)) := by rw [(unhide T13).cell]; exact tot_at p l k hk4
      have e1 : IntKind.i64.wrap (cS l k + 1) = cS l k + 1 := wrap_fit _ (by have := unhide s0; omega) (by have := unhide s0; omega)
      have hy : book = false → cS l1 k = cS l k + 1 := fun h => ((unhide Y5) h).1
      by_cases hE : cS l1 k = cS l k + 1
      · have hd : (cS l1 k != cS l k + 1) = false := by simp [hE]
        go_quiet (fail)
        go_wp2
        go_meet
        exact ⟨rfl, _, rfl⟩
      · have hd : (cS l1 k != cS l k + 1) = true := by simp [hE]
        have hb : book = true := by
          cases book with
          | true => rfl
          | false => exact absurd (hy rfl) hE
        subst hb
        go_quiet (fail)
        go_wp2
        go_meet
        exact ⟨rfl, _, rfl⟩
    case rest =>
      obtain ⟨rfl, nq, rfl⟩ := hcut
      have B14 := hide ((unhide B13).drewN nq)
      have U14 := hide ((unhide U13).drewN nq)
      have T14 := hide ((unhide T13).drewN nq)
      have M14 := hide ((unhide M13).drewN nq)
      have K14 := hide ((unhide K13).mod ((Mod.refl No w13).drewN nq) (fun _ _ x => x))
      clear B13 U13 T13 M13 K13
      generalize w13.drewN nq = w14 at *
      go_upto_if 139 with fail
      go_cut [] (fun wx => wx = w14)
      case first =>
        go_wp2
        go_meet
        rfl
      case rest =>
        subst hcut
        apply_assumption
        exact back_q15 p w _ kb cb tb ub k ow now R C P fl l l1 l2 book hk4 hn B14 T14 U14 M14 K14 OWB OWT OWU OWO F1 Y2 Y4 (fun h => ((unhide Y5) h).2) (unhide Y6) (unhide Y7) _ _ _ _ _ _ _ _ _ _ _ _ _ _ _ _ _ _ _ _ _ _ _ _ _ _ _ _ _ _ _ _ _ _ _ _ _ _ _ _ _ _ _ _ _ _ _ _ _ _ _ _ _ _ _ _ _ _ _ _ _ _ _ _ _ _ _ _ _ _ _ _ _ _ _ _ _ _ _ _ _ _ _ _ _ _ _ _ _ _ _ _ _ _ _ _ _ _ _ _ _ _ _ _ _ _ _ _ _ _ _ _ _ _ _ _ _ _ _ _ _ _ _ _ _ _ _ _ _ _ _ _ _ _ _ _ _ _ _ _ _ _ _ _ _ _ _ _ _ _ _ _ _ _ _ _ _ _ _ _ _ _ _ _ _ _ _ _ _ _ _ _ _ _ _ _ _ _ _ _ _ _ _ _ _ _ _ _ _ _
end Go.Proofs.Ytlcbemcamdafjaa
