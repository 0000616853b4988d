import Derived.Test.YtlcbemcamdafjaaCbackBack3
/- A seat is sold and given back: what is told ahead. -/
namespace Go.Proofs.Ytlcbemcamdafjaa
open Go.RowKit
open M
set_option linter.unusedVariables false
set_option linter.unusedSimpArgs false
set_option maxRecDepth 100000
set_option maxHeartbeats 20000000
attribute [local go_sem] eq40 same4_self
theorem back_q7 (p : Pla) (w w7 : World) (kb cb k : Nat) (ow : Nat → Nat) (now R C P kd : Int) (fl : Nat → Option (Pla × List Sea)) (l : List Sea) (book : Bool) (hk4 : k < 4) (hn : 0 ≤ now ∧ now ≤ 109951162777600) (hP : 1 ≤ P ∧ P ≤ 1000) (hkd : kd = if book then 3 else 2)
    (B7 : Hid (Has w7 cb #[.int .i64 kd, .int .i64 1, .int .i64 R, .int .i64 C, .int .i64 0, .int .i64 0, .int .i64 P, .int .i64 k, .int .i64 (now + 5), .int .i64 0, .int .i64 0, .int .i64 0, .int .i64 0, .int .i64 0, .int .i64 0, .int .i64 0] 37)) (M7 : Hid (Mod No w w7)) (K7 : Hid (KeepH w7 ow kb now fl)) (OWB : ow cb = 0) (OWO : Hid (∀ j, j < w.heap.size → ow j = 0)) (F1 : Hid (fl 1 = some (p, l))) (ZW : w.heap.size ≤ cb) (sl0 sl1 sl2 sl3 sl5 sl6 sl7 sl8 sl9 sl10 sl12 sl13 sl14 sl16 sl17 sl18 sl19 sl20 sl21 sl22 sl23 sl24 sl25 sl26 sl27 sl28 sl29 sl30 sl31 sl32 sl33 sl34 sl35 sl36 sl37 sl38 sl39 sl40 sl41 sl42 sl43 sl44 sl45 sl46 sl47 sl48 sl49 sl50 sl51 sl52 sl53 sl54 sl55 sl56 sl57 sl58 sl59 sl60 sl61 sl62 sl63 sl64 sl65 sl66 sl67 sl68 sl69 sl70 sl71 sl72 sl73 sl74 sl75 sl76 sl77 sl78 sl79 sl80 sl81 sl82 sl83 sl84 sl85 sl86 sl87 sl88 sl89 sl90 sl91 sl92 sl93 sl94 sl95 sl96 sl97 sl98 sl99 sl100 sl101 sl102 sl103 sl104 sl105 sl106 sl107 sl108 sl109 sl110 sl111 sl112 sl113 sl114 sl115 sl116 sl117 sl118 sl119 sl120 sl121 sl122 sl123 sl124 sl125 sl126 sl127 sl128 sl129 sl130 sl131 sl132 sl133 sl134 sl135 sl136 sl137 sl138 sl139 sl140 sl141 sl142 sl143 sl144 sl145 sl146 sl147 sl148 sl149 sl150 sl151 sl152 sl153 sl154 sl155 sl156 sl157 sl158 sl159 sl160 sl161 sl162 sl163 sl164 sl165 sl166 sl167 sl168 sl169 sl170 sl171 sl172 sl173 sl174 sl175 sl176 sl177 sl178 sl179 sl180 sl181 sl182 sl183 sl184 sl185 sl186 sl187 sl188 sl189 sl190 sl191 sl192 sl193 sl194 : Value) :
    Code.wp Try.prog (backRest 7) (bodyPost Try.prog Try.f5 fun e w' => e = .returned (.bool true) ∧ Mod No w w') ⟨#[sl0, sl1, sl2, sl3, .bool book, sl5, sl6, sl7, sl8, sl9, sl10, .pointer (some ⟨kb, 0, none⟩), sl12, sl13, sl14, .pointer (some ⟨cb, 0, none⟩), sl16, sl17, sl18, sl19, sl20, sl21, sl22, sl23, sl24, sl25, sl26, sl27, sl28, sl29, sl30, sl31, sl32, sl33, sl34, sl35, sl36, sl37, sl38, sl39, sl40, sl41, sl42, sl43, sl44, sl45, sl46, sl47, sl48, sl49, sl50, sl51, sl52, sl53, sl54, sl55, sl56, sl57, sl58, sl59, sl60, sl61, sl62, sl63, sl64, sl65, sl66, sl67, sl68, sl69, sl70, sl71, sl72, sl73, sl74, sl75, sl76, sl77, sl78, sl79, sl80, sl81, sl82, sl83, sl84, sl85, sl86, sl87, sl88, sl89, sl90, sl91, sl92, sl93, sl94, sl95, sl96, sl97, sl98, sl99, sl100, sl101, sl102, sl103, sl104, sl105, sl106, sl107, sl108, sl109, sl110, sl111, sl112, sl113, sl114, sl115, sl116, sl117, sl118, sl119, sl120, sl121, sl122, sl123, sl124, sl125, sl126, sl127, sl128, sl129, sl130, sl131, sl132, sl133, sl134, sl135, sl136, sl137, sl138, sl139, sl140, sl141, sl142, sl143, sl144, sl145, sl146, sl147, sl148, sl149, sl150, sl151, sl152, sl153, sl154, sl155, sl156, sl157, sl158, sl159, sl160, sl161, sl162, sl163, sl164, sl165, sl166, sl167, sl168, sl169, sl170, sl171, sl172, sl173, sl174, sl175, sl176, sl177, sl178, sl179, sl180, sl181, sl182, sl183, sl184, sl185, sl186, sl187, sl188, sl189, sl190, sl191, sl192, sl193, sl194], []⟩ w7 := by
  conv => arg 2; whnf
  have hm := back_model (unhide F1) ((unhide K7).wf (by omega) (unhide F1)) now book kd R C P k hkd hk4 hP
  have s0 := hide ((count_small ((unhide K7).wf (by omega) (unhide F1))) k).2.2
  have HC1 := hide (show Calls Try.prog 17 #[.pointer (some ⟨kb, 0, none⟩), .int .i64 1] w7 fun e w' => e = .returned (.tuple #[.agg #[.int .i64 (cA p l 0), .int .i64 (cA p l 1), .int .i64 (cA p l 2), .int .i64 (cA p l 3), .int .i64 (cB p l 0), .int .i64 (cB p l 1), .int .i64 (cB p l 2), .int .i64 (cB p l 3), .int .i64 (cS l 0), .int .i64 (cS l 1), .int .i64 (cS l 2), .int .i64 (cS l 3)], .int .i64 0]) ∧ Mod No w7 w' by
    have := count_any (unhide K7) 1
    rw [countK_some (unhide F1)] at this
    exact this)
  have HL1 := hide fun W (hW : Mod No w7 W) => (show Calls Try.prog 23 #[.pointer (some ⟨kb, 0, none⟩), .int .i64 1, .int .i64 k] W fun e w' => e = .returned (.tuple #[.int .i64 (min (M.leftOf p l k) 9), .int .i64 0]) ∧ Mod No W w' by
    have := left_any ((unhide K7).mod hW (fun _ _ x => x)) 1 k
    rw [leftK_some (unhide F1) k hk4] at this
    exact this)
  have HD1 := hide fun W (hW : Mod No w7 W) => (show Calls Try.prog 24 #[.pointer (some ⟨kb, 0, none⟩), .agg #[.int .i64 kd, .int .i64 1, .int .i64 R, .int .i64 C, .int .i64 0, .int .i64 0, .int .i64 P, .int .i64 k, .int .i64 (now + 5), .int .i64 0, .int .i64 0, .int .i64 0, .int .i64 0, .int .i64 0, .int .i64 0, .int .i64 0]] W fun e w' => e = .returned (.int .i64 (doK now fl (backC kd R C k P now)).1) ∧ Kept W w' ow kb (doK now fl (backC kd R C k P now)).2.1 (doK now fl (backC kd R C k P now)).2.2 from do_any ((unhide K7).mod hW (fun _ _ x => x)) ⟨hn.1, by omega⟩ (backC kd R C k P now))
  have N1 := hide hm.now1
  have NO := hide hm.no
  have YES := hide hm.yes
  have KP := hide (hm.plane (unhide F1))
  clear hm hkd hP
  generalize doK now fl (backC kd R C k P now) = D at *
  obtain ⟨g, now', fl'⟩ := D
  try simp only at N1 NO YES HD1 KP
  have N1 : now = now' := (unhide N1).symm
  subst N1
  obtain ⟨e1, l1, kp1⟩ := unhide KP
  have FL := hide kp1
  clear KP kp1
  have hk0 : (0 : Int) ≤ k := by omega
  have hk4i : (k : Int) < 4 := by omega
  have F2 := F1
  go_wp2_with fail
  refine (unhide HC1).mono ?_
  rintro e w8 ⟨rfl, m8⟩
  have B8 := hide ((m8.has (unhide B7) (fun x => x)).alloc (.cells #[.int .i64 (cA p l 0), .int .i64 (cA p l 1), .int .i64 (cA p l 2), .int .i64 (cA p l 3), .int .i64 (cB p l 0), .int .i64 (cB p l 1), .int .i64 (cB p l 2), .int .i64 (cB p l 3), .int .i64 (cS l 0), .int .i64 (cS l 1), .int .i64 (cS l 2), .int .i64 (cS l 3)] 45))
  have M8 := hide (m8.alloc (.cells #[.int .i64 (cA p l 0), .int .i64 (cA p l 1), .int .i64 (cA p l 2), .int .i64 (cA p l 3), .int .i64 (cB p l 0), .int .i64 (cB p l 1), .int .i64 (cB p l 2), .int .i64 (cB p l 3), .int .i64 (cS l 0), .int .i64 (cS l 1), .int .i64 (cS l 2), .int .i64 (cS l 3)] 45))
  have T8 := hide (Has.new w8 #[.int .i64 (cA p l 0), .int .i64 (cA p l 1), .int .i64 (cA p l 2), .int .i64 (cA p l 3), .int .i64 (cB p l 0), .int .i64 (cB p l 1), .int .i64 (cB p l 2), .int .i64 (cB p l 3), .int .i64 (cS l 0), .int .i64 (cS l 1), .int .i64 (cS l 2), .int .i64 (cS l 3)] 45)
  have b8 := (m8.has (unhide B7) (fun x => x)).cell
  have z8 := (m8.has (unhide B7) (fun x => x)).lt
  have sz8 := m8.size
  clear m8 HC1
  go_wp2_with fail
  refine ((unhide HL1) _ (unhide M8)).mono ?_
  rintro e w9 ⟨rfl, m9⟩
  have B9 := hide (m9.has (unhide B8) (fun x => x))
  have T9 := hide (m9.has (unhide T8) (fun x => x))
  have M9 := hide ((unhide M8).trans m9)
  clear m9 B8 M8 T8 b8 HL1
  have b9 := (unhide B9).cell
  have z9 := (unhide B9).lt
  go_wp2_with fail
  refine ((unhide HD1) _ (unhide M9)).mono ?_
  rintro e w10 ⟨rfl, ⟨ow10, k10, ho10⟩, m10⟩
  have hO : ∀ j, w7.heap.size ≤ j → ow j = 0 := fun j hj => by
    obtain ⟨pt, hx⟩ := unhide K7
    by_cases e : ow j = 0
    · exact e
    · have := hx.old _ e; omega
  have B10 := hide (m10.has (unhide B9) (by simp [OWB]))
  have T10 := hide (m10.has (unhide T9) (by simp [hO w8.heap.size sz8]))
  have K10 := hide k10
  have M10 := hide (((unhide M7).trans (unhide M9)).trans' m10 (fun j hj hl => hj ((unhide OWO) j hl)))
  have OWB2 : ow10 cb = 0 := by rw [ho10 _ (unhide B9).lt]; exact OWB
  have OWT : ow10 w8.heap.size = 0 := by rw [ho10 _ (unhide T9).lt]; exact hO _ sz8
  have OWO2 := hide (show ∀ j, j < w.heap.size → ow10 j = 0 from fun j hj => by rw [ho10 _ (Nat.lt_of_lt_of_le hj (Nat.le_trans ZW (Nat.le_of_lt (unhide B9).lt)))]; exact (unhide OWO) j hj)
  have TBN : w8.heap.size ≠ cb := by omega
  generalize w8.heap.size = tb at *
  clear hO k10 ho10 m10 HD1 K7 M7 M9 B9 T9 b9 z9 OWO OWB F1 z8 sz8
  have HC2 := hide (show Calls Try.prog 17 #[.pointer (some ⟨kb, 0, none⟩), .int .i64 1] w10 fun e w' => e = .returned (.tuple #[.agg #[.int .i64 (cA p l1 0), .int .i64 (cA p l1 1), .int .i64 (cA p l1 2), .int .i64 (cA p l1 3), .int .i64 (cB p l1 0), .int .i64 (cB p l1 1), .int .i64 (cB p l1 2), .int .i64 (cB p l1 3), .int .i64 (cS l1 0), .int .i64 (cS l1 1), .int .i64 (cS l1 2), .int .i64 (cS l1 3)], .int .i64 0]) ∧ Mod No w10 w' by
    have := count_any (unhide K10) 1
    rw [countK_some (unhide FL)] at this
    exact this)
  go_wp2_with fail
  refine (unhide HC2).mono ?_
  rintro e w11 ⟨rfl, m11⟩
  have B12 := hide ((m11.has (unhide B10) (fun x => x)).alloc (.cells #[.int .i64 (cA p l1 0), .int .i64 (cA p l1 1), .int .i64 (cA p l1 2), .int .i64 (cA p l1 3), .int .i64 (cB p l1 0), .int .i64 (cB p l1 1), .int .i64 (cB p l1 2), .int .i64 (cB p l1 3), .int .i64 (cS l1 0), .int .i64 (cS l1 1), .int .i64 (cS l1 2), .int .i64 (cS l1 3)] 45))
  have T12 := hide ((m11.has (unhide T10) (fun x => x)).alloc (.cells #[.int .i64 (cA p l1 0), .int .i64 (cA p l1 1), .int .i64 (cA p l1 2), .int .i64 (cA p l1 3), .int .i64 (cB p l1 0), .int .i64 (cB p l1 1), .int .i64 (cB p l1 2), .int .i64 (cB p l1 3), .int .i64 (cS l1 0), .int .i64 (cS l1 1), .int .i64 (cS l1 2), .int .i64 (cS l1 3)] 45))
  have U12 := hide (Has.new w11 #[.int .i64 (cA p l1 0), .int .i64 (cA p l1 1), .int .i64 (cA p l1 2), .int .i64 (cA p l1 3), .int .i64 (cB p l1 0), .int .i64 (cB p l1 1), .int .i64 (cB p l1 2), .int .i64 (cB p l1 3), .int .i64 (cS l1 0), .int .i64 (cS l1 1), .int .i64 (cS l1 2), .int .i64 (cS l1 3)] 45)
  have M12 := hide (((unhide M10).trans m11).alloc (.cells #[.int .i64 (cA p l1 0), .int .i64 (cA p l1 1), .int .i64 (cA p l1 2), .int .i64 (cA p l1 3), .int .i64 (cB p l1 0), .int .i64 (cB p l1 1), .int .i64 (cB p l1 2), .int .i64 (cB p l1 3), .int .i64 (cS l1 0), .int .i64 (cS l1 1), .int .i64 (cS l1 2), .int .i64 (cS l1 3)] 45))
  have K12 := hide (((unhide K10).mod m11 (fun _ _ x => x)).mod ((Mod.refl No w11).alloc (.cells #[.int .i64 (cA p l1 0), .int .i64 (cA p l1 1), .int .i64 (cA p l1 2), .int .i64 (cA p l1 3), .int .i64 (cB p l1 0), .int .i64 (cB p l1 1), .int .i64 (cB p l1 2), .int .i64 (cB p l1 3), .int .i64 (cS l1 0), .int .i64 (cS l1 1), .int .i64 (cS l1 2), .int .i64 (cS l1 3)] 45)) (fun _ _ x => x))
  have OWU : ow10 w11.heap.size = 0 := by
    obtain ⟨pt, hx⟩ := unhide K10
    by_cases e : ow10 w11.heap.size = 0
    · exact e
    · have := hx.old _ e
      have := m11.size
      omega
  have UBN : w11.heap.size ≠ cb := by have := (unhide B10).lt; have := m11.size; omega
  clear m11 B10 T10 K10 M10 HC2
  go_upto_if 101 with fail
  generalize hub : w11.heap.size = ub at *
  generalize w11.alloc (.cells #[.int .i64 (cA p l1 0), .int .i64 (cA p l1 1), .int .i64 (cA p l1 2), .int .i64 (cA p l1 3), .int .i64 (cB p l1 0), .int .i64 (cB p l1 1), .int .i64 (cB p l1 2), .int .i64 (cB p l1 3), .int .i64 (cS l1 0), .int .i64 (cS l1 1), .int .i64 (cS l1 2), .int .i64 (cS l1 3)] 45) = w12 at *
  clear hub
  go_cut [] (fun wx => wx = w12)
  case first =>
    go_wp2
    go_meet
    rfl
  case rest =>
    subst hcut
    apply_assumption
    refine back_q12 p w _ kb cb tb ub k ow10 now R C P kd g fl' l l1 book hk4 hn B12 T12 U12 M12 K12 OWB2 OWT OWU OWO2 (hide ⟨e1, unhide FL⟩) TBN UBN ZW s0 ?_ ?_ _ _ _ _ _ _ _ _ _ _ _ _ _ _ _ _ _ _ _ _ _ _ _ _ _ _ _ _ _ _ _ _ _ _ _ _ _ _ _ _ _ _ _ _ _ _ _ _ _ _ _ _ _ _ _ _ _ _ _ _ _ _ _ _ _ _ _ _ _ _ _ _ _ _ _ _ _ _ _ _ _ _ _ _ _ _ _ _ _ _ _ _ _ _ _ _ _ _ _ _ _ _ _ _ _ _ _ _ _ _ _ _ _ _ _ _ _ _ _ _ _ _ _ _ _ _ _ _ _ _ _ _ _ _ _ _ _ _ _ _ _ _ _ _ _ _ _ _ _ _ _ _ _ _ _ _ _ _ _ _ _ _ _ _ _ _ _ _ _ _ _ _ _ _ _ _ _ _ _ _ _ _ _ _ _ _ _ _
    · intro hg
      obtain ⟨n1, n2, n3, n4⟩ := (unhide NO) hg
      have h1 : fl' 1 = some (p.at e1, l1) := unhide FL
      have h2 : fl 1 = some (p, l) := unhide F2
      rw [n1, h2] at h1
      simp only [Option.some.injEq, Prod.mk.injEq, true_and] at h1
      exact ⟨h1.2.symm, n2, n3, n4⟩
    · intro hg
      obtain ⟨l', l'', y1, y2, y3, y4, y5, y6, y7⟩ := (unhide YES) hg
      have h1 : fl' 1 = some (p.at e1, l1) := unhide FL
      rw [h1] at y1
      simp only [Option.some.injEq, Prod.mk.injEq, true_and] at y1
      obtain ⟨_, rfl⟩ := y1
      exact ⟨l'', y2, ⟨_, y4⟩, y5, y6, y7⟩
end Go.Proofs.Ytlcbemcamdafjaa
