import Derived.Test.YtlcbemcamdafjaaCbackBack1Tame1
import Derived.Test.YtlcbemcamdafjaaCbackPassEq40
import Derived.Deep.RegionHeld2
import Derived.Deep.MidRow
import Derived.Deep.DeepCutAuto
import Derived.Handy
/- A seat is sold and given back: the end. -/
namespace Go.Proofs.Ytlcbemcamdafjaa
open Go.RowKit
open M
set_option linter.unusedVariables false
set_option linter.unusedSimpArgs false
set_option maxRecDepth 100000
set_option maxHeartbeats 20000000
attribute [local go_sem] eq40 same4_self
def dropSeq6 : Nat → Code → Code
  | 0, c => c
  | n + 1, .seq _ b => dropSeq6 n b
  | _, c => c
noncomputable def backRest (n : Nat) : Code := dropSeq6 n (Try.f5.body.getD .skip)

theorem count_small {p : Pla} {l : List Sea} (h : Wf p l) (j : Nat) : (0 ≤ cA p l j ∧ cA p l j ≤ 120) ∧ (0 ≤ cB p l j ∧ cB p l j ≤ 120) ∧ (0 ≤ cS l j ∧ cS l j ≤ 120) := by
  have hl : l.length ≤ 120 := Fli.wf.len_le h
  have h1 : nAt p true j l ≤ l.length := List.countP_le_length
  have h2 : nAt p false j l ≤ l.length := List.countP_le_length
  have h3 : nSold j l ≤ l.length := List.countP_le_length
  unfold cA cB cS
  omega
theorem tot_at (p : Pla) (l : List Sea) (k : Nat) (hk : k < 4) : (#[.int .i64 (cA p l 0), .int .i64 (cA p l 1), .int .i64 (cA p l 2), .int .i64 (cA p l 3), .int .i64 (cB p l 0), .int .i64 (cB p l 1), .int .i64 (cB p l 2), .int .i64 (cB p l 3), .int .i64 (cS l 0), .int .i64 (cS l 1), .int .i64 (cS l 2), .int .i64 (cS l 3)] : Array Value)[8 + k]? = some (.int .i64 (cS l k)) := by
  have : k = 0 ∨ k = 1 ∨ k = 2 ∨ k = 3 := by omega
  rcases this with rfl | rfl | rfl | rfl <;> rfl
theorem countK_some {fl : Nat → Option (Pla × List Sea)} {p : Pla} {l : List Sea} (h : fl 1 = some (p, l)) : countK fl 1 = (totV p l, 0) := by
  unfold countK
  rw [if_neg (by omega), show (1 : Int).toNat = 1 from rfl, h]
theorem leftK_some {fl : Nat → Option (Pla × List Sea)} {p : Pla} {l : List Sea} (h : fl 1 = some (p, l)) (k : Nat) (hk : k < 4) : leftK fl 1 k = (min (M.leftOf p l k) 9, 0) := by
  unfold leftK
  rw [if_neg (by omega), show (1 : Int).toNat = 1 from rfl, h]
  simp only
  rw [if_neg (by omega), Int.toNat_natCast]

theorem back_q18 (p : Pla) (w w18 : World) (tb vb : Nat) (l l2 : List Sea) (book : Bool) (T18 : Hid (Has w18 tb #[.int .i64 (cA p l 0), .int .i64 (cA p l 1), .int .i64 (cA p l 2), .int .i64 (cA p l 3), .int .i64 (cB p l 0), .int .i64 (cB p l 1), .int .i64 (cB p l 2), .int .i64 (cB p l 3), .int .i64 (cS l 0), .int .i64 (cS l 1), .int .i64 (cS l 2), .int .i64 (cS l 3)] 45)) (V18 : Hid (Has w18 vb #[.int .i64 (cA p l2 0), .int .i64 (cA p l2 1), .int .i64 (cA p l2 2), .int .i64 (cA p l2 3), .int .i64 (cB p l2 0), .int .i64 (cB p l2 1), .int .i64 (cB p l2 2), .int .i64 (cB p l2 3), .int .i64 (cS l2 0), .int .i64 (cS l2 1), .int .i64 (cS l2 2), .int .i64 (cS l2 3)] 45)) (M18 : Hid (Mod No w w18)) (Y5 : Hid (book = false → l2 = l)) (sl0 sl1 sl2 sl3 sl5 sl6 sl7 sl8 sl9 sl10 sl11 sl12 sl13 sl14 sl15 sl17 sl18 sl19 sl20 sl21 sl22 sl27 sl28 sl29 sl30 sl31 sl32 sl33 sl34 sl35 sl36 sl37 sl38 sl39 sl40 sl41 sl42 sl43 sl44 sl45 sl46 sl47 sl48 sl49 sl50 sl51 sl52 sl53 sl54 sl55 sl56 sl57 sl58 sl59 sl60 sl61 sl62 sl63 sl64 sl65 sl66 sl67 sl68 sl69 sl70 sl71 sl72 sl73 sl74 sl75 sl76 sl77 sl78 sl79 sl80 sl81 sl82 sl83 sl84 sl85 sl86 sl87 sl88 sl89 sl90 sl91 sl92 sl93 sl94 sl95 sl96 sl97 sl98 sl99 sl100 sl101 sl102 sl103 sl104 sl105 sl106 sl107 sl108 sl109 sl110 sl111 sl112 sl113 sl114 sl115 sl116 sl117 sl118 sl119 sl120 sl121 sl122 sl123 sl124 sl125 sl126 sl127 sl128 sl129 sl130 sl131 sl132 sl133 sl134 sl135 sl136 sl137 sl138 sl139 sl140 sl141 sl142 sl143 sl144 sl145 sl146 sl147 sl148 sl149 sl150 sl151 sl152 sl153 sl154 sl155 sl156 sl157 sl158 sl159 sl160 sl161 sl162 sl163 sl164 sl165 sl166 sl167 sl168 sl169 sl170 sl171 sl172 sl173 sl174 sl175 sl176 sl177 sl178 sl179 sl180 sl181 sl182 sl183 sl184 sl185 sl186 sl187 sl188 sl189 sl190 sl191 sl192 sl193 sl194 : Value) :
    Code.wp Try.prog (backRest 18) (bodyPost Try.prog Try.f5 fun e w' => e = .returned (.bool true) ∧ Mod No w w') ⟨#[sl0, sl1, sl2, sl3, .bool book, sl5, sl6, sl7, sl8, sl9, sl10, sl11, sl12, sl13, sl14, sl15, .pointer (some ⟨tb, 0, none⟩), sl17, sl18, sl19, sl20, sl21, sl22, .int .i64 0, .pointer (some ⟨vb, 0, none⟩), .int .i64 0, .bool true, sl27, sl28, sl29, sl30, sl31, sl32, sl33, sl34, sl35, sl36, sl37, sl38, sl39, sl40, sl41, sl42, sl43, sl44, sl45, sl46, sl47, sl48, sl49, sl50, sl51, sl52, sl53, sl54, sl55, sl56, sl57, sl58, sl59, sl60, sl61, sl62, sl63, sl64, sl65, sl66, sl67, sl68, sl69, sl70, sl71, sl72, sl73, sl74, sl75, sl76, sl77, sl78, sl79, sl80, sl81, sl82, sl83, sl84, sl85, sl86, sl87, sl88, sl89, sl90, sl91, sl92, sl93, sl94, sl95, sl96, sl97, sl98, sl99, sl100, sl101, sl102, sl103, sl104, sl105, sl106, sl107, sl108, sl109, sl110, sl111, sl112, sl113, sl114, sl115, sl116, sl117, sl118, sl119, sl120, sl121, sl122, sl123, sl124, sl125, sl126, sl127, sl128, sl129, sl130, sl131, sl132, sl133, sl134, sl135, sl136, sl137, sl138, sl139, sl140, sl141, sl142, sl143, sl144, sl145, sl146, sl147, sl148, sl149, sl150, sl151, sl152, sl153, sl154, sl155, sl156, sl157, sl158, sl159, sl160, sl161, sl162, sl163, sl164, sl165, sl166, sl167, sl168, sl169, sl170, sl171, sl172, sl173, sl174, sl175, sl176, sl177, sl178, sl179, sl180, sl181, sl182, sl183, sl184, sl185, sl186, sl187, sl188, sl189, sl190, sl191, sl192, sl193, sl194], []⟩ w18 := by
  conv => arg 2; whnf
  have t18 := (unhide T18).cell
  have v18 := (unhide V18).cell
  clear T18 V18
  cases book with
  | false =>
    obtain rfl := (unhide Y5) rfl
    clear Y5
    go_wp2
    go_ret
    exact ⟨rfl, unhide M18⟩
  | true =>
    clear Y5
    cases h1 : same4 (cA p l2 0) (cA p l2 1) (cA p l2 2) (cA p l2 3) (cA p l 0) (cA p l 1) (cA p l 2) (cA p l 3) with
    | false =>
      go_wp2
      go_ret
      exact ⟨rfl, unhide M18⟩
    | true =>
      cases h2 : same4 (cB p l2 0) (cB p l2 1) (cB p l2 2) (cB p l2 3) (cB p l 0) (cB p l 1) (cB p l 2) (cB p l 3) with
      | false =>
        go_wp2
        go_ret
        exact ⟨rfl, unhide M18⟩
      | true =>
        cases h3 : same4 (cS l2 0) (cS l2 1) (cS l2 2) (cS l2 3) (cS l 0) (cS l 1) (cS l 2) (cS l 3) with
        | false =>
          go_wp2
          go_ret
          exact ⟨rfl, unhide M18⟩
        | true =>
          go_wp2
          go_ret
          exact ⟨rfl, unhide M18⟩
theorem back_q15 (p : Pla) (w w14 : World) (kb cb tb ub k : Nat) (ow : Nat → Nat) (now R C P : Int) (fl : Nat → Option (Pla × List Sea)) (l l1 l2 : List Sea) (book : Bool) (hk4 : k < 4) (hn : 0 ≤ now ∧ now ≤ 109951162777600)
    (B14 : Hid (Has w14 cb #[.int .i64 4, .int .i64 1, .int .i64 R, .int .i64 C, .int .i64 0, .int .i64 0, .int .i64 P, .int .i64 k, .int .i64 (now + 5), .int .i64 0, .int .i64 0, .int .i64 0, .int .i64 0, .int .i64 0, .int .i64 0, .int .i64 0] 37)) (T14 : Hid (Has w14 tb #[.int .i64 (cA p l 0), .int .i64 (cA p l 1), .int .i64 (cA p l 2), .int .i64 (cA p l 3), .int .i64 (cB p l 0), .int .i64 (cB p l 1), .int .i64 (cB p l 2), .int .i64 (cB p l 3), .int .i64 (cS l 0), .int .i64 (cS l 1), .int .i64 (cS l 2), .int .i64 (cS l 3)] 45)) (U14 : Hid (Has w14 ub #[.int .i64 (cA p l1 0), .int .i64 (cA p l1 1), .int .i64 (cA p l1 2), .int .i64 (cA p l1 3), .int .i64 (cB p l1 0), .int .i64 (cB p l1 1), .int .i64 (cB p l1 2), .int .i64 (cB p l1 3), .int .i64 (cS l1 0), .int .i64 (cS l1 1), .int .i64 (cS l1 2), .int .i64 (cS l1 3)] 45)) (M14 : Hid (Mod No w w14)) (K14 : Hid (KeepH w14 ow kb now fl))
    (OWB : ow cb = 0) (OWT : ow tb = 0) (OWU : ow ub = 0) (OWO : Hid (∀ j, j < w.heap.size → ow j = 0)) (F1 : Hid (∃ e, fl 1 = some (p.at e, l1)))
    (Y2 : Hid ((doK now fl (backC 4 R C k P now)).1 = 0)) (Y4 : Hid (∃ e, (doK now fl (backC 4 R C k P now)).2.2 1 = some (p.at e, l2))) (Y5 : Hid (book = false → l2 = l)) (y6 : cA p l1 0 + cB p l1 0 + 1 = cA p l2 0 + cB p l2 0) (y7 : cS l2 k = cS l1 k - 1) (sl0 sl1 sl2 sl3 sl5 sl6 sl7 sl8 sl9 sl10 sl12 sl13 sl14 sl17 sl18 sl19 sl20 sl22 sl23 sl24 sl25 sl26 sl27 sl28 sl29 sl30 sl31 sl32 sl33 sl34 sl35 sl36 sl37 sl38 sl39 sl40 sl41 sl42 sl43 sl44 sl45 sl46 sl47 sl48 sl49 sl50 sl51 sl52 sl53 sl54 sl55 sl56 sl57 sl58 sl59 sl60 sl61 sl62 sl63 sl64 sl65 sl66 sl67 sl68 sl69 sl70 sl71 sl72 sl73 sl74 sl75 sl76 sl77 sl78 sl79 sl80 sl81 sl82 sl83 sl84 sl85 sl86 sl87 sl88 sl89 sl90 sl91 sl92 sl93 sl94 sl95 sl96 sl97 sl98 sl99 sl100 sl101 sl102 sl103 sl104 sl105 sl106 sl107 sl108 sl109 sl110 sl111 sl112 sl113 sl114 sl115 sl116 sl117 sl118 sl119 sl120 sl121 sl122 sl123 sl124 sl125 sl126 sl127 sl128 sl129 sl130 sl131 sl132 sl133 sl134 sl135 sl136 sl137 sl138 sl139 sl140 sl141 sl142 sl143 sl144 sl145 sl146 sl147 sl148 sl149 sl150 sl151 sl152 sl153 sl154 sl155 sl156 sl157 sl158 sl159 sl160 sl161 sl162 sl163 sl164 sl165 sl166 sl167 sl168 sl169 sl170 sl171 sl172 sl173 sl174 sl175 sl176 sl177 sl178 sl179 sl180 sl181 sl182 sl183 sl184 sl185 sl186 sl187 sl188 sl189 sl190 sl191 sl192 sl193 sl194 : Value) :
    Code.wp Try.prog (backRest 15) (bodyPost Try.prog Try.f5 fun e w' => e = .returned (.bool true) ∧ Mod No w w') ⟨#[sl0, sl1, sl2, sl3, .bool book, sl5, sl6, sl7, sl8, sl9, sl10, .pointer (some ⟨kb, 0, none⟩), sl12, sl13, sl14, .pointer (some ⟨cb, 0, none⟩), .pointer (some ⟨tb, 0, none⟩), sl17, sl18, sl19, sl20, .pointer (some ⟨ub, 0, none⟩), sl22, sl23, sl24, sl25, sl26, sl27, sl28, sl29, sl30, sl31, sl32, sl33, sl34, sl35, sl36, sl37, sl38, sl39, sl40, sl41, sl42, sl43, sl44, sl45, sl46, sl47, sl48, sl49, sl50, sl51, sl52, sl53, sl54, sl55, sl56, sl57, sl58, sl59, sl60, sl61, sl62, sl63, sl64, sl65, sl66, sl67, sl68, sl69, sl70, sl71, sl72, sl73, sl74, sl75, sl76, sl77, sl78, sl79, sl80, sl81, sl82, sl83, sl84, sl85, sl86, sl87, sl88, sl89, sl90, sl91, sl92, sl93, sl94, sl95, sl96, sl97, sl98, sl99, sl100, sl101, sl102, sl103, sl104, sl105, sl106, sl107, sl108, sl109, sl110, sl111, sl112, sl113, sl114, sl115, sl116, sl117, sl118, sl119, sl120, sl121, sl122, sl123, sl124, sl125, sl126, sl127, sl128, sl129, sl130, sl131, sl132, sl133, sl134, sl135, sl136, sl137, sl138, sl139, sl140, sl141, sl142, sl143, sl144, sl145, sl146, sl147, sl148, sl149, sl150, sl151, sl152, sl153, sl154, sl155, sl156, sl157, sl158, sl159, sl160, sl161, sl162, sl163, sl164, sl165, sl166, sl167, sl168, sl169, sl170, sl171, sl172, sl173, sl174, sl175, sl176, sl177, sl178, sl179, sl180, sl181, sl182, sl183, sl184, sl185, sl186, sl187, sl188, sl189, sl190, sl191, sl192, sl193, sl194], []⟩ w14 := by
  conv => arg 2; whnf
  have s1 : ∀ j, (0 ≤ cA p l1 j ∧ cA p l1 j ≤ 120) ∧ (0 ≤ cB p l1 j ∧ cB p l1 j ≤ 120) ∧ (0 ≤ cS l1 j ∧ cS l1 j ≤ 120) := by
    obtain ⟨e1, f1⟩ := unhide F1
    have h := count_small ((unhide K14).wf (n := 1) (by omega) f1)
    exact h
  have hk0 : (0 : Int) ≤ k := by omega
  have hk4i : (k : Int) < 4 := by omega
  have HD2 := hide (show Calls Try.prog 24 #[.pointer (some ⟨kb, 0, none⟩), .agg #[.int .i64 4, .int .i64 1, .int .i64 R, .int .i64 C, .int .i64 0, .int .i64 0, .int .i64 P, .int .i64 k, .int .i64 (now + 5), .int .i64 0, .int .i64 0, .int .i64 0, .int .i64 0, .int .i64 0, .int .i64 0, .int .i64 0]] w14 fun e w' => e = .returned (.int .i64 (doK now fl (backC 4 R C k P now)).1) ∧ Kept w14 w' ow kb (doK now fl (backC 4 R C k P now)).2.1 (doK now fl (backC 4 R C k P now)).2.2 from do_any (unhide K14) ⟨hn.1, by omega⟩ (backC 4 R C k P now))
  generalize doK now fl (backC 4 R C k P now) = D2 at *
  obtain ⟨g2, now2, fl2⟩ := D2
  try simp only at Y2 Y4 HD2
  obtain rfl : g2 = 0 := unhide Y2
  clear Y2 F1 K14
  have b14 := (unhide B14).cell
  have z14 := (unhide B14).lt
  go_wp2_with fail
  refine (unhide HD2).mono ?_
  rintro e w15 ⟨rfl, ⟨ow15, k15, ho15⟩, m15⟩
  obtain ⟨e2, f2⟩ := unhide Y4
  have F2 := hide f2
  clear f2
  have s2 : ∀ j, (0 ≤ cA p l2 j ∧ cA p l2 j ≤ 120) ∧ (0 ≤ cB p l2 j ∧ cB p l2 j ≤ 120) ∧ (0 ≤ cS l2 j ∧ cS l2 j ≤ 120) := by
    have h := count_small (k15.wf (n := 1) (by omega) (unhide F2))
    exact h
  have HC3 := hide (show Calls Try.prog 17 #[.pointer (some ⟨kb, 0, none⟩), .int .i64 1] w15 fun e w' => e = .returned (.tuple #[.agg #[.int .i64 (cA p l2 0), .int .i64 (cA p l2 1), .int .i64 (cA p l2 2), .int .i64 (cA p l2 3), .int .i64 (cB p l2 0), .int .i64 (cB p l2 1), .int .i64 (cB p l2 2), .int .i64 (cB p l2 3), .int .i64 (cS l2 0), .int .i64 (cS l2 1), .int .i64 (cS l2 2), .int .i64 (cS l2 3)], .int .i64 0]) ∧ Mod No w15 w' by
    have := count_any k15 1
    rw [countK_some (unhide F2)] at this
    exact this)
  have B15 := hide (m15.has (unhide B14) (by simp [OWB]))
  have T15 := hide (m15.has (unhide T14) (by simp [OWT]))
  have U15 := hide (m15.has (unhide U14) (by simp [OWU]))
  have M15 := hide ((unhide M14).trans' m15 (fun j hj hl => hj ((unhide OWO) j hl)))
  clear k15 ho15 m15 B14 T14 U14 M14 HD2 Y4 b14 z14
  go_wp2_with fail
  refine (unhide HC3).mono ?_
  rintro e w16 ⟨rfl, m16⟩
  have B17 := hide ((m16.has (unhide B15) (fun x => x)).alloc (.cells #[.int .i64 (cA p l2 0), .int .i64 (cA p l2 1), .int .i64 (cA p l2 2), .int .i64 (cA p l2 3), .int .i64 (cB p l2 0), .int .i64 (cB p l2 1), .int .i64 (cB p l2 2), .int .i64 (cB p l2 3), .int .i64 (cS l2 0), .int .i64 (cS l2 1), .int .i64 (cS l2 2), .int .i64 (cS l2 3)] 45))
  have T17 := hide ((m16.has (unhide T15) (fun x => x)).alloc (.cells #[.int .i64 (cA p l2 0), .int .i64 (cA p l2 1), .int .i64 (cA p l2 2), .int .i64 (cA p l2 3), .int .i64 (cB p l2 0), .int .i64 (cB p l2 1), .int .i64 (cB p l2 2), .int .i64 (cB p l2 3), .int .i64 (cS l2 0), .int .i64 (cS l2 1), .int .i64 (cS l2 2), .int .i64 (cS l2 3)] 45))
  have U17 := hide ((m16.has (unhide U15) (fun x => x)).alloc (.cells #[.int .i64 (cA p l2 0), .int .i64 (cA p l2 1), .int .i64 (cA p l2 2), .int .i64 (cA p l2 3), .int .i64 (cB p l2 0), .int .i64 (cB p l2 1), .int .i64 (cB p l2 2), .int .i64 (cB p l2 3), .int .i64 (cS l2 0), .int .i64 (cS l2 1), .int .i64 (cS l2 2), .int .i64 (cS l2 3)] 45))
  have V17 := hide (Has.new w16 #[.int .i64 (cA p l2 0), .int .i64 (cA p l2 1), .int .i64 (cA p l2 2), .int .i64 (cA p l2 3), .int .i64 (cB p l2 0), .int .i64 (cB p l2 1), .int .i64 (cB p l2 2), .int .i64 (cB p l2 3), .int .i64 (cS l2 0), .int .i64 (cS l2 1), .int .i64 (cS l2 2), .int .i64 (cS l2 3)] 45)
  have M17 := hide (((unhide M15).trans m16).alloc (.cells #[.int .i64 (cA p l2 0), .int .i64 (cA p l2 1), .int .i64 (cA p l2 2), .int .i64 (cA p l2 3), .int .i64 (cB p l2 0), .int .i64 (cB p l2 1), .int .i64 (cB p l2 2), .int .i64 (cB p l2 3), .int .i64 (cS l2 0), .int .i64 (cS l2 1), .int .i64 (cS l2 2), .int .i64 (cS l2 3)] 45))
  clear m16 B15 T15 U15 M15 HC3
  go_upto_region 25 with fail
  generalize hvb : w16.heap.size = vb at *
  generalize w16.alloc (.cells #[.int .i64 (cA p l2 0), .int .i64 (cA p l2 1), .int .i64 (cA p l2 2), .int .i64 (cA p l2 3), .int .i64 (cB p l2 0), .int .i64 (cB p l2 1), .int .i64 (cB p l2 2), .int .i64 (cB p l2 3), .int .i64 (cS l2 0), .int .i64 (cS l2 1), .int .i64 (cS l2 2), .int .i64 (cS l2 3)] 45) = w17 at *
  clear hvb
  go_cut [26] (fun s wx => s = .bool true ∧ ∃ nq, wx = w17.drewN nq)
  case first =>
    have b7 : w17.cell? ⟨cb, 7, none⟩ = some (.int .i64 k) := (unhide B17).cell 7
    have u8 : w17.cell? ⟨ub, 8 + k, none⟩ = some (.int .i64 (cS l1 k)) := by rw [(unhide U17).cell]; exact tot_at p l1 k hk4
    have v8 : w17.cell? ⟨vb, 8 + k, none⟩ = some (.int .i64 (cS l2 k)) := by rw [(unhide V17).cell]; exact tot_at p l2 k hk4
    have u0 : w17.cell? ⟨ub, 0, none⟩ = some (.int .i64 (cA p l1 0)) := (unhide U17).cell 0
    have u4 : w17.cell? ⟨ub, 4, none⟩ = some (.int .i64 (cB p l1 0)) := (unhide U17).cell 4
    have v0 : w17.cell? ⟨vb, 0, none⟩ = some (.int .i64 (cA p l2 0)) := (unhide V17).cell 0
    have v4 : w17.cell? ⟨vb, 4, none⟩ = some (.int .i64 (cB p l2 0)) := (unhide V17).cell 4
    obtain ⟨a1, a2, a3⟩ := s1 0
    obtain ⟨a4, a5, a6⟩ := s2 0
    have a7 := (s1 k).2.2
    have a8 := (s2 k).2.2
    have e1 : IntKind.i64.wrap (cA p l1 0 + cB p l1 0) = cA p l1 0 + cB p l1 0 := wrap_fit _ (by omega) (by omega)
    have e2 : IntKind.i64.wrap (cA p l1 0 + cB p l1 0 + 1) = cA p l1 0 + cB p l1 0 + 1 := wrap_fit _ (by omega) (by omega)
    have e3 : IntKind.i64.wrap (cA p l2 0 + cB p l2 0) = cA p l2 0 + cB p l2 0 := wrap_fit _ (by omega) (by omega)
    have e4 : IntKind.i64.wrap (cS l1 k - 1) = cS l1 k - 1 := wrap_fit _ (by omega) (by omega)
    have e5 : (cA p l1 0 + cB p l1 0 + 1 == cA p l2 0 + cB p l2 0) = true := by simpa using y6
    have e6 : (cS l2 k == cS l1 k - 1) = true := by simpa using y7
    clear y6 y7 s1 s2 a1 a2 a3 a4 a5 a6 a7 a8
    go_quiet (fail)
    go_wp2
    go_meet
    exact ⟨rfl, _, rfl⟩
  case rest =>
    obtain ⟨rfl, nq2, rfl⟩ := hcut
    apply_assumption
    exact back_q18 p w _ tb vb l l2 book ((unhide T17).drewN nq2) ((unhide V17).drewN nq2) ((unhide M17).drewN nq2) Y5 _ _ _ _ _ _ _ _ _ _ _ _ _ _ _ _ _ _ _ _ _ _ _ _ _ _ _ _ _ _ _ _ _ _ _ _ _ _ _ _ _ _ _ _ _ _ _ _ _ _ _ _ _ _ _ _ _ _ _ _ _ _ _ _ _ _ _ _ _ _ _ _ _ _ _ _ _ _ _ _ _ _ _ _ _ _ _ _ _ _ _ _ _ _ _ _ _ _ _ _ _ _ _ _ _ _ _ _ _ _ _ _ _ _ _ _ _ _ _ _ _ _ _ _ _ _ _ _ _ _ _ _ _ _ _ _ _ _ _ _ _ _ _ _ _ _ _ _ _ _ _ _ _ _ _ _ _ _ _ _ _ _ _ _ _ _ _ _ _ _ _ _ _ _ _ _ _ _ _ _ _ _ _ _ _ _ _ _ _
end Go.Proofs.Ytlcbemcamdafjaa
