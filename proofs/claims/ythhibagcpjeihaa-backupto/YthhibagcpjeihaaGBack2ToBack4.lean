import Derived.Test.YthhibagcpjeihaaGFitsToBack1
import Derived.Test.YthhibagcpjeihaaGModelToMaps
import Derived.Test.YthhibagcpjeihaaGPaged1ToTame2
import Derived.Deep.RegionHeld2
import Derived.Deep.MidRow
import Derived.Deep.DeepCutAuto
import Derived.Handy
/- A seat is sold and given back: the end. -/
namespace Go.Proofs.Ythhibagcpjeihaa
open Go.RowKit
open M
set_option linter.unusedVariables false
set_option linter.unusedSimpArgs false
set_option maxRecDepth 100000
set_option maxHeartbeats 20000000
attribute [local go_sem] eq40 same4_self
def dropSeq6 : Nat → Code → Code
  | 0, c => c
  | n + 1, .seq _ b => dropSeq6 n b
  | _, c => c
noncomputable def backRest (n : Nat) : Code := dropSeq6 n (Try.f5.body.getD .skip)

theorem count_small {p : Pla} {l : List Sea} (h : Wf p l) (j : Nat) : (0 ≤ cA p l j ∧ cA p l j ≤ 120) ∧ (0 ≤ cB p l j ∧ cB p l j ≤ 120) ∧ (0 ≤ cS l j ∧ cS l j ≤ 120) := by
  have hl : l.length ≤ 120 := Fli.wf.len_le h
  have h1 : nAt p true j l ≤ l.length := List.countP_le_length
  have h2 : nAt p false j l ≤ l.length := List.countP_le_length
  have h3 : nSold j l ≤ l.length := List.countP_le_length
  unfold cA cB cS
  omega
theorem tot_at (p : Pla) (l : List Sea) (k : Nat) (hk : k < 4) : (#[.int .i64 (cA p l 0), .int .i64 (cA p l 1), .int .i64 (cA p l 2), .int .i64 (cA p l 3), .int .i64 (cB p l 0), .int .i64 (cB p l 1), .int .i64 (cB p l 2), .int .i64 (cB p l 3), .int .i64 (cS l 0), .int .i64 (cS l 1), .int .i64 (cS l 2), .int .i64 (cS l 3)] : Array Value)[8 + k]? = some (.int .i64 (cS l k)) := by
  have : k = 0 ∨ k = 1 ∨ k = 2 ∨ k = 3 := by omega
  rcases this with rfl | rfl | rfl | rfl <;> rfl
theorem countK_some {fl : Nat → Option (Pla × List Sea)} {p : Pla} {l : List Sea} (h : fl 1 = some (p, l)) : countK fl 1 = (totV p l, 0) := by
  unfold countK
  rw [if_neg (by omega), show (1 : Int).toNat = 1 from rfl, h]
theorem leftK_some {fl : Nat → Option (Pla × List Sea)} {p : Pla} {l : List Sea} (h : fl 1 = some (p, l)) (k : Nat) (hk : k < 4) : leftK fl 1 k = (min (M.leftOf p l k) 9, 0) := by
  unfold leftK
  rw [if_neg (by omega), show (1 : Int).toNat = 1 from rfl, h]
  simp only
  rw [if_neg (by omega), Int.toNat_natCast]

theorem back_q18 (p : Pla) (w w18 : World) (tb vb : Nat) (l l2 : List Sea) (book : Bool) (T18 : Hid (Has w18 tb #[.int .i64 (cA p l 0), .int .i64 (cA p l 1), .int .i64 (cA p l 2), .int .i64 (cA p l 3), .int .i64 (cB p l 0), .int .i64 (cB p l 1), .int .i64 (cB p l 2), .int .i64 (cB p l 3), .int .i64 (cS l 0), .int .i64 (cS l 1), .int .i64 (cS l 2), .int .i64 (cS l 3)] 45)) (V18 : Hid (Has w18 vb #[.int .i64 (cA p l2 0), .int .i64 (cA p l2 1), .int .i64 (cA p l2 2), .int .i64 (cA p l2 3), .int .i64 (cB p l2 0), .int .i64 (cB p l2 1), .int .i64 (cB p l2 2), .int .i64 (cB p l2 3), .int .i64 (cS l2 0), .int .i64 (cS l2 1), .int .i64 (cS l2 2), .int .i64 (cS l2 3)] 45)) (M18 : Hid (Mod No w w18)) (Y5 : Hid (book = false → l2 = l)) (sl0 sl1 sl2 sl3 sl5 sl6 sl7 sl8 sl9 sl10 sl11 sl12 sl13 sl14 sl15 sl17 sl18 sl19 sl20 sl21 sl22 sl27 sl28 sl29 sl30 sl31 sl32 sl33 sl34 sl35 sl36 sl37 sl38 sl39 sl40 sl41 sl42 sl43 sl44 sl45 sl46 sl47 sl48 sl49 sl50 sl51 sl52 sl53 sl54 sl55 sl56 sl57 sl58 sl59 sl60 sl61 sl62 sl63 sl64 sl65 sl66 sl67 sl68 sl69 sl70 sl71 sl72 sl73 sl74 sl75 sl76 sl77 sl78 sl79 sl80 sl81 sl82 sl83 sl84 sl85 sl86 sl87 sl88 sl89 sl90 sl91 sl92 sl93 sl94 sl95 sl96 sl97 sl98 sl99 sl100 sl101 sl102 sl103 sl104 sl105 sl106 sl107 sl108 sl109 sl110 sl111 sl112 sl113 sl114 sl115 sl116 sl117 sl118 sl119 sl120 sl121 sl122 sl123 sl124 sl125 sl126 sl127 sl128 sl129 sl130 sl131 sl132 sl133 sl134 sl135 sl136 sl137 sl138 sl139 sl140 sl141 sl142 sl143 sl144 sl145 sl146 sl147 sl148 sl149 sl150 sl151 sl152 sl153 sl154 sl155 sl156 sl157 sl158 sl159 sl160 sl161 sl162 sl163 sl164 sl165 sl166 sl167 sl168 sl169 sl170 sl171 sl172 sl173 sl174 sl175 sl176 sl177 sl178 sl179 sl180 sl181 sl182 sl183 sl184 sl185 sl186 sl187 sl188 sl189 sl190 sl191 sl192 sl193 sl194 : Value) :
    Code.wp Try.prog (backRest 18) (bodyPost Try.prog Try.f5 fun e w' => e = .returned (.bool true) ∧ Mod No w w') ⟨#[sl0, sl1, sl2, sl3, .bool book, sl5, sl6, sl7, sl8, sl9, sl10, sl11, sl12, sl13, sl14, sl15, .pointer (some ⟨tb, 0, none⟩), sl17, sl18, sl19, sl20, sl21, sl22, .int .i64 0, .pointer (some ⟨vb, 0, none⟩), .int .i64 0, .bool true, sl27, sl28, sl29, sl30, sl31, sl32, sl33, sl34, sl35, sl36, sl37, sl38, sl39, sl40, sl41, sl42, sl43, sl44, sl45, sl46, sl47, sl48, sl49, sl50, sl51, sl52, sl53, sl54, sl55, sl56, sl57, sl58, sl59, sl60, sl61, sl62, sl63, sl64, sl65, sl66, sl67, sl68, sl69, sl70, sl71, sl72, sl73, sl74, sl75, sl76, sl77, sl78, sl79, sl80, sl81, sl82, sl83, sl84, sl85, sl86, sl87, sl88, sl89, sl90, sl91, sl92, sl93, sl94, sl95, sl96, sl97, sl98, sl99, sl100, sl101, sl102, sl103, sl104, sl105, sl106, sl107, sl108, sl109, sl110, sl111, sl112, sl113, sl114, sl115, sl116, sl117, sl118, sl119, sl120, sl121, sl122, sl123, sl124, sl125, sl126, sl127, sl128, sl129, sl130, sl131, sl132, sl133, sl134, sl135, sl136, sl137, sl138, sl139, sl140, sl141, sl142, sl143, sl144, sl145, sl146, sl147, sl148, sl149, sl150, sl151, sl152, sl153, sl154, sl155, sl156, sl157, sl158, sl159, sl160, sl161, sl162, sl163, sl164, sl165, sl166, sl167, sl168, sl169, sl170, sl171, sl172, sl173, sl174, sl175, sl176, sl177, sl178, sl179, sl180, sl181, sl182, sl183, sl184, sl185, sl186, sl187, sl188, sl189, sl190, sl191, sl192, sl193, sl194], []⟩ w18 := by
  conv => arg 2; whnf
  have t18 := (unhide T18).cell
  have v18 := (unhide V18).cell
  clear T18 V18
  cases book with
  | false =>
    obtain rfl := (unhide Y5) rfl
    clear Y5
    go_wp2
    go_ret
    exact ⟨rfl, unhide M18⟩
  | true =>
    clear Y5
    cases h1 : same4 (cA p l2 0) (cA p l2 1) (cA p l2 2) (cA p l2 3) (cA p l 0) (cA p l 1) (cA p l 2) (cA p l 3) with
    | false =>
      go_wp2
      go_ret
      exact ⟨rfl, unhide M18⟩
    | true =>
      cases h2 : same4 (cB p l2 0) (cB p l2 1) (cB p l2 2) (cB p l2 3) (cB p l 0) (cB p l 1) (cB p l 2) (cB p l 3) with
      | false =>
        go_wp2
        go_ret
        exact ⟨rfl, unhide M18⟩
      | true =>
        cases h3 : same4 (cS l2 0) (cS l2 1) (cS l2 2) (cS l2 3) (cS l 0) (cS l 1) (cS l 2) (cS l 3) with
        | false =>
          go_wp2
          go_ret
          exact ⟨rfl, unhide M18⟩
        | true =>
          go_wp2
          go_ret
          exact ⟨rfl, unhide M18⟩
theorem back_q15 (p : Pla) (w w14 : World) (kb cb tb ub k : Nat) (ow : Nat → Nat) (now R C P : Int) (fl : Nat → Option (Pla × List Sea)) (l l1 l2 : List Sea) (book : Bool) (hk4 : k < 4) (hn : 0 ≤ now ∧ now ≤ 109951162777600)
    (B14 : Hid (Has w14 cb #[.int .i64 4, .int .i64 1, .int .i64 R, .int .i64 C, .int .i64 0, .int .i64 0, .int .i64 P, .int .i64 k, .int .i64 (now + 5), .int .i64 0, .int .i64 0, .int .i64 0, .int .i64 0, .int .i64 0, .int .i64 0, .int .i64 0] 37)) (T14 : Hid (Has w14 tb #[.int .i64 (cA p l 0), .int .i64 (cA p l 1), .int .i64 (cA p l 2), .int .i64 (cA p l 3), .int .i64 (cB p l 0), .int .i64 (cB p l 1), .int .i64 (cB p l 2), .int .i64 (cB p l 3), .int .i64 (cS l 0), .int .i64 (cS l 1), .int .i64 (cS l 2), .int .i64 (cS l 3)] 45)) (U14 : Hid (Has w14 ub #[.int .i64 (cA p l1 0), .int .i64 (cA p l1 1), .int .i64 (cA p l1 2), .int .i64 (cA p l1 3), .int .i64 (cB p l1 0), .int .i64 (cB p l1 1), .int .i64 (cB p l1 2), .int .i64 (cB p l1 3), .int .i64 (cS l1 0), .int .i64 (cS l1 1), .int .i64 (cS l1 2), .int .i64 (cS l1 3)] 45)) (M14 : Hid (Mod No w w14)) (K14 : Hid (KeepM w14 ow kb now fl 1))
    (OWB : ow cb = 0) (OWT : ow tb = 0) (OWU : ow ub = 0) (OWO : Hid (∀ j, j < w.heap.size → ow j = 0)) (F1 : Hid (∃ e, fl 1 = some (p.at e, l1)))
    (Y2 : Hid ((doK now fl (backC 4 R C k P now)).1 = 0)) (Y4 : Hid (∃ e, (doK now fl (backC 4 R C k P now)).2.2 1 = some (p.at e, l2))) (Y5 : Hid (book = false → l2 = l)) (y6 : cA p l1 0 + cB p l1 0 + 1 = cA p l2 0 + cB p l2 0) (y7 : cS l2 k = cS l1 k - 1) (sl0 sl1 sl2 sl3 sl5 sl6 sl7 sl8 sl9 sl10 sl12 sl13 sl14 sl17 sl18 sl19 sl20 sl22 sl23 sl24 sl25 sl26 sl27 sl28 sl29 sl30 sl31 sl32 sl33 sl34 sl35 sl36 sl37 sl38 sl39 sl40 sl41 sl42 sl43 sl44 sl45 sl46 sl47 sl48 sl49 sl50 sl51 sl52 sl53 sl54 sl55 sl56 sl57 sl58 sl59 sl60 sl61 sl62 sl63 sl64 sl65 sl66 sl67 sl68 sl69 sl70 sl71 sl72 sl73 sl74 sl75 sl76 sl77 sl78 sl79 sl80 sl81 sl82 sl83 sl84 sl85 sl86 sl87 sl88 sl89 sl90 sl91 sl92 sl93 sl94 sl95 sl96 sl97 sl98 sl99 sl100 sl101 sl102 sl103 sl104 sl105 sl106 sl107 sl108 sl109 sl110 sl111 sl112 sl113 sl114 sl115 sl116 sl117 sl118 sl119 sl120 sl121 sl122 sl123 sl124 sl125 sl126 sl127 sl128 sl129 sl130 sl131 sl132 sl133 sl134 sl135 sl136 sl137 sl138 sl139 sl140 sl141 sl142 sl143 sl144 sl145 sl146 sl147 sl148 sl149 sl150 sl151 sl152 sl153 sl154 sl155 sl156 sl157 sl158 sl159 sl160 sl161 sl162 sl163 sl164 sl165 sl166 sl167 sl168 sl169 sl170 sl171 sl172 sl173 sl174 sl175 sl176 sl177 sl178 sl179 sl180 sl181 sl182 sl183 sl184 sl185 sl186 sl187 sl188 sl189 sl190 sl191 sl192 sl193 sl194 : Value) :
    Code.wp Try.prog (backRest 15) (bodyPost Try.prog Try.f5 fun e w' => e = .returned (.bool true) ∧ Mod No w w') ⟨#[sl0, sl1, sl2, sl3, .bool book, sl5, sl6, sl7, sl8, sl9, sl10, .pointer (some ⟨kb, 0, none⟩), sl12, sl13, sl14, .pointer (some ⟨cb, 0, none⟩), .pointer (some ⟨tb, 0, none⟩), sl17, sl18, sl19, sl20, .pointer (some ⟨ub, 0, none⟩), sl22, sl23, sl24, sl25, sl26, sl27, sl28, sl29, sl30, sl31, sl32, sl33, sl34, sl35, sl36, sl37, sl38, sl39, sl40, sl41, sl42, sl43, sl44, sl45, sl46, sl47, sl48, sl49, sl50, sl51, sl52, sl53, sl54, sl55, sl56, sl57, sl58, sl59, sl60, sl61, sl62, sl63, sl64, sl65, sl66, sl67, sl68, sl69, sl70, sl71, sl72, sl73, sl74, sl75, sl76, sl77, sl78, sl79, sl80, sl81, sl82, sl83, sl84, sl85, sl86, sl87, sl88, sl89, sl90, sl91, sl92, sl93, sl94, sl95, sl96, sl97, sl98, sl99, sl100, sl101, sl102, sl103, sl104, sl105, sl106, sl107, sl108, sl109, sl110, sl111, sl112, sl113, sl114, sl115, sl116, sl117, sl118, sl119, sl120, sl121, sl122, sl123, sl124, sl125, sl126, sl127, sl128, sl129, sl130, sl131, sl132, sl133, sl134, sl135, sl136, sl137, sl138, sl139, sl140, sl141, sl142, sl143, sl144, sl145, sl146, sl147, sl148, sl149, sl150, sl151, sl152, sl153, sl154, sl155, sl156, sl157, sl158, sl159, sl160, sl161, sl162, sl163, sl164, sl165, sl166, sl167, sl168, sl169, sl170, sl171, sl172, sl173, sl174, sl175, sl176, sl177, sl178, sl179, sl180, sl181, sl182, sl183, sl184, sl185, sl186, sl187, sl188, sl189, sl190, sl191, sl192, sl193, sl194], []⟩ w14 := by
  conv => arg 2; whnf
  have s1 : ∀ j, (0 ≤ cA p l1 j ∧ cA p l1 j ≤ 120) ∧ (0 ≤ cB p l1 j ∧ cB p l1 j ≤ 120) ∧ (0 ≤ cS l1 j ∧ cS l1 j ≤ 120) := by
    obtain ⟨e1, f1⟩ := unhide F1
    have h := count_small ((unhide K14).wf (n := 1) (by omega) f1)
    exact h
  have hk0 : (0 : Int) ≤ k := by omega
  have hk4i : (k : Int) < 4 := by omega
  have HD2 := hide (show Calls Try.prog 26 #[.pointer (some ⟨kb, 0, none⟩), .agg #[.int .i64 4, .int .i64 1, .int .i64 R, .int .i64 C, .int .i64 0, .int .i64 0, .int .i64 P, .int .i64 k, .int .i64 (now + 5), .int .i64 0, .int .i64 0, .int .i64 0, .int .i64 0, .int .i64 0, .int .i64 0, .int .i64 0]] w14 fun e w' => e = .returned (.int .i64 (doK now fl (backC 4 R C k P now)).1) ∧ KeptM w14 w' ow kb (doK now fl (backC 4 R C k P now)).2.1 (doK now fl (backC 4 R C k P now)).2.2 0 from do_m (unhide K14) ⟨hn.1, by omega⟩ (backC 4 R C k P now))
  generalize doK now fl (backC 4 R C k P now) = D2 at *
  obtain ⟨g2, now2, fl2⟩ := D2
  try simp only at Y2 Y4 HD2
  obtain rfl : g2 = 0 := unhide Y2
  clear Y2 F1 K14
  have b14 := (unhide B14).cell
  have z14 := (unhide B14).lt
  go_wp2_with fail
  refine (unhide HD2).mono ?_
  rintro e w15 ⟨rfl, ⟨ow15, k15, ho15⟩, m15⟩
  obtain ⟨e2, f2⟩ := unhide Y4
  have F2 := hide f2
  clear f2
  have s2 : ∀ j, (0 ≤ cA p l2 j ∧ cA p l2 j ≤ 120) ∧ (0 ≤ cB p l2 j ∧ cB p l2 j ≤ 120) ∧ (0 ≤ cS l2 j ∧ cS l2 j ≤ 120) := by
    have h := count_small (k15.wf (n := 1) (by omega) (unhide F2))
    exact h
  have HC3 := hide (show Calls Try.prog 19 #[.pointer (some ⟨kb, 0, none⟩), .int .i64 1] w15 fun e w' => e = .returned (.tuple #[.agg #[.int .i64 (cA p l2 0), .int .i64 (cA p l2 1), .int .i64 (cA p l2 2), .int .i64 (cA p l2 3), .int .i64 (cB p l2 0), .int .i64 (cB p l2 1), .int .i64 (cB p l2 2), .int .i64 (cB p l2 3), .int .i64 (cS l2 0), .int .i64 (cS l2 1), .int .i64 (cS l2 2), .int .i64 (cS l2 3)], .int .i64 0]) ∧ Mod No w15 w' by
    have := count_any k15.toH 1
    rw [countK_some (unhide F2)] at this
    exact this)
  have B15 := hide (m15.has (unhide B14) (by simp [OWB]))
  have T15 := hide (m15.has (unhide T14) (by simp [OWT]))
  have U15 := hide (m15.has (unhide U14) (by simp [OWU]))
  have M15 := hide ((unhide M14).trans' m15 (fun j hj hl => hj ((unhide OWO) j hl)))
  clear k15 ho15 m15 B14 T14 U14 M14 HD2 Y4 b14 z14
  go_wp2_with fail
  refine (unhide HC3).mono ?_
  rintro e w16 ⟨rfl, m16⟩
  have B17 := hide ((m16.has (unhide B15) (fun x => x)).alloc (.cells #[.int .i64 (cA p l2 0), .int .i64 (cA p l2 1), .int .i64 (cA p l2 2), .int .i64 (cA p l2 3), .int .i64 (cB p l2 0), .int .i64 (cB p l2 1), .int .i64 (cB p l2 2), .int .i64 (cB p l2 3), .int .i64 (cS l2 0), .int .i64 (cS l2 1), .int .i64 (cS l2 2), .int .i64 (cS l2 3)] 45))
  have T17 := hide ((m16.has (unhide T15) (fun x => x)).alloc (.cells #[.int .i64 (cA p l2 0), .int .i64 (cA p l2 1), .int .i64 (cA p l2 2), .int .i64 (cA p l2 3), .int .i64 (cB p l2 0), .int .i64 (cB p l2 1), .int .i64 (cB p l2 2), .int .i64 (cB p l2 3), .int .i64 (cS l2 0), .int .i64 (cS l2 1), .int .i64 (cS l2 2), .int .i64 (cS l2 3)] 45))
  have U17 := hide ((m16.has (unhide U15) (fun x => x)).alloc (.cells #[.int .i64 (cA p l2 0), .int .i64 (cA p l2 1), .int .i64 (cA p l2 2), .int .i64 (cA p l2 3), .int .i64 (cB p l2 0), .int .i64 (cB p l2 1), .int .i64 (cB p l2 2), .int .i64 (cB p l2 3), .int .i64 (cS l2 0), .int .i64 (cS l2 1), .int .i64 (cS l2 2), .int .i64 (cS l2 3)] 45))
  have V17 := hide (Has.new w16 #[.int .i64 (cA p l2 0), .int .i64 (cA p l2 1), .int .i64 (cA p l2 2), .int .i64 (cA p l2 3), .int .i64 (cB p l2 0), .int .i64 (cB p l2 1), .int .i64 (cB p l2 2), .int .i64 (cB p l2 3), .int .i64 (cS l2 0), .int .i64 (cS l2 1), .int .i64 (cS l2 2), .int .i64 (cS l2 3)] 45)
  have M17 := hide (((unhide M15).trans m16).alloc (.cells #[.int .i64 (cA p l2 0), .int .i64 (cA p l2 1), .int .i64 (cA p l2 2), .int .i64 (cA p l2 3), .int .i64 (cB p l2 0), .int .i64 (cB p l2 1), .int .i64 (cB p l2 2), .int .i64 (cB p l2 3), .int .i64 (cS l2 0), .int .i64 (cS l2 1), .int .i64 (cS l2 2), .int .i64 (cS l2 3)] 45))
  clear m16 B15 T15 U15 M15 HC3
  go_upto_region 25 with fail
  generalize hvb : w16.heap.size = vb at *
  generalize w16.alloc (.cells #[.int .i64 (cA p l2 0), .int .i64 (cA p l2 1), .int .i64 (cA p l2 2), .int .i64 (cA p l2 3), .int .i64 (cB p l2 0), .int .i64 (cB p l2 1), .int .i64 (cB p l2 2), .int .i64 (cB p l2 3), .int .i64 (cS l2 0), .int .i64 (cS l2 1), .int .i64 (cS l2 2), .int .i64 (cS l2 3)] 45) = w17 at *
  clear hvb
  go_cut [26] (fun s wx => s = .bool true ∧ ∃ nq, wx = w17.drewN nq)
  case first =>
    have b7 : w17.cell? ⟨cb, 7, none⟩ = some (.int .i64 k) := (unhide B17).cell 7
    have u8 : w17.cell? ⟨ub, 8 + k, none⟩ = some (.int .i64 (cS l1 k)) := by rw [(unhide U17).cell]; exact tot_at p l1 k hk4
    have v8 : w17.cell? ⟨vb, 8 + k, none⟩ = some (.int .i64 (cS l2 k)) := by rw [(unhide V17).cell]; exact tot_at p l2 k hk4
    have u0 : w17.cell? ⟨ub, 0, none⟩ = some (.int .i64 (cA p l1 0)) := (unhide U17).cell 0
    have u4 : w17.cell? ⟨ub, 4, none⟩ = some (.int .i64 (cB p l1 0)) := (unhide U17).cell 4
    have v0 : w17.cell? ⟨vb, 0, none⟩ = some (.int .i64 (cA p l2 0)) := (unhide V17).cell 0
    have v4 : w17.cell? ⟨vb, 4, none⟩ = some (.int .i64 (cB p l2 0)) := (unhide V17).cell 4
    obtain ⟨a1, a2, a3⟩ := s1 0
    obtain ⟨a4, a5, a6⟩ := s2 0
    have a7 := (s1 k).2.2
    have a8 := (s2 k).2.2
    have e1 : IntKind.i64.wrap (cA p l1 0 + cB p l1 0) = cA p l1 0 + cB p l1 0 := wrap_fit _ (by omega) (by omega)
    have e2 : IntKind.i64.wrap (cA p l1 0 + cB p l1 0 + 1) = cA p l1 0 + cB p l1 0 + 1 := wrap_fit _ (by omega) (by omega)
    have e3 : IntKind.i64.wrap (cA p l2 0 + cB p l2 0) = cA p l2 0 + cB p l2 0 := wrap_fit _ (by omega) (by omega)
    have e4 : IntKind.i64.wrap (cS l1 k - 1) = cS l1 k - 1 := wrap_fit _ (by omega) (by omega)
    have e5 : (cA p l1 0 + cB p l1 0 + 1 == cA p l2 0 + cB p l2 0) = true := by simpa using y6
    have e6 : (cS l2 k == cS l1 k - 1) = true := by simpa using y7
    clear y6 y7 s1 s2 a1 a2 a3 a4 a5 a6 a7 a8
    go_quiet (fail)
    go_wp2
    go_meet
    exact ⟨rfl, _, rfl⟩
  case rest =>
    obtain ⟨rfl, nq2, rfl⟩ := hcut
    apply_assumption
    exact back_q18 p w _ tb vb l l2 book ((unhide T17).drewN nq2) ((unhide V17).drewN nq2) ((unhide M17).drewN nq2) Y5 _ _ _ _ _ _ _ _ _ _ _ _ _ _ _ _ _ _ _ _ _ _ _ _ _ _ _ _ _ _ _ _ _ _ _ _ _ _ _ _ _ _ _ _ _ _ _ _ _ _ _ _ _ _ _ _ _ _ _ _ _ _ _ _ _ _ _ _ _ _ _ _ _ _ _ _ _ _ _ _ _ _ _ _ _ _ _ _ _ _ _ _ _ _ _ _ _ _ _ _ _ _ _ _ _ _ _ _ _ _ _ _ _ _ _ _ _ _ _ _ _ _ _ _ _ _ _ _ _ _ _ _ _ _ _ _ _ _ _ _ _ _ _ _ _ _ _ _ _ _ _ _ _ _ _ _ _ _ _ _ _ _ _ _ _ _ _ _ _ _ _ _ _ _ _ _ _ _ _ _ _ _ _ _ _ _ _ _ _
end Go.Proofs.Ythhibagcpjeihaa
/- A seat is sold and given back: the sale. -/
namespace Go.Proofs.Ythhibagcpjeihaa
open Go.RowKit
open M
set_option linter.unusedVariables false
set_option linter.unusedSimpArgs false
set_option maxRecDepth 100000
set_option maxHeartbeats 20000000
attribute [local go_sem] eq40 same4_self
theorem back_q12 (p : Pla) (w w12 : World) (kb cb tb ub k : Nat) (ow : Nat → Nat) (now R C P kd g : Int) (fl : Nat → Option (Pla × List Sea)) (l l1 : List Sea) (book : Bool) (hk4 : k < 4) (hn : 0 ≤ now ∧ now ≤ 109951162777600)
    (B12 : Hid (Has w12 cb #[.int .i64 kd, .int .i64 1, .int .i64 R, .int .i64 C, .int .i64 0, .int .i64 0, .int .i64 P, .int .i64 k, .int .i64 (now + 5), .int .i64 0, .int .i64 0, .int .i64 0, .int .i64 0, .int .i64 0, .int .i64 0, .int .i64 0] 37)) (T12 : Hid (Has w12 tb #[.int .i64 (cA p l 0), .int .i64 (cA p l 1), .int .i64 (cA p l 2), .int .i64 (cA p l 3), .int .i64 (cB p l 0), .int .i64 (cB p l 1), .int .i64 (cB p l 2), .int .i64 (cB p l 3), .int .i64 (cS l 0), .int .i64 (cS l 1), .int .i64 (cS l 2), .int .i64 (cS l 3)] 45)) (U12 : Hid (Has w12 ub #[.int .i64 (cA p l1 0), .int .i64 (cA p l1 1), .int .i64 (cA p l1 2), .int .i64 (cA p l1 3), .int .i64 (cB p l1 0), .int .i64 (cB p l1 1), .int .i64 (cB p l1 2), .int .i64 (cB p l1 3), .int .i64 (cS l1 0), .int .i64 (cS l1 1), .int .i64 (cS l1 2), .int .i64 (cS l1 3)] 45)) (M12 : Hid (Mod No w w12)) (K12 : Hid (KeepM w12 ow kb now fl 1))
    (OWB : ow cb = 0) (OWT : ow tb = 0) (OWU : ow ub = 0) (OWO : Hid (∀ j, j < w.heap.size → ow j = 0)) (F1 : Hid (∃ e, fl 1 = some (p.at e, l1))) (TBN : tb ≠ cb) (UBN : ub ≠ cb) (ZW : w.heap.size ≤ cb) (s0 : Hid (0 ≤ cS l k ∧ cS l k ≤ 120))
    (NO : Hid (g ≠ 0 → l1 = l ∧ g ≠ 15 ∧ g ≠ 16 ∧ (g = 11 → M.leftOf p l k = 0)))
    (YES : Hid (g = 0 → ∃ l2, (doK now fl (backC 4 R C k P now)).1 = 0 ∧ (∃ e, (doK now fl (backC 4 R C k P now)).2.2 1 = some (p.at e, l2)) ∧ (book = false → cS l1 k = cS l k + 1 ∧ l2 = l) ∧ cA p l1 0 + cB p l1 0 + 1 = cA p l2 0 + cB p l2 0 ∧ cS l2 k = cS l1 k - 1)) (sl0 sl1 sl2 sl3 sl5 sl6 sl7 sl8 sl9 sl10 sl12 sl13 sl14 sl17 sl19 sl22 sl23 sl24 sl25 sl26 sl27 sl28 sl29 sl30 sl31 sl32 sl33 sl34 sl35 sl36 sl37 sl38 sl39 sl40 sl41 sl42 sl43 sl44 sl45 sl46 sl47 sl48 sl49 sl50 sl51 sl52 sl53 sl54 sl55 sl56 sl57 sl58 sl59 sl60 sl61 sl62 sl63 sl64 sl65 sl66 sl67 sl68 sl69 sl70 sl71 sl72 sl73 sl74 sl75 sl76 sl77 sl78 sl79 sl80 sl81 sl82 sl83 sl84 sl85 sl86 sl87 sl88 sl89 sl90 sl91 sl92 sl93 sl94 sl95 sl96 sl97 sl98 sl99 sl100 sl101 sl102 sl103 sl104 sl105 sl106 sl107 sl108 sl109 sl110 sl111 sl112 sl113 sl114 sl115 sl116 sl117 sl118 sl119 sl120 sl121 sl122 sl123 sl124 sl125 sl126 sl127 sl128 sl129 sl130 sl131 sl132 sl133 sl134 sl135 sl136 sl137 sl138 sl139 sl140 sl141 sl142 sl143 sl144 sl145 sl146 sl147 sl148 sl149 sl150 sl151 sl152 sl153 sl154 sl155 sl156 sl157 sl158 sl159 sl160 sl161 sl162 sl163 sl164 sl165 sl166 sl167 sl168 sl169 sl170 sl171 sl172 sl173 sl174 sl175 sl176 sl177 sl178 sl179 sl180 sl181 sl182 sl183 sl184 sl185 sl186 sl187 sl188 sl189 sl190 sl191 sl192 sl193 sl194 : Value) :
    Code.wp Try.prog (backRest 12) (bodyPost Try.prog Try.f5 fun e w' => e = .returned (.bool true) ∧ Mod No w w') ⟨#[sl0, sl1, sl2, sl3, .bool book, sl5, sl6, sl7, sl8, sl9, sl10, .pointer (some ⟨kb, 0, none⟩), sl12, sl13, sl14, .pointer (some ⟨cb, 0, none⟩), .pointer (some ⟨tb, 0, none⟩), sl17, .int .i64 (min (M.leftOf p l k) 9), sl19, .int .i64 g, .pointer (some ⟨ub, 0, none⟩), sl22, sl23, sl24, sl25, sl26, sl27, sl28, sl29, sl30, sl31, sl32, sl33, sl34, sl35, sl36, sl37, sl38, sl39, sl40, sl41, sl42, sl43, sl44, sl45, sl46, sl47, sl48, sl49, sl50, sl51, sl52, sl53, sl54, sl55, sl56, sl57, sl58, sl59, sl60, sl61, sl62, sl63, sl64, sl65, sl66, sl67, sl68, sl69, sl70, sl71, sl72, sl73, sl74, sl75, sl76, sl77, sl78, sl79, sl80, sl81, sl82, sl83, sl84, sl85, sl86, sl87, sl88, sl89, sl90, sl91, sl92, sl93, sl94, sl95, sl96, sl97, sl98, sl99, sl100, sl101, sl102, sl103, sl104, sl105, sl106, sl107, sl108, sl109, sl110, sl111, sl112, sl113, sl114, sl115, sl116, sl117, sl118, sl119, sl120, sl121, sl122, sl123, sl124, sl125, sl126, sl127, sl128, sl129, sl130, sl131, sl132, sl133, sl134, sl135, sl136, sl137, sl138, sl139, sl140, sl141, sl142, sl143, sl144, sl145, sl146, sl147, sl148, sl149, sl150, sl151, sl152, sl153, sl154, sl155, sl156, sl157, sl158, sl159, sl160, sl161, sl162, sl163, sl164, sl165, sl166, sl167, sl168, sl169, sl170, sl171, sl172, sl173, sl174, sl175, sl176, sl177, sl178, sl179, sl180, sl181, sl182, sl183, sl184, sl185, sl186, sl187, sl188, sl189, sl190, sl191, sl192, sl193, sl194], []⟩ w12 := by
  conv => arg 2; whnf
  have hk0 : (0 : Int) ≤ k := by omega
  have hk4i : (k : Int) < 4 := by omega
  by_cases hg : g = 0
  case neg =>
    obtain ⟨rfl, n2, n3, n4⟩ := (unhide NO) hg
    have g0 : (g != 0) = true := by simp [hg]
    have g15 : (g != 15) = true := by simpa using n2
    have g16 : (g != 16) = true := by simpa using n3
    clear YES NO n2 n3 K12 F1 s0
    have t10 := (unhide T12).cell
    have u10 := (unhide U12).cell
    by_cases h11 : g = 11
    · have n0 : min (M.leftOf p l1 k) 9 = 0 := by have := n4 h11; omega
      subst h11
      clear n4 hg
      go_wp2
      go_ret
      exact ⟨rfl, unhide M12⟩
    · have g11 : (g != 11) = true := by simp [h11]
      clear n4
      go_wp2
      go_ret
      exact ⟨rfl, unhide M12⟩
  case pos =>
    subst hg
    obtain ⟨l2, y2, y4, y5, y6, y7⟩ := (unhide YES) rfl
    have Y2 := hide y2
    have Y4 := hide y4
    have Y5 := hide y5
    have Y6 := hide y6
    have Y7 := hide y7
    clear y2 y4 y5 y6 y7 YES NO
    have B13 := hide (show Has (w12.setCell ⟨cb, 0, none⟩ (.int .i64 4)) cb #[.int .i64 4, .int .i64 1, .int .i64 R, .int .i64 C, .int .i64 0, .int .i64 0, .int .i64 P, .int .i64 k, .int .i64 (now + 5), .int .i64 0, .int .i64 0, .int .i64 0, .int .i64 0, .int .i64 0, .int .i64 0, .int .i64 0] 37 from (unhide B12).set 0 _)
    have U13 := hide ((unhide U12).set_ne (a := ⟨cb, 0, none⟩) UBN (.int .i64 4))
    have T13 := hide ((unhide T12).set_ne (a := ⟨cb, 0, none⟩) TBN (.int .i64 4))
    have M13 := hide (show Mod No w (w12.setCell ⟨cb, 0, none⟩ (.int .i64 4)) from (unhide M12).setCell (.inr ZW) _)
    have K13 := hide (show KeepM (w12.setCell ⟨cb, 0, none⟩ (.int .i64 4)) ow kb now fl 1 from (unhide K12).mod ((Mod.refl (fun j => j = cb) w12).setCell (.inl rfl) _) (fun j hj e => hj (by rw [e]; exact OWB)))
    have b12 := (unhide B12).cell
    have f12 := (unhide B12).frozen
    have z12 := (unhide B12).lt
    clear B12 U12 T12 M12 K12
    go_upto_region 21 with fail
    clear b12 f12 z12
    generalize (w12.setCell ⟨cb, 0, none⟩ (.int .i64 4)) = w13 at *
    go_cut [139] (fun s wx => s = .bool false ∧ ∃ nq, wx = w13.drewN nq)
    case first =>
      have b7 : w13.cell? ⟨cb, 7, none⟩ = some (.int .i64 k) := (unhide B13).cell 7
      have u8 : w13.cell? ⟨ub, 8 + k, none⟩ = some (.int .i64 (cS l1 k)) := by rw [(unhide U13).cell]; exact tot_at p l1 k hk4
      have t8 : w13.cell? ⟨tb, 8 + k, none⟩ = some (.int .i64 (cS l k)) := by rw [(unhide T13).cell]; exact tot_at p l k hk4
      have e1 : IntKind.i64.wrap (cS l k + 1) = cS l k + 1 := wrap_fit _ (by have := unhide s0; omega) (by have := unhide s0; omega)
      have hy : book = false → cS l1 k = cS l k + 1 := fun h => ((unhide Y5) h).1
      by_cases hE : cS l1 k = cS l k + 1
      · have hd : (cS l1 k != cS l k + 1) = false := by simp [hE]
        go_quiet (fail)
        go_wp2
        go_meet
        exact ⟨rfl, _, rfl⟩
      · have hd : (cS l1 k != cS l k + 1) = true := by simp [hE]
        have hb : book = true := by
          cases book with
          | true => rfl
          | false => exact absurd (hy rfl) hE
        subst hb
        go_quiet (fail)
        go_wp2
        go_meet
        exact ⟨rfl, _, rfl⟩
    case rest =>
      obtain ⟨rfl, nq, rfl⟩ := hcut
      have B14 := hide ((unhide B13).drewN nq)
      have U14 := hide ((unhide U13).drewN nq)
      have T14 := hide ((unhide T13).drewN nq)
      have M14 := hide ((unhide M13).drewN nq)
      have K14 := hide ((unhide K13).mod ((Mod.refl No w13).drewN nq) (fun _ _ x => x))
      clear B13 U13 T13 M13 K13
      generalize w13.drewN nq = w14 at *
      go_upto_if 139 with fail
      go_cut [] (fun wx => wx = w14)
      case first =>
        go_wp2
        go_meet
        rfl
      case rest =>
        subst hcut
        apply_assumption
        exact back_q15 p w _ kb cb tb ub k ow now R C P fl l l1 l2 book hk4 hn B14 T14 U14 M14 K14 OWB OWT OWU OWO F1 Y2 Y4 (fun h => ((unhide Y5) h).2) (unhide Y6) (unhide Y7) _ _ _ _ _ _ _ _ _ _ _ _ _ _ _ _ _ _ _ _ _ _ _ _ _ _ _ _ _ _ _ _ _ _ _ _ _ _ _ _ _ _ _ _ _ _ _ _ _ _ _ _ _ _ _ _ _ _ _ _ _ _ _ _ _ _ _ _ _ _ _ _ _ _ _ _ _ _ _ _ _ _ _ _ _ _ _ _ _ _ _ _ _ _ _ _ _ _ _ _ _ _ _ _ _ _ _ _ _ _ _ _ _ _ _ _ _ _ _ _ _ _ _ _ _ _ _ _ _ _ _ _ _ _ _ _ _ _ _ _ _ _ _ _ _ _ _ _ _ _ _ _ _ _ _ _ _ _ _ _ _ _ _ _ _ _ _ _ _ _ _ _ _ _ _ _ _ _ _ _ _ _ _ _ _ _ _ _ _ _
end Go.Proofs.Ythhibagcpjeihaa
/- A seat is sold and given back: what is told ahead. -/
namespace Go.Proofs.Ythhibagcpjeihaa
open Go.RowKit
open M
set_option linter.unusedVariables false
set_option linter.unusedSimpArgs false
set_option maxRecDepth 100000
set_option maxHeartbeats 20000000
attribute [local go_sem] eq40 same4_self
theorem back_q7 (p : Pla) (w w7 : World) (kb cb k : Nat) (ow : Nat → Nat) (now R C P kd : Int) (fl : Nat → Option (Pla × List Sea)) (l : List Sea) (book : Bool) (hk4 : k < 4) (hn : 0 ≤ now ∧ now ≤ 109951162777600) (hP : 1 ≤ P ∧ P ≤ 1000) (hkd : kd = if book then 3 else 2)
    (B7 : Hid (Has w7 cb #[.int .i64 kd, .int .i64 1, .int .i64 R, .int .i64 C, .int .i64 0, .int .i64 0, .int .i64 P, .int .i64 k, .int .i64 (now + 5), .int .i64 0, .int .i64 0, .int .i64 0, .int .i64 0, .int .i64 0, .int .i64 0, .int .i64 0] 37)) (M7 : Hid (Mod No w w7)) (K7 : Hid (KeepM w7 ow kb now fl 2)) (OWB : ow cb = 0) (OWO : Hid (∀ j, j < w.heap.size → ow j = 0)) (F1 : Hid (fl 1 = some (p, l))) (ZW : w.heap.size ≤ cb) (sl0 sl1 sl2 sl3 sl5 sl6 sl7 sl8 sl9 sl10 sl12 sl13 sl14 sl16 sl17 sl18 sl19 sl20 sl21 sl22 sl23 sl24 sl25 sl26 sl27 sl28 sl29 sl30 sl31 sl32 sl33 sl34 sl35 sl36 sl37 sl38 sl39 sl40 sl41 sl42 sl43 sl44 sl45 sl46 sl47 sl48 sl49 sl50 sl51 sl52 sl53 sl54 sl55 sl56 sl57 sl58 sl59 sl60 sl61 sl62 sl63 sl64 sl65 sl66 sl67 sl68 sl69 sl70 sl71 sl72 sl73 sl74 sl75 sl76 sl77 sl78 sl79 sl80 sl81 sl82 sl83 sl84 sl85 sl86 sl87 sl88 sl89 sl90 sl91 sl92 sl93 sl94 sl95 sl96 sl97 sl98 sl99 sl100 sl101 sl102 sl103 sl104 sl105 sl106 sl107 sl108 sl109 sl110 sl111 sl112 sl113 sl114 sl115 sl116 sl117 sl118 sl119 sl120 sl121 sl122 sl123 sl124 sl125 sl126 sl127 sl128 sl129 sl130 sl131 sl132 sl133 sl134 sl135 sl136 sl137 sl138 sl139 sl140 sl141 sl142 sl143 sl144 sl145 sl146 sl147 sl148 sl149 sl150 sl151 sl152 sl153 sl154 sl155 sl156 sl157 sl158 sl159 sl160 sl161 sl162 sl163 sl164 sl165 sl166 sl167 sl168 sl169 sl170 sl171 sl172 sl173 sl174 sl175 sl176 sl177 sl178 sl179 sl180 sl181 sl182 sl183 sl184 sl185 sl186 sl187 sl188 sl189 sl190 sl191 sl192 sl193 sl194 : Value) :
    Code.wp Try.prog (backRest 7) (bodyPost Try.prog Try.f5 fun e w' => e = .returned (.bool true) ∧ Mod No w w') ⟨#[sl0, sl1, sl2, sl3, .bool book, sl5, sl6, sl7, sl8, sl9, sl10, .pointer (some ⟨kb, 0, none⟩), sl12, sl13, sl14, .pointer (some ⟨cb, 0, none⟩), sl16, sl17, sl18, sl19, sl20, sl21, sl22, sl23, sl24, sl25, sl26, sl27, sl28, sl29, sl30, sl31, sl32, sl33, sl34, sl35, sl36, sl37, sl38, sl39, sl40, sl41, sl42, sl43, sl44, sl45, sl46, sl47, sl48, sl49, sl50, sl51, sl52, sl53, sl54, sl55, sl56, sl57, sl58, sl59, sl60, sl61, sl62, sl63, sl64, sl65, sl66, sl67, sl68, sl69, sl70, sl71, sl72, sl73, sl74, sl75, sl76, sl77, sl78, sl79, sl80, sl81, sl82, sl83, sl84, sl85, sl86, sl87, sl88, sl89, sl90, sl91, sl92, sl93, sl94, sl95, sl96, sl97, sl98, sl99, sl100, sl101, sl102, sl103, sl104, sl105, sl106, sl107, sl108, sl109, sl110, sl111, sl112, sl113, sl114, sl115, sl116, sl117, sl118, sl119, sl120, sl121, sl122, sl123, sl124, sl125, sl126, sl127, sl128, sl129, sl130, sl131, sl132, sl133, sl134, sl135, sl136, sl137, sl138, sl139, sl140, sl141, sl142, sl143, sl144, sl145, sl146, sl147, sl148, sl149, sl150, sl151, sl152, sl153, sl154, sl155, sl156, sl157, sl158, sl159, sl160, sl161, sl162, sl163, sl164, sl165, sl166, sl167, sl168, sl169, sl170, sl171, sl172, sl173, sl174, sl175, sl176, sl177, sl178, sl179, sl180, sl181, sl182, sl183, sl184, sl185, sl186, sl187, sl188, sl189, sl190, sl191, sl192, sl193, sl194], []⟩ w7 := by
  conv => arg 2; whnf
  have hm := back_model (unhide F1) ((unhide K7).wf (by omega) (unhide F1)) now book kd R C P k hkd hk4 hP
  have s0 := hide ((count_small ((unhide K7).wf (by omega) (unhide F1))) k).2.2
  have HC1 := hide (show Calls Try.prog 19 #[.pointer (some ⟨kb, 0, none⟩), .int .i64 1] w7 fun e w' => e = .returned (.tuple #[.agg #[.int .i64 (cA p l 0), .int .i64 (cA p l 1), .int .i64 (cA p l 2), .int .i64 (cA p l 3), .int .i64 (cB p l 0), .int .i64 (cB p l 1), .int .i64 (cB p l 2), .int .i64 (cB p l 3), .int .i64 (cS l 0), .int .i64 (cS l 1), .int .i64 (cS l 2), .int .i64 (cS l 3)], .int .i64 0]) ∧ Mod No w7 w' by
    have := count_any (unhide K7).toH 1
    rw [countK_some (unhide F1)] at this
    exact this)
  have HL1 := hide fun W (hW : Mod No w7 W) => (show Calls Try.prog 25 #[.pointer (some ⟨kb, 0, none⟩), .int .i64 1, .int .i64 k] W fun e w' => e = .returned (.tuple #[.int .i64 (min (M.leftOf p l k) 9), .int .i64 0]) ∧ Mod No W w' by
    have := left_any ((unhide K7).mod hW (fun _ _ x => x)).toH 1 k
    rw [leftK_some (unhide F1) k hk4] at this
    exact this)
  have HD1 := hide fun W (hW : Mod No w7 W) => (show Calls Try.prog 26 #[.pointer (some ⟨kb, 0, none⟩), .agg #[.int .i64 kd, .int .i64 1, .int .i64 R, .int .i64 C, .int .i64 0, .int .i64 0, .int .i64 P, .int .i64 k, .int .i64 (now + 5), .int .i64 0, .int .i64 0, .int .i64 0, .int .i64 0, .int .i64 0, .int .i64 0, .int .i64 0]] W fun e w' => e = .returned (.int .i64 (doK now fl (backC kd R C k P now)).1) ∧ KeptM W w' ow kb (doK now fl (backC kd R C k P now)).2.1 (doK now fl (backC kd R C k P now)).2.2 1 from do_m ((unhide K7).mod hW (fun _ _ x => x)) ⟨hn.1, by omega⟩ (backC kd R C k P now))
  have N1 := hide hm.now1
  have NO := hide hm.no
  have YES := hide hm.yes
  have KP := hide (hm.plane (unhide F1))
  clear hm hkd hP
  generalize doK now fl (backC kd R C k P now) = D at *
  obtain ⟨g, now', fl'⟩ := D
  try simp only at N1 NO YES HD1 KP
  have N1 : now = now' := (unhide N1).symm
  subst N1
  obtain ⟨e1, l1, kp1⟩ := unhide KP
  have FL := hide kp1
  clear KP kp1
  have hk0 : (0 : Int) ≤ k := by omega
  have hk4i : (k : Int) < 4 := by omega
  have F2 := F1
  go_wp2_with fail
  refine (unhide HC1).mono ?_
  rintro e w8 ⟨rfl, m8⟩
  have B8 := hide ((m8.has (unhide B7) (fun x => x)).alloc (.cells #[.int .i64 (cA p l 0), .int .i64 (cA p l 1), .int .i64 (cA p l 2), .int .i64 (cA p l 3), .int .i64 (cB p l 0), .int .i64 (cB p l 1), .int .i64 (cB p l 2), .int .i64 (cB p l 3), .int .i64 (cS l 0), .int .i64 (cS l 1), .int .i64 (cS l 2), .int .i64 (cS l 3)] 45))
  have M8 := hide (m8.alloc (.cells #[.int .i64 (cA p l 0), .int .i64 (cA p l 1), .int .i64 (cA p l 2), .int .i64 (cA p l 3), .int .i64 (cB p l 0), .int .i64 (cB p l 1), .int .i64 (cB p l 2), .int .i64 (cB p l 3), .int .i64 (cS l 0), .int .i64 (cS l 1), .int .i64 (cS l 2), .int .i64 (cS l 3)] 45))
  have T8 := hide (Has.new w8 #[.int .i64 (cA p l 0), .int .i64 (cA p l 1), .int .i64 (cA p l 2), .int .i64 (cA p l 3), .int .i64 (cB p l 0), .int .i64 (cB p l 1), .int .i64 (cB p l 2), .int .i64 (cB p l 3), .int .i64 (cS l 0), .int .i64 (cS l 1), .int .i64 (cS l 2), .int .i64 (cS l 3)] 45)
  have b8 := (m8.has (unhide B7) (fun x => x)).cell
  have z8 := (m8.has (unhide B7) (fun x => x)).lt
  have sz8 := m8.size
  clear m8 HC1
  go_wp2_with fail
  refine ((unhide HL1) _ (unhide M8)).mono ?_
  rintro e w9 ⟨rfl, m9⟩
  have B9 := hide (m9.has (unhide B8) (fun x => x))
  have T9 := hide (m9.has (unhide T8) (fun x => x))
  have M9 := hide ((unhide M8).trans m9)
  clear m9 B8 M8 T8 b8 HL1
  have b9 := (unhide B9).cell
  have z9 := (unhide B9).lt
  go_wp2_with fail
  refine ((unhide HD1) _ (unhide M9)).mono ?_
  rintro e w10 ⟨rfl, ⟨ow10, k10, ho10⟩, m10⟩
  have hO : ∀ j, w7.heap.size ≤ j → ow j = 0 := fun j hj => by
    by_cases e : ow j = 0
    · exact e
    · have := (unhide K7).old _ e; omega
  have B10 := hide (m10.has (unhide B9) (by simp [OWB]))
  have T10 := hide (m10.has (unhide T9) (by simp [hO w8.heap.size sz8]))
  have K10 := hide k10
  have M10 := hide (((unhide M7).trans (unhide M9)).trans' m10 (fun j hj hl => hj ((unhide OWO) j hl)))
  have OWB2 : ow10 cb = 0 := by rw [ho10 _ (unhide B9).lt]; exact OWB
  have OWT : ow10 w8.heap.size = 0 := by rw [ho10 _ (unhide T9).lt]; exact hO _ sz8
  have OWO2 := hide (show ∀ j, j < w.heap.size → ow10 j = 0 from fun j hj => by rw [ho10 _ (Nat.lt_of_lt_of_le hj (Nat.le_trans ZW (Nat.le_of_lt (unhide B9).lt)))]; exact (unhide OWO) j hj)
  have TBN : w8.heap.size ≠ cb := by omega
  generalize w8.heap.size = tb at *
  clear hO k10 ho10 m10 HD1 K7 M7 M9 B9 T9 b9 z9 OWO OWB F1 z8 sz8
  have HC2 := hide (show Calls Try.prog 19 #[.pointer (some ⟨kb, 0, none⟩), .int .i64 1] w10 fun e w' => e = .returned (.tuple #[.agg #[.int .i64 (cA p l1 0), .int .i64 (cA p l1 1), .int .i64 (cA p l1 2), .int .i64 (cA p l1 3), .int .i64 (cB p l1 0), .int .i64 (cB p l1 1), .int .i64 (cB p l1 2), .int .i64 (cB p l1 3), .int .i64 (cS l1 0), .int .i64 (cS l1 1), .int .i64 (cS l1 2), .int .i64 (cS l1 3)], .int .i64 0]) ∧ Mod No w10 w' by
    have := count_any (unhide K10).toH 1
    rw [countK_some (unhide FL)] at this
    exact this)
  go_wp2_with fail
  refine (unhide HC2).mono ?_
  rintro e w11 ⟨rfl, m11⟩
  have B12 := hide ((m11.has (unhide B10) (fun x => x)).alloc (.cells #[.int .i64 (cA p l1 0), .int .i64 (cA p l1 1), .int .i64 (cA p l1 2), .int .i64 (cA p l1 3), .int .i64 (cB p l1 0), .int .i64 (cB p l1 1), .int .i64 (cB p l1 2), .int .i64 (cB p l1 3), .int .i64 (cS l1 0), .int .i64 (cS l1 1), .int .i64 (cS l1 2), .int .i64 (cS l1 3)] 45))
  have T12 := hide ((m11.has (unhide T10) (fun x => x)).alloc (.cells #[.int .i64 (cA p l1 0), .int .i64 (cA p l1 1), .int .i64 (cA p l1 2), .int .i64 (cA p l1 3), .int .i64 (cB p l1 0), .int .i64 (cB p l1 1), .int .i64 (cB p l1 2), .int .i64 (cB p l1 3), .int .i64 (cS l1 0), .int .i64 (cS l1 1), .int .i64 (cS l1 2), .int .i64 (cS l1 3)] 45))
  have U12 := hide (Has.new w11 #[.int .i64 (cA p l1 0), .int .i64 (cA p l1 1), .int .i64 (cA p l1 2), .int .i64 (cA p l1 3), .int .i64 (cB p l1 0), .int .i64 (cB p l1 1), .int .i64 (cB p l1 2), .int .i64 (cB p l1 3), .int .i64 (cS l1 0), .int .i64 (cS l1 1), .int .i64 (cS l1 2), .int .i64 (cS l1 3)] 45)
  have M12 := hide (((unhide M10).trans m11).alloc (.cells #[.int .i64 (cA p l1 0), .int .i64 (cA p l1 1), .int .i64 (cA p l1 2), .int .i64 (cA p l1 3), .int .i64 (cB p l1 0), .int .i64 (cB p l1 1), .int .i64 (cB p l1 2), .int .i64 (cB p l1 3), .int .i64 (cS l1 0), .int .i64 (cS l1 1), .int .i64 (cS l1 2), .int .i64 (cS l1 3)] 45))
  have K12 := hide (((unhide K10).mod m11 (fun _ _ x => x)).mod ((Mod.refl No w11).alloc (.cells #[.int .i64 (cA p l1 0), .int .i64 (cA p l1 1), .int .i64 (cA p l1 2), .int .i64 (cA p l1 3), .int .i64 (cB p l1 0), .int .i64 (cB p l1 1), .int .i64 (cB p l1 2), .int .i64 (cB p l1 3), .int .i64 (cS l1 0), .int .i64 (cS l1 1), .int .i64 (cS l1 2), .int .i64 (cS l1 3)] 45)) (fun _ _ x => x))
  have OWU : ow10 w11.heap.size = 0 := by
    have hx := unhide K10
    by_cases e : ow10 w11.heap.size = 0
    · exact e
    · have := hx.old _ e
      have := m11.size
      omega
  have UBN : w11.heap.size ≠ cb := by have := (unhide B10).lt; have := m11.size; omega
  clear m11 B10 T10 K10 M10 HC2
  go_upto_if 101 with fail
  generalize hub : w11.heap.size = ub at *
  generalize w11.alloc (.cells #[.int .i64 (cA p l1 0), .int .i64 (cA p l1 1), .int .i64 (cA p l1 2), .int .i64 (cA p l1 3), .int .i64 (cB p l1 0), .int .i64 (cB p l1 1), .int .i64 (cB p l1 2), .int .i64 (cB p l1 3), .int .i64 (cS l1 0), .int .i64 (cS l1 1), .int .i64 (cS l1 2), .int .i64 (cS l1 3)] 45) = w12 at *
  clear hub
  go_cut [] (fun wx => wx = w12)
  case first =>
    go_wp2
    go_meet
    rfl
  case rest =>
    subst hcut
    apply_assumption
    refine back_q12 p w _ kb cb tb ub k ow10 now R C P kd g fl' l l1 book hk4 hn B12 T12 U12 M12 K12 OWB2 OWT OWU OWO2 (hide ⟨e1, unhide FL⟩) TBN UBN ZW s0 ?_ ?_ _ _ _ _ _ _ _ _ _ _ _ _ _ _ _ _ _ _ _ _ _ _ _ _ _ _ _ _ _ _ _ _ _ _ _ _ _ _ _ _ _ _ _ _ _ _ _ _ _ _ _ _ _ _ _ _ _ _ _ _ _ _ _ _ _ _ _ _ _ _ _ _ _ _ _ _ _ _ _ _ _ _ _ _ _ _ _ _ _ _ _ _ _ _ _ _ _ _ _ _ _ _ _ _ _ _ _ _ _ _ _ _ _ _ _ _ _ _ _ _ _ _ _ _ _ _ _ _ _ _ _ _ _ _ _ _ _ _ _ _ _ _ _ _ _ _ _ _ _ _ _ _ _ _ _ _ _ _ _ _ _ _ _ _ _ _ _ _ _ _ _ _ _ _ _ _ _ _ _ _ _ _ _ _ _ _ _ _
    · intro hg
      obtain ⟨n1, n2, n3, n4⟩ := (unhide NO) hg
      have h1 : fl' 1 = some (p.at e1, l1) := unhide FL
      have h2 : fl 1 = some (p, l) := unhide F2
      rw [n1, h2] at h1
      simp only [Option.some.injEq, Prod.mk.injEq, true_and] at h1
      exact ⟨h1.2.symm, n2, n3, n4⟩
    · intro hg
      obtain ⟨l', l'', y1, y2, y3, y4, y5, y6, y7⟩ := (unhide YES) hg
      have h1 : fl' 1 = some (p.at e1, l1) := unhide FL
      rw [h1] at y1
      simp only [Option.some.injEq, Prod.mk.injEq, true_and] at y1
      obtain ⟨_, rfl⟩ := y1
      exact ⟨l'', y2, ⟨_, y4⟩, y5, y6, y7⟩
end Go.Proofs.Ythhibagcpjeihaa
