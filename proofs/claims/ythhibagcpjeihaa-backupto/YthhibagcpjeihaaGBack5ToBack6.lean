import Derived.Test.YthhibagcpjeihaaGBack2ToBack4
import Derived.Deep.CutBlock
/- A seat is sold and given back: the command. -/
namespace Go.Proofs.Ythhibagcpjeihaa
open Go.RowKit
open M
set_option linter.unusedVariables false
set_option linter.unusedSimpArgs false
set_option maxRecDepth 100000
set_option maxHeartbeats 20000000
attribute [local go_sem] eq40 same4_self
theorem pick_small2 (c n : Int) (hn : 0 < n ∧ n ≤ 100000) : -9223372036854775808 ≤ pickN c n ∧ pickN c n ≤ 9223372036854775807 ∧ IntKind.i64.wrap (1 + pickN c n) = 1 + pickN c n ∧ IntKind.i64.wrap (pickN c n + 1) = pickN c n + 1 := by
  have := pickN_range c n hn.1
  exact ⟨by omega, by omega, wrap_fit _ (by omega) (by omega), wrap_fit _ (by omega) (by omega)⟩
theorem back_q6 (p : Pla) (w w6 : World) (kb cb k : Nat) (ow : Nat → Nat) (now R C P : Int) (fl : Nat → Option (Pla × List Sea)) (l : List Sea) (book : Bool) (hk4 : k < 4) (hn : 0 ≤ now ∧ now ≤ 109951162777600) (hP : 1 ≤ P ∧ P ≤ 1000)
    (B6 : Hid (Has w6 cb #[.int .i64 2, .int .i64 1, .int .i64 R, .int .i64 C, .int .i64 0, .int .i64 0, .int .i64 P, .int .i64 k, .int .i64 (now + 5), .int .i64 0, .int .i64 0, .int .i64 0, .int .i64 0, .int .i64 0, .int .i64 0, .int .i64 0] 37)) (M6 : Hid (Mod No w w6)) (K6 : Hid (KeepM w6 ow kb now fl 2)) (OWB : ow cb = 0) (OWO : Hid (∀ j, j < w.heap.size → ow j = 0)) (F1 : Hid (fl 1 = some (p, l))) (ZW : w.heap.size ≤ cb) (sl0 sl1 sl2 sl3 sl5 sl6 sl7 sl8 sl9 sl10 sl12 sl13 sl14 sl16 sl17 sl18 sl19 sl20 sl21 sl22 sl23 sl24 sl25 sl26 sl27 sl28 sl29 sl30 sl31 sl32 sl33 sl34 sl35 sl36 sl37 sl38 sl39 sl40 sl41 sl42 sl43 sl44 sl45 sl46 sl47 sl48 sl49 sl50 sl51 sl52 sl53 sl54 sl55 sl56 sl57 sl58 sl59 sl60 sl61 sl62 sl63 sl64 sl65 sl66 sl67 sl68 sl69 sl70 sl71 sl72 sl73 sl74 sl75 sl76 sl77 sl78 sl79 sl80 sl81 sl82 sl83 sl84 sl85 sl86 sl87 sl88 sl89 sl90 sl91 sl92 sl93 sl94 sl95 sl96 sl97 sl98 sl99 sl100 sl101 sl102 sl103 sl104 sl105 sl106 sl107 sl108 sl109 sl110 sl111 sl112 sl113 sl114 sl115 sl116 sl117 sl118 sl119 sl120 sl121 sl122 sl123 sl124 sl125 sl126 sl127 sl128 sl129 sl130 sl131 sl132 sl133 sl134 sl135 sl136 sl137 sl138 sl139 sl140 sl141 sl142 sl143 sl144 sl145 sl146 sl147 sl148 sl149 sl150 sl151 sl152 sl153 sl154 sl155 sl156 sl157 sl158 sl159 sl160 sl161 sl162 sl163 sl164 sl165 sl166 sl167 sl168 sl169 sl170 sl171 sl172 sl173 sl174 sl175 sl176 sl177 sl178 sl179 sl180 sl181 sl182 sl183 sl184 sl185 sl186 sl187 sl188 sl189 sl190 sl191 sl192 sl193 sl194 : Value) :
    Code.wp Try.prog (backRest 6) (bodyPost Try.prog Try.f5 fun e w' => e = .returned (.bool true) ∧ Mod No w w') ⟨#[sl0, sl1, sl2, sl3, .bool book, sl5, sl6, sl7, sl8, sl9, sl10, .pointer (some ⟨kb, 0, none⟩), sl12, sl13, sl14, .pointer (some ⟨cb, 0, none⟩), sl16, sl17, sl18, sl19, sl20, sl21, sl22, sl23, sl24, sl25, sl26, sl27, sl28, sl29, sl30, sl31, sl32, sl33, sl34, sl35, sl36, sl37, sl38, sl39, sl40, sl41, sl42, sl43, sl44, sl45, sl46, sl47, sl48, sl49, sl50, sl51, sl52, sl53, sl54, sl55, sl56, sl57, sl58, sl59, sl60, sl61, sl62, sl63, sl64, sl65, sl66, sl67, sl68, sl69, sl70, sl71, sl72, sl73, sl74, sl75, sl76, sl77, sl78, sl79, sl80, sl81, sl82, sl83, sl84, sl85, sl86, sl87, sl88, sl89, sl90, sl91, sl92, sl93, sl94, sl95, sl96, sl97, sl98, sl99, sl100, sl101, sl102, sl103, sl104, sl105, sl106, sl107, sl108, sl109, sl110, sl111, sl112, sl113, sl114, sl115, sl116, sl117, sl118, sl119, sl120, sl121, sl122, sl123, sl124, sl125, sl126, sl127, sl128, sl129, sl130, sl131, sl132, sl133, sl134, sl135, sl136, sl137, sl138, sl139, sl140, sl141, sl142, sl143, sl144, sl145, sl146, sl147, sl148, sl149, sl150, sl151, sl152, sl153, sl154, sl155, sl156, sl157, sl158, sl159, sl160, sl161, sl162, sl163, sl164, sl165, sl166, sl167, sl168, sl169, sl170, sl171, sl172, sl173, sl174, sl175, sl176, sl177, sl178, sl179, sl180, sl181, sl182, sl183, sl184, sl185, sl186, sl187, sl188, sl189, sl190, sl191, sl192, sl193, sl194], []⟩ w6 := by
  conv => arg 2; whnf
  have b6 := (unhide B6).cell
  have f6 := (unhide B6).frozen
  have z6 := (unhide B6).lt
  go_upto_if 70 with fail
  go_cut [] (fun wx => Hid (Has wx cb #[.int .i64 (if book then 3 else 2), .int .i64 1, .int .i64 R, .int .i64 C, .int .i64 0, .int .i64 0, .int .i64 P, .int .i64 k, .int .i64 (now + 5), .int .i64 0, .int .i64 0, .int .i64 0, .int .i64 0, .int .i64 0, .int .i64 0, .int .i64 0] 37) ∧ Hid (Mod No w wx) ∧ Hid (KeepM wx ow kb now fl 2))
  case first =>
    cases book with
    | true =>
      go_wp2_with fail
      go_meet
      exact ⟨(unhide B6).set 0 _, (unhide M6).setCell (.inr ZW) _, (unhide K6).mod ((Mod.refl (fun j => j = cb) w6).setCell (.inl rfl) _) (fun j hj e => hj (by rw [e]; exact OWB))⟩
    | false =>
      go_wp2_with fail
      go_meet
      exact ⟨B6, M6, K6⟩
  case rest =>
    obtain ⟨B7, M7, K7⟩ := hcut
    apply_assumption
    exact back_q7 p w _ kb cb k ow now R C P _ fl l book hk4 hn hP rfl B7 M7 K7 OWB OWO F1 ZW _ _ _ _ _ _ _ _ _ _ _ _ _ _ _ _ _ _ _ _ _ _ _ _ _ _ _ _ _ _ _ _ _ _ _ _ _ _ _ _ _ _ _ _ _ _ _ _ _ _ _ _ _ _ _ _ _ _ _ _ _ _ _ _ _ _ _ _ _ _ _ _ _ _ _ _ _ _ _ _ _ _ _ _ _ _ _ _ _ _ _ _ _ _ _ _ _ _ _ _ _ _ _ _ _ _ _ _ _ _ _ _ _ _ _ _ _ _ _ _ _ _ _ _ _ _ _ _ _ _ _ _ _ _ _ _ _ _ _ _ _ _ _ _ _ _ _ _ _ _ _ _ _ _ _ _ _ _ _ _ _ _ _ _ _ _ _ _ _ _ _ _ _ _ _ _ _ _ _ _ _ _ _ _ _ _ _ _ _ _ _ _
theorem back_q4 (p : Pla) (w wr : World) (kb bb : Nat) (ow : Nat → Nat) (now r c cls pty : Int) (fl : Nat → Option (Pla × List Sea)) (l : List Sea) (book : Bool) (hr1 : (-9223372036854775808 ≤ r ∧ r ≤ 9223372036854775807)) (hc1 : (-9223372036854775808 ≤ c ∧ c ≤ 9223372036854775807)) (hcls : (-9223372036854775808 ≤ cls ∧ cls ≤ 9223372036854775807)) (hpty : (-9223372036854775808 ≤ pty ∧ pty ≤ 9223372036854775807)) (hn : 0 ≤ now ∧ now ≤ 109951162777600)
    (HB : Hid (Has wr bb #[.int .i64 r, .int .i64 c] 32)) (M4 : Hid (Mod No w wr)) (K4 : Hid (KeepM wr ow kb now fl 2)) (OWO : Hid (∀ j, j < w.heap.size → ow j = 0)) (F1 : Hid (fl 1 = some (p, l))) (sl0 sl1 sl5 sl7 sl8 sl9 sl10 sl13 sl14 sl15 sl16 sl17 sl18 sl19 sl20 sl21 sl22 sl23 sl24 sl25 sl26 sl27 sl28 sl29 sl30 sl31 sl32 sl33 sl34 sl35 sl36 sl37 sl38 sl39 sl40 sl41 sl42 sl43 sl44 sl45 sl46 sl47 sl48 sl49 sl50 sl51 sl52 sl53 sl54 sl55 sl56 sl57 sl58 sl59 sl60 sl61 sl62 sl63 sl64 sl65 sl66 sl67 sl68 sl69 sl70 sl71 sl72 sl73 sl74 sl75 sl76 sl77 sl78 sl79 sl80 sl81 sl82 sl83 sl84 sl85 sl86 sl87 sl88 sl89 sl90 sl91 sl92 sl93 sl94 sl95 sl96 sl97 sl98 sl99 sl100 sl101 sl102 sl103 sl104 sl105 sl106 sl107 sl108 sl109 sl110 sl111 sl112 sl113 sl114 sl115 sl116 sl117 sl118 sl119 sl120 sl121 sl122 sl123 sl124 sl125 sl126 sl127 sl128 sl129 sl130 sl131 sl132 sl133 sl134 sl135 sl136 sl137 sl138 sl139 sl140 sl141 sl142 sl143 sl144 sl145 sl146 sl147 sl148 sl149 sl150 sl151 sl152 sl153 sl154 sl155 sl156 sl157 sl158 sl159 sl160 sl161 sl162 sl163 sl164 sl165 sl166 sl167 sl168 sl169 sl170 sl171 sl172 sl173 sl174 sl175 sl176 sl177 sl178 sl179 sl180 sl181 sl182 sl183 sl184 sl185 sl186 sl187 sl188 sl189 sl190 sl191 sl192 sl193 sl194 : Value) :
    Code.wp Try.prog (backRest 4) (bodyPost Try.prog Try.f5 fun e w' => e = .returned (.bool true) ∧ Mod No w w') ⟨#[sl0, sl1, .int .i64 cls, .int .i64 pty, .bool book, sl5, .pointer (some ⟨bb, 0, none⟩), sl7, sl8, sl9, sl10, .pointer (some ⟨kb, 0, none⟩), .bool true, sl13, sl14, sl15, sl16, sl17, sl18, sl19, sl20, sl21, sl22, sl23, sl24, sl25, sl26, sl27, sl28, sl29, sl30, sl31, sl32, sl33, sl34, sl35, sl36, sl37, sl38, sl39, sl40, sl41, sl42, sl43, sl44, sl45, sl46, sl47, sl48, sl49, sl50, sl51, sl52, sl53, sl54, sl55, sl56, sl57, sl58, sl59, sl60, sl61, sl62, sl63, sl64, sl65, sl66, sl67, sl68, sl69, sl70, sl71, sl72, sl73, sl74, sl75, sl76, sl77, sl78, sl79, sl80, sl81, sl82, sl83, sl84, sl85, sl86, sl87, sl88, sl89, sl90, sl91, sl92, sl93, sl94, sl95, sl96, sl97, sl98, sl99, sl100, sl101, sl102, sl103, sl104, sl105, sl106, sl107, sl108, sl109, sl110, sl111, sl112, sl113, sl114, sl115, sl116, sl117, sl118, sl119, sl120, sl121, sl122, sl123, sl124, sl125, sl126, sl127, sl128, sl129, sl130, sl131, sl132, sl133, sl134, sl135, sl136, sl137, sl138, sl139, sl140, sl141, sl142, sl143, sl144, sl145, sl146, sl147, sl148, sl149, sl150, sl151, sl152, sl153, sl154, sl155, sl156, sl157, sl158, sl159, sl160, sl161, sl162, sl163, sl164, sl165, sl166, sl167, sl168, sl169, sl170, sl171, sl172, sl173, sl174, sl175, sl176, sl177, sl178, sl179, sl180, sl181, sl182, sl183, sl184, sl185, sl186, sl187, sl188, sl189, sl190, sl191, sl192, sl193, sl194], []⟩ wr := by
  conv => arg 2; whnf
  have g0 : wr.cell? ⟨bb, 0, none⟩ = some (.int .i64 r) := (unhide HB).cell 0
  have g1 : wr.cell? ⟨bb, 1, none⟩ = some (.int .i64 c) := (unhide HB).cell 1
  have HN := hide fun W (hW : Mod No wr W) => (show Calls Try.prog 24 #[.pointer (some ⟨kb, 0, none⟩)] W fun e w' => e = .returned (.int .i64 now) ∧ w' = W by
    obtain ⟨pt, hx⟩ := ((unhide K4).mod hW (fun _ _ x => x)).toH
    exact now_any hx)
  have e1 := pick_small2 r 4 (by omega)
  have e2 := pick_small2 c 3 (by omega)
  have e3 := pick_small2 pty 1000 (by omega)
  have e4 := pick_small2 cls 4 (by omega)
  have e5 := wrap_fit (now + 5) (by omega) (by omega)
  go_upto_region 9 with fail
  go_cut [15] (fun s wx => s = .pointer (some ⟨wr.heap.size, 0, none⟩) ∧ wx = (wr.alloc (.cells #[.int .i64 2, .int .i64 1, .int .i64 (1 + pickN r 4), .int .i64 (1 + pickN c 3), .int .i64 0, .int .i64 0, .int .i64 (1 + pickN pty 1000), .int .i64 (pickN cls 4), .int .i64 (now + 5), .int .i64 0, .int .i64 0, .int .i64 0, .int .i64 0, .int .i64 0, .int .i64 0, .int .i64 0] 37)).drew)
  case first =>
    go_region_held2 (fun w' => w'.cell? ⟨bb, 0, none⟩ = some (.int .i64 r) ∧ w'.cell? ⟨bb, 1, none⟩ = some (.int .i64 c)) (go_keep)
      (first
        | (go_at_call_of 23 (Value.int IntKind.i64 r); refine (pick_any r 4 hr1 (by omega) _).mono ?_; rintro e w1 ⟨rfl, rfl⟩)
        | (go_at_call_of 23 (Value.int IntKind.i64 c); refine (pick_any c 3 hc1 (by omega) _).mono ?_; rintro e w1 ⟨rfl, rfl⟩)
        | (go_at_call_of 23 (Value.int IntKind.i64 cls); refine (pick_any cls 4 hcls (by omega) _).mono ?_; rintro e w1 ⟨rfl, rfl⟩)
        | (go_at_call_of 23 (Value.int IntKind.i64 pty); refine (pick_any pty 1000 hpty (by omega) _).mono ?_; rintro e w1 ⟨rfl, rfl⟩)
        | (go_at_call 24; refine ((unhide HN) _ (by first | exact (Mod.refl _ _).drew | exact ((Mod.refl _ _).alloc _).drew)).mono ?_; rintro e w1 ⟨rfl, rfl⟩))
    all_goals (go_wp2_with fail)
    all_goals go_meet
    all_goals exact ⟨rfl, rfl⟩
  case rest =>
    obtain ⟨rfl, rfl⟩ := hcut
    have x1 := pickN_range r 4 (by omega)
    have x2 := pickN_range c 3 (by omega)
    have x3 := pickN_range pty 1000 (by omega)
    have x4 := pickN_range cls 4 (by omega)
    have B6 := hide (show Has (wr.alloc (.cells #[.int .i64 2, .int .i64 1, .int .i64 (1 + pickN r 4), .int .i64 (1 + pickN c 3), .int .i64 0, .int .i64 0, .int .i64 (1 + pickN pty 1000), .int .i64 (pickN cls 4), .int .i64 (now + 5), .int .i64 0, .int .i64 0, .int .i64 0, .int .i64 0, .int .i64 0, .int .i64 0, .int .i64 0] 37)).drew wr.heap.size #[.int .i64 2, .int .i64 1, .int .i64 (1 + pickN r 4), .int .i64 (1 + pickN c 3), .int .i64 0, .int .i64 0, .int .i64 (1 + pickN pty 1000), .int .i64 (pickN cls 4), .int .i64 (now + 5), .int .i64 0, .int .i64 0, .int .i64 0, .int .i64 0, .int .i64 0, .int .i64 0, .int .i64 0] 37 from (Has.new wr _ _).drew)
    have M6 := hide (show Mod No w (wr.alloc (.cells #[.int .i64 2, .int .i64 1, .int .i64 (1 + pickN r 4), .int .i64 (1 + pickN c 3), .int .i64 0, .int .i64 0, .int .i64 (1 + pickN pty 1000), .int .i64 (pickN cls 4), .int .i64 (now + 5), .int .i64 0, .int .i64 0, .int .i64 0, .int .i64 0, .int .i64 0, .int .i64 0, .int .i64 0] 37)).drew from ((unhide M4).alloc _).drew)
    have K6 := hide (show KeepM (wr.alloc (.cells #[.int .i64 2, .int .i64 1, .int .i64 (1 + pickN r 4), .int .i64 (1 + pickN c 3), .int .i64 0, .int .i64 0, .int .i64 (1 + pickN pty 1000), .int .i64 (pickN cls 4), .int .i64 (now + 5), .int .i64 0, .int .i64 0, .int .i64 0, .int .i64 0, .int .i64 0, .int .i64 0, .int .i64 0] 37)).drew ow kb now fl 2 from (unhide K4).mod (((Mod.refl No wr).alloc _).drew) (fun _ _ x => x))
    generalize (wr.alloc (.cells #[.int .i64 2, .int .i64 1, .int .i64 (1 + pickN r 4), .int .i64 (1 + pickN c 3), .int .i64 0, .int .i64 0, .int .i64 (1 + pickN pty 1000), .int .i64 (pickN cls 4), .int .i64 (now + 5), .int .i64 0, .int .i64 0, .int .i64 0, .int .i64 0, .int .i64 0, .int .i64 0, .int .i64 0] 37)).drew = w6 at *
    have OWB : ow wr.heap.size = 0 := by
      have hx := unhide K4
      by_cases e : ow wr.heap.size = 0
      · exact e
      · have := hx.old _ e; omega
    obtain ⟨k, hk, hk4⟩ : ∃ k : Nat, pickN cls 4 = (k : Int) ∧ k < 4 := ⟨(pickN cls 4).toNat, by omega, by omega⟩
    rw [hk] at B6
    apply_assumption
    exact back_q6 p w _ kb wr.heap.size k ow now (1 + pickN r 4) (1 + pickN c 3) (1 + pickN pty 1000) fl l book hk4 hn (by omega) B6 M6 K6 OWB OWO F1 (unhide M4).size _ _ _ _ _ _ _ _ _ _ _ _ _ _ _ _ _ _ _ _ _ _ _ _ _ _ _ _ _ _ _ _ _ _ _ _ _ _ _ _ _ _ _ _ _ _ _ _ _ _ _ _ _ _ _ _ _ _ _ _ _ _ _ _ _ _ _ _ _ _ _ _ _ _ _ _ _ _ _ _ _ _ _ _ _ _ _ _ _ _ _ _ _ _ _ _ _ _ _ _ _ _ _ _ _ _ _ _ _ _ _ _ _ _ _ _ _ _ _ _ _ _ _ _ _ _ _ _ _ _ _ _ _ _ _ _ _ _ _ _ _ _ _ _ _ _ _ _ _ _ _ _ _ _ _ _ _ _ _ _ _ _ _ _ _ _ _ _ _ _ _ _ _ _ _ _ _ _ _ _ _ _ _ _ _ _ _ _ _ _ _ _
end Go.Proofs.Ythhibagcpjeihaa
/- Whatever script comes in: a seat that is sold and given back leaves all counts as they were. -/
namespace Go.Proofs.Ythhibagcpjeihaa
open Go.RowKit
open M
set_option linter.unusedVariables false
set_option linter.unusedSimpArgs false
set_option maxRecDepth 100000
set_option maxHeartbeats 20000000
attribute [local go_sem] eq40 same4_self
theorem size47 : (Try.prog.info? 41).map (·.size) = some 21 := by kernel_rfl

theorem back_any (r c cls pty : Int) (book : Bool) (a : Option Addr) (n cap : Nat) (hn : n ≤ 1048576) (hr1 : (-9223372036854775808 ≤ r ∧ r ≤ 9223372036854775807)) (hc1 : (-9223372036854775808 ≤ c ∧ c ≤ 9223372036854775807)) (hcls : (-9223372036854775808 ≤ cls ∧ cls ≤ 9223372036854775807)) (hpty : (-9223372036854775808 ≤ pty ∧ pty ≤ 9223372036854775807)) (w : World) (hs : Script w a n) :
    Calls Try.prog 5 #[.slice a n cap, .agg #[.int .i64 r, .int .i64 c], .int .i64 cls, .int .i64 pty, .bool book] w fun e w' => e = .returned (.bool true) ∧ Mod No w w' := by
  have HB := hide (Has.new w #[.int .i64 r, .int .i64 c] 32)
  have M0 := hide ((Mod.refl No w).alloc (.cells #[.int .i64 r, .int .i64 c] 32))
  have HS := hide hs
  clear hs
  go_enter Try.func5, Try.ntmps5
  go_wp2_with fail
  generalize w.alloc (.cells #[.int .i64 r, .int .i64 c] 32) = w0 at *
  refine (new_any _ _).mono ?_
  rintro e w1 ⟨rfl, rfl⟩
  have HG := hide (begun_any w0)
  unfold tape0 at HG
  generalize w0.alloc (.cells (⟨⟨.slice none 0 0, [], 0⟩, ⟨.slice none 0 0, [], 0⟩, ⟨.slice none 0 0, [], 0⟩, ⟨.slice none 0 0, [], 0⟩, 1099511627776, -1⟩ : TTape).cells 103) = w1 at *
  go_wp2_with fail
  refine (unhide HG).mono ?_
  rintro e w2 ⟨kb, rfl, ⟨ow, k2, ho⟩, m2, nx⟩
  clear nx
  have M2 := hide m2
  have K2 := hide k2
  have HO := hide ho
  clear k2 ho m2 HG
  go_wp2_with fail
  refine (first_any _).mono ?_
  rintro e w3 ⟨cs, hcs, rfl, h3, m3⟩
  have I3 := hide (BackI.start (w := w0) (unhide K2) (fun k hk => (unhide HO) k hk) (unhide M2) m3 cs hcs h3)
  generalize w2.heap.size = lb at *
  have HS0 := hide ((unhide HS).mod (unhide M0))
  clear h3 m3 hcs K2 HO M2 HS
  clear w1 w2 ow
  go_upto_block 0 with fail
  go_cut [14] (fun s wx => ∃ i : Nat, i ≤ n ∧ s = .int .i64 i ∧ Hid (BackI w0 wx kb lb i))
  case first =>
    go_wp2_with fail
    go_loopw [14] (fun s wr => ∃ i : Nat, s = .int .i64 i ∧ i ≤ n ∧ Hid (BackI w0 wr kb lb i)) (fun i _ => n - (intOf i).toNat)
    case atStart => exact ⟨0, rfl, by omega, I3⟩
    case round =>
      obtain ⟨i, rfl, hi, I4⟩ := hrel
      clear I3
      by_cases hin : i < n
      · have hini : (i : Int) < (n : Int) := by omega
        have hi0 : (0 : Int) ≤ i := by omega
        have hi1 : IntKind.i64.wrap ((i : Int) + 1) = ((i + 1 : Nat) : Int) := by rw [wrap_id _ (by omega) (by omega)]; rfl
        obtain ⟨b, off, S, rfl, hS, hr, hT⟩ := (unhide HS0).mod (unhide I4).mod i hin
        have HT := hide hT
        have HR := hide hr
        clear hT hr
        go_wp2_with (refine wpList_load_mid rfl 41 _ rfl b (off + i * 21) rfl S.toList _ (unhide HR) Try.underlying41 rfl (by rw [Array.length_toList, hS]; exact size47) ?_)
        refine ((unhide HT) _).mono ?_
        rintro e w4 ⟨cc, rfl, m4⟩
        have HD := hide ((unhide I4).step (by omega) _ m4 cc)
        clear m4 HT HR I4
        go_wp2_with fail
        refine (unhide HD).mono ?_
        rintro e w5 ⟨⟨x, rfl⟩, i5⟩
        have I5 := hide i5
        clear i5 HD
        go_wp2
        exact ⟨⟨i + 1, rfl, by omega, I5⟩, by simp [intOf]; omega⟩
      · have hini : ¬ (i : Int) < (n : Int) := by omega
        go_wp2
        go_meet
        exact ⟨i, hi, rfl, I4⟩
  case rest =>
    obtain ⟨i, hi, rfl, I4⟩ := hcut
    obtain ⟨ow4, now, fl, p, l, q1, q2, q3, q4, q5, q6⟩ := (unhide I4).keep
    apply_assumption
    exact back_q4 p w _ kb w.heap.size ow4 now r c cls pty fl l book hr1 hc1 hcls hpty ⟨q3, by omega⟩ ((unhide I4).mod.has (unhide HB) (fun x => x)) ((unhide M0).trans (unhide I4).mod) (q1.less (by unfold lft; omega)) (fun k hk => q6 k (Nat.lt_of_lt_of_le hk (unhide M0).size)) q2 _ _ _ _ _ _ _ _ _ _ _ _ _ _ _ _ _ _ _ _ _ _ _ _ _ _ _ _ _ _ _ _ _ _ _ _ _ _ _ _ _ _ _ _ _ _ _ _ _ _ _ _ _ _ _ _ _ _ _ _ _ _ _ _ _ _ _ _ _ _ _ _ _ _ _ _ _ _ _ _ _ _ _ _ _ _ _ _ _ _ _ _ _ _ _ _ _ _ _ _ _ _ _ _ _ _ _ _ _ _ _ _ _ _ _ _ _ _ _ _ _ _ _ _ _ _ _ _ _ _ _ _ _ _ _ _ _ _ _ _ _ _ _ _ _ _ _ _ _ _ _ _ _ _ _ _ _ _ _ _ _ _ _ _ _ _ _ _ _ _ _ _ _ _ _ _ _ _ _ _ _ _ _ _ _ _ _ _ _
end Go.Proofs.Ythhibagcpjeihaa
