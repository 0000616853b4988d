import Derived.Test.YtgemhmhlcaojcaaBack5
import Derived.Deep.CutBlock
/- Whatever script comes in: a seat that is sold and given back leaves all counts as they were. -/
namespace Go.Proofs.Ytgemhmhlcaojcaa
open Go.RowKit
open M
set_option linter.unusedVariables false
set_option linter.unusedSimpArgs false
set_option maxRecDepth 100000
set_option maxHeartbeats 20000000
attribute [local go_sem] eq40 same4_self
theorem size47 : (Try.prog.info? 41).map (·.size) = some 21 := by kernel_rfl

theorem back_any (r c cls pty : Int) (book : Bool) (a : Option Addr) (n cap : Nat) (hn : n ≤ 1099511627776) (hr1 : (-9223372036854775808 ≤ r ∧ r ≤ 9223372036854775807)) (hc1 : (-9223372036854775808 ≤ c ∧ c ≤ 9223372036854775807)) (hcls : (-9223372036854775808 ≤ cls ∧ cls ≤ 9223372036854775807)) (hpty : (-9223372036854775808 ≤ pty ∧ pty ≤ 9223372036854775807)) (w : World) (hs : Script w a n) :
    Calls Try.prog 5 #[.slice a n cap, .agg #[.int .i64 r, .int .i64 c], .int .i64 cls, .int .i64 pty, .bool book] w fun e w' => e = .returned (.bool true) ∧ Mod No w w' := by
  have HB := hide (Has.new w #[.int .i64 r, .int .i64 c] 32)
  have M0 := hide ((Mod.refl No w).alloc (.cells #[.int .i64 r, .int .i64 c] 32))
  have HS := hide hs
  clear hs
  go_enter Try.func5, Try.ntmps5
  go_wp2_with fail
  generalize w.alloc (.cells #[.int .i64 r, .int .i64 c] 32) = w0 at *
  refine (new_any _ _).mono ?_
  rintro e w1 ⟨rfl, rfl⟩
  have HG := hide (begun_any w0.heap.size _ _ (Has.new w0 (⟨⟨.slice none 0 0, [], 0⟩, ⟨.slice none 0 0, [], 0⟩, ⟨.slice none 0 0, [], 0⟩, ⟨.slice none 0 0, [], 0⟩, 1099511627776, -1⟩ : TTape).cells 84) rfl)
  have M1 := hide ((Mod.refl No w0).alloc (.cells (⟨⟨.slice none 0 0, [], 0⟩, ⟨.slice none 0 0, [], 0⟩, ⟨.slice none 0 0, [], 0⟩, ⟨.slice none 0 0, [], 0⟩, 1099511627776, -1⟩ : TTape).cells 84))
  have z1 : w0.heap.size ≤ (w0.alloc (.cells (⟨⟨.slice none 0 0, [], 0⟩, ⟨.slice none 0 0, [], 0⟩, ⟨.slice none 0 0, [], 0⟩, ⟨.slice none 0 0, [], 0⟩, 1099511627776, -1⟩ : TTape).cells 84)).heap.size := by simp
  generalize w0.alloc (.cells (⟨⟨.slice none 0 0, [], 0⟩, ⟨.slice none 0 0, [], 0⟩, ⟨.slice none 0 0, [], 0⟩, ⟨.slice none 0 0, [], 0⟩, 1099511627776, -1⟩ : TTape).cells 84) = w1 at *
  go_wp2_with fail
  refine (unhide HG).mono ?_
  rintro e w2 ⟨rfl, ⟨ow, k2, ho⟩, m2⟩
  have M2 := hide ((unhide M1).trans m2)
  have K2 := hide k2
  have HO := hide ho
  clear k2 ho m2 HG M1
  go_wp2_with fail
  refine (first_any _).mono ?_
  rintro e w3 ⟨cs, hcs, rfl, h3, m3⟩
  have I3 := hide (BackI.start (w := w0) (unhide K2) (fun k hk => (unhide HO) k (by omega)) (unhide M2) m3 cs hcs h3)
  generalize w2.heap.size = lb at *
  generalize w1.heap.size = kb at *
  have HS0 := hide ((unhide HS).mod (unhide M0))
  clear h3 m3 hcs K2 HO M2 z1 HS
  clear w1 w2 ow
  go_upto_block 0 with fail
  go_cut [14] (fun s wx => ∃ i : Nat, i ≤ n ∧ s = .int .i64 i ∧ Hid (BackI w0 wx kb lb i))
  case first =>
    go_wp2_with fail
    go_loopw [14] (fun s wr => ∃ i : Nat, s = .int .i64 i ∧ i ≤ n ∧ Hid (BackI w0 wr kb lb i)) (fun i _ => n - (intOf i).toNat)
    case atStart => exact ⟨0, rfl, by omega, I3⟩
    case round =>
      obtain ⟨i, rfl, hi, I4⟩ := hrel
      clear I3
      by_cases hin : i < n
      · have hini : (i : Int) < (n : Int) := by omega
        have hi0 : (0 : Int) ≤ i := by omega
        have hi1 : IntKind.i64.wrap ((i : Int) + 1) = ((i + 1 : Nat) : Int) := by rw [wrap_id _ (by omega) (by omega)]; rfl
        obtain ⟨b, off, S, rfl, hS, hr, hT⟩ := (unhide HS0).mod (unhide I4).mod i hin
        have HT := hide hT
        have HR := hide hr
        clear hT hr
        go_wp2_with (refine wpList_load_mid rfl 41 _ rfl b (off + i * 21) rfl S.toList _ (unhide HR) Try.underlying41 rfl (by rw [Array.length_toList, hS]; exact size47) ?_)
        refine ((unhide HT) _).mono ?_
        rintro e w4 ⟨cc, rfl, m4⟩
        have HD := hide ((unhide I4).step (by omega) _ m4 cc)
        clear m4 HT HR I4
        go_wp2_with fail
        refine (unhide HD).mono ?_
        rintro e w5 ⟨⟨x, rfl⟩, i5⟩
        have I5 := hide i5
        clear i5 HD
        go_wp2
        exact ⟨⟨i + 1, rfl, by omega, I5⟩, by simp [intOf]; omega⟩
      · have hini : ¬ (i : Int) < (n : Int) := by omega
        go_wp2
        go_meet
        exact ⟨i, hi, rfl, I4⟩
  case rest =>
    obtain ⟨i, hi, rfl, I4⟩ := hcut
    obtain ⟨ow4, now, fl, p, l, q1, q2, q3, q4, q5, q6⟩ := (unhide I4).keep
    apply_assumption
    exact back_q4 p w _ kb w.heap.size ow4 now r c cls pty fl l book hr1 hc1 hcls hpty ⟨q3, by omega⟩ ((unhide I4).mod.has (unhide HB) (fun x => x)) ((unhide M0).trans (unhide I4).mod) q1 (fun k hk => q6 k (Nat.lt_of_lt_of_le hk (unhide M0).size)) q2 _ _ _ _ _ _ _ _ _ _ _ _ _ _ _ _ _ _ _ _ _ _ _ _ _ _ _ _ _ _ _ _ _ _ _ _ _ _ _ _ _ _ _ _ _ _ _ _ _ _ _ _ _ _ _ _ _ _ _ _ _ _ _ _ _ _ _ _ _ _ _ _ _ _ _ _ _ _ _ _ _ _ _ _ _ _ _ _ _ _ _ _ _ _ _ _ _ _ _ _ _ _ _ _ _ _ _ _ _ _ _ _ _ _ _ _ _ _ _ _ _ _ _ _ _ _ _ _ _ _ _ _ _ _ _ _ _ _ _ _ _ _ _ _ _ _ _ _ _ _ _ _ _ _ _ _ _ _ _ _ _ _ _ _ _ _ _ _ _ _ _ _ _ _ _ _ _ _ _ _ _ _ _ _ _ _ _ _ _
end Go.Proofs.Ytgemhmhlcaojcaa
