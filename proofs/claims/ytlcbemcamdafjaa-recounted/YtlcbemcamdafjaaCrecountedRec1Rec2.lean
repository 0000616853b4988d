import Derived.Test.YtlcbemcamdafjaaCrecountedCounted2
import Derived.Test.YtlcbemcamdafjaaCrecountedPaged3
/- Recounted behind each step: what serves. -/
namespace Go.Proofs.Ytlcbemcamdafjaa
open Go.RowKit
open M
set_option linter.unusedVariables false
set_option linter.unusedSimpArgs false
set_option maxRecDepth 100000
set_option maxHeartbeats 2000000

theorem seatErr_le (p : Pla) (l : List Sea) (c : Cmd) (now : Int) : seatErr p l c now ≤ 12 := by
  unfold seatErr saleN ownerN buyer
  repeat' split
  all_goals omega

theorem doK_le (now : Int) (fl : Nat → Option (Pla × List Sea)) (c : Cmd) : (doK now fl c).1 ≤ 12 := by
  unfold doK
  repeat' split
  all_goals first | omega | (simp only; omega) | exact seatErr_le _ _ _ _

theorem PagZ.x {w wr : World} {ow : Nat → Nat} {kb lb i : Nat} {now : Int} {fl : Nat → Option (Pla × List Sea)} {p : Pla} {l : List Sea} (h : PagZ w wr ow kb lb i now fl p l) : PagX w wr kb lb i now fl p l :=
  ⟨⟨ow, h.keep, h.lb0, h.own⟩, h.one, h.fit, h.lim, h.now0, h.now1, h.mod, h.lbn⟩

theorem seatsK_of {fl : Nat → Option (Pla × List Sea)} {m : Nat} (hm : 1 ≤ m ∧ m ≤ 20) {p : Pla} {l : List Sea} (h : fl m = some (p, l)) (r c e s : Int) : seatsK fl (m : Int) r c e s = pageK p l r c e s := by
  unfold seatsK
  rw [if_neg (by omega), show ((m : Nat) : Int).toNat = m by omega, h]

theorem PagX.seatsOf {w W : World} {kb lb i : Nat} {now : Int} {fl : Nat → Option (Pla × List Sea)} {p : Pla} {l : List Sea} (h : PagX w W kb lb i now fl p l) {m : Nat} (hm : 1 ≤ m ∧ m ≤ 20) {q : Pla} {r : List Sea} (hf : fl m = some (q, r)) :
    Calls Try.prog 18 #[.pointer (some ⟨kb, 0, none⟩), .int .i64 (m : Int), .int .i64 30] W fun e w' => SeatsTold W w' e r := by
  obtain ⟨ow, k1, k2, k3⟩ := h.keep
  refine seatsAll_walk (h.fit m (by omega) q r hf).1 kb m 30 (by omega) (fun W' hW r' c e => ?_)
  have := seats_any (k1.mod hW (fun _ _ x => x)) (m : Int) r' c e ((30 : Nat) : Int)
  rw [seatsK_of hm hf] at this
  exact this

theorem PagX.countOf {w W : World} {kb lb i : Nat} {now : Int} {fl : Nat → Option (Pla × List Sea)} {p : Pla} {l : List Sea} (h : PagX w W kb lb i now fl p l) (m : Nat) (hm : 1 ≤ m ∧ m ≤ 20) :
    (fl m = none → Calls Try.prog 17 #[.pointer (some ⟨kb, 0, none⟩), .int .i64 (m : Int)] W fun e w' => e = .returned (.tuple #[.agg zero51, .int .i64 2]) ∧ Mod No W w') ∧
    (∀ q r, fl m = some (q, r) → Calls Try.prog 17 #[.pointer (some ⟨kb, 0, none⟩), .int .i64 (m : Int)] W fun e w' => e = .returned (.tuple #[.agg (totV q r), .int .i64 0]) ∧ Mod No W w') := by
  obtain ⟨ow, k1, k2, k3⟩ := h.keep
  have hc := count_any k1 (m : Int)
  have e1 : countK fl (m : Int) = match fl m with | none => (zero51, 2) | some x => (totV x.1 x.2, 0) := by
    unfold countK
    rw [if_neg (by omega), show ((m : Nat) : Int).toNat = m by omega]
    cases fl m with
    | none => rfl
    | some x => rfl
  refine ⟨fun hf => ?_, fun q r hf => ?_⟩
  · rw [e1, hf] at hc; exact hc
  · rw [e1, hf] at hc; exact hc

theorem PagX.countedOf {w W : World} {kb lb i : Nat} {now : Int} {fl : Nat → Option (Pla × List Sea)} {p : Pla} {l : List Sea} (h : PagX w W kb lb i now fl p l) {m : Nat} (hm : 1 ≤ m ∧ m ≤ 20) {q : Pla} {r : List Sea} (hf : fl m = some (q, r)) :
    Calls Try.prog 19 #[.pointer (some ⟨kb, 0, none⟩), .int .i64 (m : Int), .agg #[.int .i64 (q.lim 0), .int .i64 (q.lim 1), .int .i64 (q.lim 2), .int .i64 (q.lim 3)]] W fun e w' => e = .returned (.bool true) ∧ Mod No W w' := by
  refine counted_walk kb m q r (h.fit m (by omega) q r hf).1 W (fun W' hW => (h.still hW).seatsOf hm hf) (fun W' hW => ((h.still hW).countOf m hm).2 q r hf) (fun W' hW c hc => ?_)
  obtain ⟨ow, k1, k2, k3⟩ := (h.still hW).keep
  have := left_any k1 (m : Int) (c : Int)
  have e1 : leftK fl (m : Int) (c : Int) = (min (M.leftOf q r c) 9, 0) := by
    unfold leftK
    rw [if_neg (by omega), show ((m : Nat) : Int).toNat = m by omega, hf]
    simp only
    rw [if_neg (by omega), show ((c : Nat) : Int).toNat = c by omega]
  rw [e1] at this
  exact this

theorem PagX.overOf {w W : World} {kb lb i : Nat} {now : Int} {fl : Nat → Option (Pla × List Sea)} {p : Pla} {l : List Sea} (h : PagX w W kb lb i now fl p l) {m : Nat} (hm : 1 ≤ m ∧ m ≤ 20) {q : Pla} {r : List Sea} (hf : fl m = some (q, r)) (g cap : Nat) (hr : RowS W g cap r) :
    Calls Try.prog 20 #[.slice (some ⟨g, 0, none⟩) r.length cap, .agg #[.int .i64 (q.lim 0), .int .i64 (q.lim 1), .int .i64 (q.lim 2), .int .i64 (q.lim 3)]] W fun e w' => e = .returned (.bool false) ∧ Mod No W w' := by
  obtain ⟨h1, h2⟩ := h.fit m (by omega) q r hf
  have hl : r.length ≤ 120 := Fli.wf.len_le h1
  refine over_no g cap r _ _ _ _ W hr (by omega) (fun k hk => ?_) (rows_up h1)
  have := h2 k hk
  have hk4 : k = 0 ∨ k = 1 ∨ k = 2 ∨ k = 3 := by omega
  rcases hk4 with rfl | rfl | rfl | rfl <;> exact this
end Go.Proofs.Ytlcbemcamdafjaa
/- Recounted: the walk. -/
namespace Go.Proofs.Ytlcbemcamdafjaa
open Go.RowKit
open M
set_option linter.unusedVariables false
set_option linter.unusedSimpArgs false
set_option maxRecDepth 100000
set_option maxHeartbeats 20000000

theorem recounted_any (a : Option Addr) (n cap : Nat) (hn : n ≤ 1099511627776) (w : World) (hs : Script w a n) :
    Calls Try.prog 4 #[.slice a n cap] w fun e w' => e = .returned (.bool true) ∧ Mod No w w' := by
  have HS := hide hs
  clear hs
  go_enter Try.func4, Try.ntmps4
  go_wp2_with fail
  refine (new_any _ _).mono ?_
  rintro e w1 ⟨rfl, rfl⟩
  have HG := hide (begun_any w.heap.size _ _ (Has.new w (⟨⟨.slice none 0 0, [], 0⟩, ⟨.slice none 0 0, [], 0⟩, ⟨.slice none 0 0, [], 0⟩, ⟨.slice none 0 0, [], 0⟩, 1099511627776, -1⟩ : TTape).cells 96) rfl)
  have M1 := hide ((Mod.refl No w).alloc (.cells (⟨⟨.slice none 0 0, [], 0⟩, ⟨.slice none 0 0, [], 0⟩, ⟨.slice none 0 0, [], 0⟩, ⟨.slice none 0 0, [], 0⟩, 1099511627776, -1⟩ : TTape).cells 96))
  have z1 : w.heap.size ≤ (w.alloc (.cells (⟨⟨.slice none 0 0, [], 0⟩, ⟨.slice none 0 0, [], 0⟩, ⟨.slice none 0 0, [], 0⟩, ⟨.slice none 0 0, [], 0⟩, 1099511627776, -1⟩ : TTape).cells 96)).heap.size := by simp
  generalize w.alloc (.cells (⟨⟨.slice none 0 0, [], 0⟩, ⟨.slice none 0 0, [], 0⟩, ⟨.slice none 0 0, [], 0⟩, ⟨.slice none 0 0, [], 0⟩, 1099511627776, -1⟩ : TTape).cells 96) = w1 at *
  go_wp2_with fail
  refine (unhide HG).mono ?_
  rintro e w2 ⟨rfl, ⟨ow, k2, ho⟩, m2⟩
  have M2 := hide ((unhide M1).trans m2)
  have K2 := hide k2
  have HO := hide ho
  clear k2 ho m2 HG M1
  go_wp2_with fail
  refine (firstL_any _).mono ?_
  rintro e w3 ⟨cs, hcs, hL, rfl, h3, m3⟩
  have I3 := hide (PagX.start (w := w) (unhide K2) (fun k hk => (unhide HO) k (by omega)) (unhide M2) m3 cs hcs hL h3)
  generalize w2.heap.size = lb at *
  generalize w1.heap.size = kb at *
  clear h3 m3 hcs K2 HO M2 z1 hL cs
  clear w1 w2 ow
  go_wp2_with fail
  go_loopw [4, 6] (fun s4 s wr => s4 = .bool true ∧ ∃ (i : Nat) (now : Int) (fl : Nat → Option (Pla × List Sea)) (p : Pla) (l : List Sea), s = .int .i64 i ∧ i ≤ n ∧ Hid (PagX w wr kb lb i now fl p l)) (fun _ i _ => n - (intOf i).toNat)
  case atStart => exact ⟨rfl, 0, _, _, _, _, rfl, by omega, I3⟩
  case round =>
    obtain ⟨rfl, i, now, fl, p, l, rfl, hi, I4⟩ := hrel
    clear I3
    by_cases hin : i < n
    · have hini : (i : Int) < (n : Int) := by omega
      have hi0 : (0 : Int) ≤ i := by omega
      have hi1 : IntKind.i64.wrap ((i : Int) + 1) = ((i + 1 : Nat) : Int) := by rw [wrap_id _ (by omega) (by omega)]; rfl
      obtain ⟨b, off, S, rfl, hS, hr, hT⟩ := (unhide HS).mod (unhide I4).mod i hin
      have HT := hide hT
      have HR := hide hr
      clear hT hr
      go_wp2_with (refine wpList_load_mid rfl 41 _ rfl b (off + i * 21) rfl S.toList _ (unhide HR) Try.underlying41 rfl (by rw [Array.length_toList, hS]; exact size47p) ?_)
      refine ((unhide HT) _).mono ?_
      rintro e w4 ⟨cc, rfl, m4⟩
      obtain ⟨ow, hz, hold⟩ := ((unhide I4).still m4).z
      have Z4 := hide (hz.still ((Mod.refl No w4).alloc (.cells (cmdCells cc) 37)))
      have OB := hide (hold w4.heap.size (Nat.le_refl _))
      have B4 := hide (Has.new w4 (cmdCells cc) 37)
      have HCO := hide (doK_le now fl cc)
      have HD := hide ((unhide Z4).step (by omega) cc)
      clear hz hold m4 HT HR I4 Z4
      generalize doK now fl cc = D at *
      obtain ⟨x1, now1, fl1⟩ := D
      simp only at HD HCO
      unfold cmdCells at *
      go_wp2_with fail
      generalize hW5 : w4.alloc _ = w5 at *
      refine (unhide HD).mono ?_
      rintro e w6 ⟨rfl, ow', p', l', z6, o6, m6⟩
      have b6h := m6.has (unhide B4) (fun h => h.elim (fun x => x (unhide OB).1) (fun x => (unhide OB).2 x))
      have b6 := b6h.cell
      have l6 := b6h.lt
      have X6 := hide z6.x
      have n15 : (x1 == 15) = false := by simp; have := unhide HCO; omega
      have n16 : (x1 == 16) = false := by simp; have := unhide HCO; omega
      have n17 : (x1 == 17) = false := by simp; have := unhide HCO; omega
      clear z6 o6 m6 b6h HD B4 OB
      clear hW5
      by_cases f1 : cc.flight < 1
      · have X7 := unhide X6
        cases hfm : fl1 1 with
        | none =>
          have HC := hide ((X7.countOf 1 (by omega)).1 hfm)
          clear X7
          unfold zero51 at *
          go_wp2_with fail
          refine (unhide HC).mono ?_
          rintro e w7 ⟨rfl, m7⟩
          have X8 := hide ((unhide X6).still (m7.alloc (.cells #[.int .i64 0, .int .i64 0, .int .i64 0, .int .i64 0, .int .i64 0, .int .i64 0, .int .i64 0, .int .i64 0, .int .i64 0, .int .i64 0, .int .i64 0, .int .i64 0] 45)))
          clear m7 HC X6
          go_wp2
          exact ⟨⟨rfl, i + 1, _, _, p', l', rfl, by omega, X8⟩, by simp [intOf]; omega⟩
        | some y =>
          obtain ⟨q, r⟩ := y
          have HC := hide ((X7.countOf 1 (by omega)).2 q r hfm)
          have HFM := hide hfm
          clear X7
          unfold totV at *
          go_wp2_with fail
          refine (unhide HC).mono ?_
          rintro e w7 ⟨rfl, m7⟩
          have X8 := hide fun o => (unhide X6).still (m7.alloc o)
          clear m7 HC X6
          go_wp2_with fail
          refine (((unhide X8) _).seatsOf (m := 1) (by omega) (unhide HFM)).mono ?_
          rintro e w9 ⟨⟨a9, c9, rfl, ho9, hn9⟩, m9⟩
          have X9 := hide (((unhide X8) _).still m9)
          obtain ⟨g9, rfl, hR9⟩ := rowS_told ho9 (one_seat (((unhide X9).fit 1 (by omega) q r (unhide HFM)).1))
          obtain ⟨cs, s1, s2, s3⟩ := (unhide X9).lim
          have gl := s3 1 (by omega) q r (unhide HFM)
          have k0 := s2.cell (1 * 4 + 0)
          have k1 := s2.cell (1 * 4 + 1)
          have k2 := s2.cell (1 * 4 + 2)
          have k3 := s2.cell (1 * 4 + 3)
          rw [gl 0 (by omega)] at k0
          rw [gl 1 (by omega)] at k1
          rw [gl 2 (by omega)] at k2
          rw [gl 3 (by omega)] at k3
          simp only [Nat.add_zero] at k0
          have kl := s2.lt
          have R9 := hide hR9
          have HCT := hide ((unhide X9).countedOf (m := 1) (by omega) (unhide HFM))
          clear ho9 hn9 m9 hR9 s1 s2 s3 gl X8
          go_wp2_with fail
          refine (unhide HCT).mono ?_
          rintro e w10 ⟨rfl, m10⟩
          have X10 := hide ((unhide X9).still m10)
          have HOV := hide ((unhide X10).overOf (m := 1) (by omega) (unhide HFM) g9 c9 ((unhide R9).mod m10 (fun x => x)))
          obtain ⟨cs, s1, s2, s3⟩ := (unhide X10).lim
          have gl := s3 1 (by omega) q r (unhide HFM)
          have k0 := s2.cell (1 * 4 + 0)
          have k1 := s2.cell (1 * 4 + 1)
          have k2 := s2.cell (1 * 4 + 2)
          have k3 := s2.cell (1 * 4 + 3)
          rw [gl 0 (by omega)] at k0
          rw [gl 1 (by omega)] at k1
          rw [gl 2 (by omega)] at k2
          rw [gl 3 (by omega)] at k3
          simp only [Nat.add_zero] at k0
          have kl := s2.lt
          clear m10 s1 s2 s3 gl X9 R9 HCT
          go_wp2_with fail
          refine (unhide HOV).mono ?_
          rintro e w11 ⟨rfl, m11⟩
          have X11 := hide ((unhide X10).still m11)
          clear m11 X10 HOV k0 k1 k2 k3
          go_wp2
          exact ⟨⟨rfl, i + 1, _, _, p', l', rfl, by omega, X11⟩, by simp [intOf]; omega⟩
      by_cases f2 : cc.flight > 20
      · have X7 := unhide X6
        cases hfm : fl1 1 with
        | none =>
          have HC := hide ((X7.countOf 1 (by omega)).1 hfm)
          clear X7
          unfold zero51 at *
          go_wp2_with fail
          refine (unhide HC).mono ?_
          rintro e w7 ⟨rfl, m7⟩
          have X8 := hide ((unhide X6).still (m7.alloc (.cells #[.int .i64 0, .int .i64 0, .int .i64 0, .int .i64 0, .int .i64 0, .int .i64 0, .int .i64 0, .int .i64 0, .int .i64 0, .int .i64 0, .int .i64 0, .int .i64 0] 45)))
          clear m7 HC X6
          go_wp2
          exact ⟨⟨rfl, i + 1, _, _, p', l', rfl, by omega, X8⟩, by simp [intOf]; omega⟩
        | some y =>
          obtain ⟨q, r⟩ := y
          have HC := hide ((X7.countOf 1 (by omega)).2 q r hfm)
          have HFM := hide hfm
          clear X7
          unfold totV at *
          go_wp2_with fail
          refine (unhide HC).mono ?_
          rintro e w7 ⟨rfl, m7⟩
          have X8 := hide fun o => (unhide X6).still (m7.alloc o)
          clear m7 HC X6
          go_wp2_with fail
          refine (((unhide X8) _).seatsOf (m := 1) (by omega) (unhide HFM)).mono ?_
          rintro e w9 ⟨⟨a9, c9, rfl, ho9, hn9⟩, m9⟩
          have X9 := hide (((unhide X8) _).still m9)
          obtain ⟨g9, rfl, hR9⟩ := rowS_told ho9 (one_seat (((unhide X9).fit 1 (by omega) q r (unhide HFM)).1))
          obtain ⟨cs, s1, s2, s3⟩ := (unhide X9).lim
          have gl := s3 1 (by omega) q r (unhide HFM)
          have k0 := s2.cell (1 * 4 + 0)
          have k1 := s2.cell (1 * 4 + 1)
          have k2 := s2.cell (1 * 4 + 2)
          have k3 := s2.cell (1 * 4 + 3)
          rw [gl 0 (by omega)] at k0
          rw [gl 1 (by omega)] at k1
          rw [gl 2 (by omega)] at k2
          rw [gl 3 (by omega)] at k3
          simp only [Nat.add_zero] at k0
          have kl := s2.lt
          have R9 := hide hR9
          have HCT := hide ((unhide X9).countedOf (m := 1) (by omega) (unhide HFM))
          clear ho9 hn9 m9 hR9 s1 s2 s3 gl X8
          go_wp2_with fail
          refine (unhide HCT).mono ?_
          rintro e w10 ⟨rfl, m10⟩
          have X10 := hide ((unhide X9).still m10)
          have HOV := hide ((unhide X10).overOf (m := 1) (by omega) (unhide HFM) g9 c9 ((unhide R9).mod m10 (fun x => x)))
          obtain ⟨cs, s1, s2, s3⟩ := (unhide X10).lim
          have gl := s3 1 (by omega) q r (unhide HFM)
          have k0 := s2.cell (1 * 4 + 0)
          have k1 := s2.cell (1 * 4 + 1)
          have k2 := s2.cell (1 * 4 + 2)
          have k3 := s2.cell (1 * 4 + 3)
          rw [gl 0 (by omega)] at k0
          rw [gl 1 (by omega)] at k1
          rw [gl 2 (by omega)] at k2
          rw [gl 3 (by omega)] at k3
          simp only [Nat.add_zero] at k0
          have kl := s2.lt
          clear m10 s1 s2 s3 gl X9 R9 HCT
          go_wp2_with fail
          refine (unhide HOV).mono ?_
          rintro e w11 ⟨rfl, m11⟩
          have X11 := hide ((unhide X10).still m11)
          clear m11 X10 HOV k0 k1 k2 k3
          go_wp2
          exact ⟨⟨rfl, i + 1, _, _, p', l', rfl, by omega, X11⟩, by simp [intOf]; omega⟩
      obtain ⟨m, hm⟩ : ∃ m : Nat, cc.flight = (m : Int) := ⟨cc.flight.toNat, by omega⟩
      rw [hm] at f1 f2 b6
      have m21 : (m : Int) < 21 := by omega
      have m0 : (0 : Int) ≤ (m : Int) := by omega
      have X7 := unhide X6
      cases hfm : fl1 m with
      | none =>
        have HC := hide ((X7.countOf m (by omega)).1 hfm)
        clear X7
        unfold zero51 at *
        go_wp2_with fail
        refine (unhide HC).mono ?_
        rintro e w7 ⟨rfl, m7⟩
        have X8 := hide ((unhide X6).still (m7.alloc (.cells #[.int .i64 0, .int .i64 0, .int .i64 0, .int .i64 0, .int .i64 0, .int .i64 0, .int .i64 0, .int .i64 0, .int .i64 0, .int .i64 0, .int .i64 0, .int .i64 0] 45)))
        clear m7 HC X6
        go_wp2
        exact ⟨⟨rfl, i + 1, _, _, p', l', rfl, by omega, X8⟩, by simp [intOf]; omega⟩
      | some y =>
        obtain ⟨q, r⟩ := y
        have HC := hide ((X7.countOf m (by omega)).2 q r hfm)
        have HFM := hide hfm
        clear X7
        unfold totV at *
        go_wp2_with fail
        refine (unhide HC).mono ?_
        rintro e w7 ⟨rfl, m7⟩
        have X8 := hide fun o => (unhide X6).still (m7.alloc o)
        clear m7 HC X6
        go_wp2_with fail
        refine (((unhide X8) _).seatsOf (m := m) (by omega) (unhide HFM)).mono ?_
        rintro e w9 ⟨⟨a9, c9, rfl, ho9, hn9⟩, m9⟩
        have X9 := hide (((unhide X8) _).still m9)
        obtain ⟨g9, rfl, hR9⟩ := rowS_told ho9 (one_seat (((unhide X9).fit m (by omega) q r (unhide HFM)).1))
        obtain ⟨cs, s1, s2, s3⟩ := (unhide X9).lim
        have gl := s3 m (by omega) q r (unhide HFM)
        have k0 := s2.cell (m * 4 + 0)
        have k1 := s2.cell (m * 4 + 1)
        have k2 := s2.cell (m * 4 + 2)
        have k3 := s2.cell (m * 4 + 3)
        rw [gl 0 (by omega)] at k0
        rw [gl 1 (by omega)] at k1
        rw [gl 2 (by omega)] at k2
        rw [gl 3 (by omega)] at k3
        simp only [Nat.add_zero] at k0
        have kl := s2.lt
        have R9 := hide hR9
        have HCT := hide ((unhide X9).countedOf (m := m) (by omega) (unhide HFM))
        clear ho9 hn9 m9 hR9 s1 s2 s3 gl X8
        go_wp2_with fail
        refine (unhide HCT).mono ?_
        rintro e w10 ⟨rfl, m10⟩
        have X10 := hide ((unhide X9).still m10)
        have HOV := hide ((unhide X10).overOf (m := m) (by omega) (unhide HFM) g9 c9 ((unhide R9).mod m10 (fun x => x)))
        obtain ⟨cs, s1, s2, s3⟩ := (unhide X10).lim
        have gl := s3 m (by omega) q r (unhide HFM)
        have k0 := s2.cell (m * 4 + 0)
        have k1 := s2.cell (m * 4 + 1)
        have k2 := s2.cell (m * 4 + 2)
        have k3 := s2.cell (m * 4 + 3)
        rw [gl 0 (by omega)] at k0
        rw [gl 1 (by omega)] at k1
        rw [gl 2 (by omega)] at k2
        rw [gl 3 (by omega)] at k3
        simp only [Nat.add_zero] at k0
        have kl := s2.lt
        clear m10 s1 s2 s3 gl X9 R9 HCT
        go_wp2_with fail
        refine (unhide HOV).mono ?_
        rintro e w11 ⟨rfl, m11⟩
        have X11 := hide ((unhide X10).still m11)
        clear m11 X10 HOV k0 k1 k2 k3
        go_wp2
        exact ⟨⟨rfl, i + 1, _, _, p', l', rfl, by omega, X11⟩, by simp [intOf]; omega⟩
    · have hini : ¬ (i : Int) < (n : Int) := by omega
      have MF := hide (unhide I4).mod
      clear I4
      go_wp2
      go_ret
      exact ⟨rfl, unhide MF⟩
end Go.Proofs.Ytlcbemcamdafjaa
