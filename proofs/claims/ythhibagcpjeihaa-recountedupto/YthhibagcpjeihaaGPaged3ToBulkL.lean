import Derived.Test.YthhibagcpjeihaaGPaged1ToTame2
import Derived.Test.YthhibagcpjeihaaGTame3ToScript
import Derived.Handy
import Derived.Deep.DeepCutAuto
import Derived.Test.YthhibagcpjeihaaRows
/- Whatever script comes in: pages tell each seat once; an old cursor is refused. -/
namespace Go.Proofs.Ythhibagcpjeihaa
open Go.RowKit
open M
set_option linter.unusedVariables false
set_option linter.unusedSimpArgs false
set_option maxRecDepth 100000
set_option maxHeartbeats 20000000

theorem size47p : (Try.prog.info? 41).map (·.size) = some 21 := by kernel_rfl

theorem PagX.seats {w W : World} {kb lb i : Nat} {now : Int} {fl : Nat → Option (Pla × List Sea)} {p : Pla} {l : List Sea} (h : PagX w W kb lb i now fl p l) (S : Nat) (hS : 1 ≤ S ∧ S ≤ 30) :
    Calls Try.prog 20 #[.pointer (some ⟨kb, 0, none⟩), .int .i64 1, .int .i64 (S : Int)] W fun e w' => SeatsTold W w' e l := by
  obtain ⟨ow, k1, k2, k3⟩ := h.keep
  refine seatsAll_walk (h.fit 1 (by omega) p l h.one).1 kb 1 S hS (fun W' hW r c e => ?_)
  have := seats_any (k1.mod hW (fun _ _ x => x)).toH 1 r c e (S : Int)
  rw [seatsK_one h.one] at this
  exact this

theorem PagX.page {w W : World} {kb lb i : Nat} {now : Int} {fl : Nat → Option (Pla × List Sea)} {p : Pla} {l : List Sea} (h : PagX w W kb lb i now fl p l) (r c e s : Int) :
    Calls Try.prog 27 #[.pointer (some ⟨kb, 0, none⟩), .int .i64 1, .agg #[.int .i64 r, .int .i64 c, .int .i64 e], .int .i64 s] W fun e' w' => Told W w' e' (seatsK fl 1 r c e s) := by
  obtain ⟨ow, k1, k2, k3⟩ := h.keep
  exact seats_any k1.toH 1 r c e s

/-- The same, with whose each block is. -/
structure PagZ (w wr : World) (ow : Nat → Nat) (kb lb : Nat) (i : Nat) (now : Int) (fl : Nat → Option (Pla × List Sea)) (p : Pla) (l : List Sea) : Prop where
  keep : KeepM wr ow kb now fl (lft i)
  lb0 : ow lb = 0
  own : ∀ k, k < w.heap.size → ow k = 0
  one : fl 1 = some (p, l)
  fit : FitK fl
  lim : ∃ cs : Array Value, cs.size = 84 ∧ Has wr lb cs 104 ∧ LimR cs fl
  now0 : 0 ≤ now
  now1 : now ≤ 100 * (i : Int)
  mod : Mod No w wr
  lbn : w.heap.size ≤ lb

theorem PagX.z {w wr : World} {kb lb i : Nat} {now : Int} {fl : Nat → Option (Pla × List Sea)} {p : Pla} {l : List Sea} (h : PagX w wr kb lb i now fl p l) : ∃ ow, PagZ w wr ow kb lb i now fl p l ∧ ∀ k, wr.heap.size ≤ k → ow k = 0 ∧ k ≠ lb := by
  obtain ⟨ow, k1, k2, k3⟩ := h.keep
  have hl : lb < wr.heap.size := by
    obtain ⟨cs, _, s2, _⟩ := h.lim
    exact s2.lt
  refine ⟨ow, ⟨k1, k2, k3, h.one, h.fit, h.lim, h.now0, h.now1, h.mod, h.lbn⟩, fun k hk => ⟨?_, by omega⟩⟩
  by_cases e : ow k = 0
  · exact e
  · have := k1.old _ e; omega

theorem PagZ.still {w wr w2 : World} {ow : Nat → Nat} {kb lb i : Nat} {now : Int} {fl : Nat → Option (Pla × List Sea)} {p : Pla} {l : List Sea} (h : PagZ w wr ow kb lb i now fl p l) (hm : Mod No wr w2) : PagZ w w2 ow kb lb i now fl p l := by
  obtain ⟨cs, s1, s2, s3⟩ := h.lim
  exact ⟨h.keep.mod hm (fun _ _ x => x), h.lb0, h.own, h.one, h.fit, ⟨cs, s1, hm.has s2 (fun x => x), s3⟩, h.now0, h.now1, h.mod.trans hm, h.lbn⟩

theorem PagZ.step {w W : World} {ow : Nat → Nat} {kb lb i : Nat} {now : Int} {fl : Nat → Option (Pla × List Sea)} {p : Pla} {l : List Sea} (h : PagZ w W ow kb lb i now fl p l) (hi : i ≤ 2000000) (c : Cmd) :
    Calls Try.prog 18 #[.pointer (some ⟨kb, 0, none⟩), .agg (cmdCells c), .pointer (some ⟨lb, 0, none⟩)] W fun e w' => e = .returned (.int .i64 (doK now fl c).1) ∧ ∃ ow' p' l', PagZ w w' ow' kb lb (i + 1) (doK now fl c).2.1 (doK now fl c).2.2 p' l' ∧ (∀ k, k < W.heap.size → ow' k = ow k) ∧ Mod (fun k => ow k ≠ 0 ∨ k = lb) W w' := by
  have k1 := h.keep
  have k5 := h.lb0
  have k6 := h.own
  obtain ⟨cs, s1, s2, s3⟩ := h.lim
  have k3 := h.now0
  have k4 := h.now1
  rw [lft_succ (by omega)] at k1
  refine (doesL_any k1 ⟨k3, by omega⟩ c cs s1 s2 k5).mono ?_
  rintro e w' ⟨rfl, ⟨ow', q1, q2⟩, ⟨cs', t1, t2, t3⟩, hm⟩
  obtain ⟨⟨p', l', e1⟩, e2, e3⟩ := doK_keeps (now := now) h.one c
  have sz : w.heap.size ≤ W.heap.size := h.mod.size
  have slb : lb < W.heap.size := s2.lt
  refine ⟨rfl, ow', p', l', ⟨q1, by rw [q2 lb slb]; exact k5, fun k hk => by rw [q2 k (by omega)]; exact k6 k hk, e1, h.fit.on q1, ⟨cs', t1, t2, t3 s3⟩, by omega, by omega, ?_, h.lbn⟩, q2, hm⟩
  refine h.mod.trans' hm (fun j hj hl => ?_)
  rcases hj with hj | hj
  · exact hj (k6 j hl)
  · have := h.lbn
    omega

theorem PagZ.page {w W : World} {ow : Nat → Nat} {kb lb i : Nat} {now : Int} {fl : Nat → Option (Pla × List Sea)} {p : Pla} {l : List Sea} (h : PagZ w W ow kb lb i now fl p l) (r c e s : Int) :
    Calls Try.prog 27 #[.pointer (some ⟨kb, 0, none⟩), .int .i64 1, .agg #[.int .i64 r, .int .i64 c, .int .i64 e], .int .i64 s] W fun e' w' => Told W w' e' (seatsK fl 1 r c e s) := seats_any h.keep.toH 1 r c e s

theorem paged_any (x : Int) (a : Option Addr) (n cap : Nat) (hn : n ≤ 1048576) (hx : (-9223372036854775808 ≤ x ∧ x ≤ 9223372036854775807)) (w : World) (hs : Script w a n) :
    Calls Try.prog 6 #[.slice a n cap, .int .i64 x] w fun e w' => e = .returned (.bool true) ∧ Mod No w w' := by
  have HPK := hide (pick_any x 30 hx (by omega))
  obtain ⟨hp0, hp1⟩ := pickN_range x 30 (by omega)
  have HS := hide hs
  clear hs
  go_enter Try.func6, Try.ntmps6
  go_wp2_with fail
  refine (new_any _ _).mono ?_
  rintro e w1 ⟨rfl, rfl⟩
  have HG := hide (begun_any w)
  unfold tape0 at HG
  generalize w.alloc (.cells (⟨⟨.slice none 0 0, [], 0⟩, ⟨.slice none 0 0, [], 0⟩, ⟨.slice none 0 0, [], 0⟩, ⟨.slice none 0 0, [], 0⟩, 1099511627776, -1⟩ : TTape).cells 103) = w1 at *
  go_wp2_with fail
  refine (unhide HG).mono ?_
  rintro e w2 ⟨kb, rfl, ⟨ow, k2, ho⟩, m2, nx⟩
  clear nx
  have M2 := hide m2
  have K2 := hide k2
  have HO := hide ho
  clear k2 ho m2 HG
  go_wp2_with fail
  refine (firstL_any _).mono ?_
  rintro e w3 ⟨cs, hcs, hL, rfl, h3, m3⟩
  have I3 := hide (PagX.start (w := w) (unhide K2) (fun k hk => (unhide HO) k hk) (unhide M2) m3 cs hcs hL h3)
  generalize w2.heap.size = lb at *
  clear h3 m3 hcs K2 HO M2 hL cs
  clear w1 w2 ow
  go_wp2_with fail
  go_loopw [8] (fun s wr => ∃ (i : Nat) (now : Int) (fl : Nat → Option (Pla × List Sea)) (p : Pla) (l : List Sea), s = .int .i64 i ∧ i ≤ n ∧ Hid (PagX w wr kb lb i now fl p l)) (fun i _ => n - (intOf i).toNat)
  case atStart => exact ⟨0, _, _, _, _, rfl, by omega, I3⟩
  case round =>
    obtain ⟨i, now, fl, p, l, rfl, hi, I4⟩ := hrel
    clear I3
    by_cases hin : i < n
    · have hini : (i : Int) < (n : Int) := by omega
      have hi0 : (0 : Int) ≤ i := by omega
      have hi1 : IntKind.i64.wrap ((i : Int) + 1) = ((i + 1 : Nat) : Int) := by rw [wrap_id _ (by omega) (by omega)]; rfl
      obtain ⟨b, off, S, rfl, hS, hr, hT⟩ := (unhide HS).mod (unhide I4).mod i hin
      have HT := hide hT
      have HR := hide hr
      clear hT hr
      go_wp2_with (refine wpList_load_mid rfl 41 _ rfl b (off + i * 21) rfl S.toList _ (unhide HR) Try.underlying41 rfl (by rw [Array.length_toList, hS]; exact size47p) ?_)
      refine ((unhide HT) _).mono ?_
      rintro e w4 ⟨cc, rfl, m4⟩
      have HD := hide (((unhide I4).still m4).step (by omega) cc)
      clear m4 HT HR I4
      go_wp2_with fail
      refine (unhide HD).mono ?_
      rintro e w5 ⟨rfl, p', l', i5⟩
      have I5 := hide i5
      clear i5 HD
      go_wp2
      exact ⟨⟨i + 1, _, _, p', l', rfl, by omega, I5⟩, by simp [intOf]; omega⟩
    · have hini : ¬ (i : Int) < (n : Int) := by omega
      have HIN := hide (show i ≤ 1048576 from by omega)
      clear hi hin HS
      obtain ⟨q, hq⟩ : ∃ q : Nat, pickN x 30 = (q : Int) := ⟨(pickN x 30).toNat, by omega⟩
      rw [hq] at HPK hp0 hp1
      have hw1 : IntKind.i64.wrap (1 + (q : Int)) = ((q + 1 : Nat) : Int) := by rw [wrap_id _ (by omega) (by omega)]; omega
      have HQ := hide (show 1 ≤ q + 1 ∧ q + 1 ≤ 30 from by omega)
      go_wp2_with fail
      refine (unhide HPK _).mono ?_
      rintro e w4 ⟨rfl, rfl⟩
      obtain ⟨ow, hz, hold⟩ := (unhide I4).z
      have Z4 := hide hz
      have OLD := hide hold
      clear hz hold
      go_wp2_with fail
      refine ((unhide I4).seats (q + 1) (unhide HQ)).mono ?_
      rintro e w4 ⟨⟨a1, c1, rfl, ho1, hn1⟩, m4⟩
      have I5 := hide ((unhide I4).still m4)
      have hwf := (unhide I4).fit 1 (by omega) p l (unhide I4).one
      have hpos := one_seat hwf.1
      obtain ⟨g1, rfl, hR1⟩ := rowS_told ho1 hpos
      have hl120 : l.length ≤ 120 := Fli.wf.len_le hwf.1
      have R1 := hide hR1
      have HWF := hide hwf
      have OG := hide ((unhide OLD) g1 (hn1 g1 rfl))
      have Z5 := hide ((unhide Z4).still m4)
      have NEW5 := hide (fun k hk => (unhide OLD) k (Nat.le_trans m4.size hk))
      clear m4 ho1 hn1 I4 HPK hwf Z4 OLD
      clear hR1
      go_wp2_with fail
      refine ((unhide I5).seats 30 (by omega)).mono ?_
      rintro e w5 ⟨⟨a2, c2, rfl, ho2, hn2⟩, m5⟩
      have I6 := hide m5
      have R1b := hide ((unhide R1).mod m5 (fun x => x))
      have Z6 := hide ((unhide Z5).still m5)
      have NEW6 := hide (fun k hk => (unhide NEW5) k (Nat.le_trans m5.size hk))
      obtain ⟨g2, rfl, hR2⟩ := rowS_told ho2 hpos
      have R2 := hide hR2
      clear m5 ho2 hn2 I5 R1 hR2 Z5 NEW5 I6
      have hlz : ¬ ((l.length : Int) = 0) := by omega
      have hlz2 : ¬ (l.length = 0) := by omega
      have hlz3 : ((l.length : Int) == 0) = false := by simpa using hlz
      go_wp2_with fail
      go_loopw [13] (fun s wr => ∃ j : Nat, s = .int .i64 (j : Int) ∧ j ≤ l.length ∧ Hid (Mod No w5 wr)) (fun s _ => l.length - (intOf s).toNat)
      case atStart => exact ⟨0, rfl, by omega, hide (Mod.refl _ _)⟩
      case round =>
        obtain ⟨j, rfl, hj, MJ⟩ := hrel
        have RA := hide ((unhide R1b).mod (unhide MJ) (fun x => x))
        have RB := hide ((unhide R2).mod (unhide MJ) (fun x => x))
        have Z7 := hide ((unhide Z6).still (unhide MJ))
        have NEW7 := hide (fun k hk => (unhide NEW6) k (Nat.le_trans (unhide MJ).size hk))
        by_cases hjl : j < l.length
        · have hj1 : (j : Int) < (l.length : Int) := by omega
          have hj0 : (0 : Int) ≤ (j : Int) := by omega
          have hwj : IntKind.i64.wrap ((j : Int) + 1) = ((j + 1 : Nat) : Int) := by rw [wrap_id _ (by omega) (by omega)]; rfl
          have a0 := (unhide RA).row j hjl
          have a1 := (unhide RA).col j hjl
          have a2 := (unhide RA).st j hjl
          have a3 := (unhide RA).pa j hjl
          have a4 := (unhide RA).cl j hjl
          have a5 := (unhide RA).un j hjl
          have b0 := (unhide RB).row j hjl
          have b1 := (unhide RB).col j hjl
          have b2 := (unhide RB).st j hjl
          have b3 := (unhide RB).pa j hjl
          have b4 := (unhide RB).cl j hjl
          have b5 := (unhide RB).un j hjl
          have ga := (unhide RA).lt
          have gb := (unhide RB).lt
          generalize l[j].row = s0 at *
          generalize l[j].col = s1 at *
          generalize l[j].st = s2 at *
          generalize l[j].pa = s3 at *
          generalize l[j].cl = s4 at *
          generalize l[j].un = s5 at *
          have HJ := hide hjl
          have MJ2 := hide fun k => (unhide MJ).drewN k
          clear R1b R2 RA RB MJ Z6 Z7 NEW6 NEW7 OG HWF
          go_wp2_with fail
          go_quiet (fail)
          go_wp2
          exact ⟨⟨j + 1, rfl, unhide HJ, hide ((unhide MJ2) _)⟩, by simp [intOf]; have := unhide HJ; omega⟩
        · have hj1 : ¬ (j : Int) < (l.length : Int) := by omega
          obtain ⟨more, hpg⟩ := page_one (unhide HWF).1 hpos
          have HP1 := hide (show Calls Try.prog 27 #[.pointer (some ⟨kb, 0, none⟩), .int .i64 1, .agg #[.int .i64 0, .int .i64 0, .int .i64 0], .int .i64 1] wr fun e' w' => Told wr w' e' ⟨[l[0]], l[0].row, l[0].col, p.ep, more, 0⟩ from by
            have := (unhide Z7).page 0 0 0 1
            rw [seatsK_one (unhide Z7).one, hpg] at this
            exact this)
          have hend := page_end (unhide HWF).1 (unhide Z7).one hpos now
          dsimp only at hend
          have HEND := hide hend
          clear hend
          have HFIT := hide (unhide HWF).2
          have HUP := hide (rows_up (unhide HWF).1)
          generalize hr0 : l[0].row = r0 at *
          generalize hc0 : l[0].col = c0 at *
          clear R1b R2 MJ RB Z6 NEW6 hpg hr0 hc0
          go_wp2_with fail
          refine (unhide HP1).mono ?_
          rintro e w7 ⟨⟨v7, rfl, ho7, hn7⟩, m7⟩
          obtain ⟨a7, c7, rfl⟩ := slice_of_owns ho7
          have Z8 := hide ((unhide Z7).still (m7.alloc (.cells #[.slice a7 1 c7, .int .i64 r0, .int .i64 c0, .int .i64 p.ep, .bool more] 65)))
          have B8 := hide (Has.new w7 #[.slice a7 1 c7, .int .i64 r0, .int .i64 c0, .int .i64 p.ep, .bool more] 65)
          have OB := hide ((unhide NEW7) w7.heap.size m7.size)
          have R8 := hide ((unhide RA).mod (m7.alloc (.cells #[.slice a7 1 c7, .int .i64 r0, .int .i64 c0, .int .i64 p.ep, .bool more] 65)) (fun x => x))
          clear Z7 m7 ho7 hn7 NEW7 HP1 RA
          have HD1 := hide ((unhide Z8).step (by have := unhide HIN; omega) (seatC 6 r0 c0))
          have LB8 := hide (unhide B8).lt
          have LR8 := hide (unhide R8).lt
          generalize doK now fl (seatC 6 r0 c0) = D1 at *
          obtain ⟨x1, now1, fl1⟩ := D1
          simp only at HD1 HEND
          clear Z8
          go_wp2_with fail
          generalize w7.alloc (.cells #[.slice a7 1 c7, .int .i64 r0, .int .i64 c0, .int .i64 p.ep, .bool more] 65) = w8 at *
          generalize w7.heap.size = pb at *
          have b8 := (unhide B8).cell
          have l8 := unhide LB8
          have f8 := (unhide B8).frozen
          refine (unhide HD1).mono ?_
          rintro e w9 ⟨rfl, ow1, p1, l1, z9, o9, m9⟩
          have B9 := hide (m9.has (unhide B8) (fun h => h.elim (fun x => x (unhide OB).1) (fun x => (unhide OB).2 x)))
          have R9 := hide ((unhide R8).mod m9 (fun h => h.elim (fun x => x (unhide OG).1) (fun x => (unhide OG).2 x)))
          have OB9 := hide (show ow1 pb = 0 ∧ pb ≠ lb from ⟨by rw [o9 pb (unhide LB8)]; exact (unhide OB).1, (unhide OB).2⟩)
          have OG9 := hide (show ow1 g1 = 0 ∧ g1 ≠ lb from ⟨by rw [o9 g1 (unhide LR8)]; exact (unhide OG).1, (unhide OG).2⟩)
          have HD2 := hide (z9.step (by have := unhide HIN; omega) (seatC 7 r0 c0))
          generalize doK now1 fl1 (seatC 7 r0 c0) = D2 at *
          obtain ⟨x2, now2, fl2⟩ := D2
          simp only at HD2 HEND
          have b9 := (unhide B9).cell
          have l9 := (unhide B9).lt
          have f9 := (unhide B9).frozen
          clear z9 o9 m9 HD1 B8 R8 OB OG b8 l8 f8 LB8 LR8
          go_wp2_with fail
          refine (unhide HD2).mono ?_
          rintro e w10 ⟨rfl, ow2, p2, l2, z10, o10, m10⟩
          have B10 := hide (m10.has (unhide B9) (fun h => h.elim (fun x => x (unhide OB9).1) (fun x => (unhide OB9).2 x)))
          have R10 := hide ((unhide R9).mod m10 (fun h => h.elim (fun x => x (unhide OG9).1) (fun x => (unhide OG9).2 x)))
          have HP2 := hide (z10.page r0 c0 p.ep 5)
          generalize seatsK fl2 1 r0 c0 p.ep 5 = PR at *
          obtain ⟨qs, qr, qc, qe, qm, qx⟩ := PR
          have Z10 := hide z10
          have b10 := (unhide B10).cell
          have l10 := (unhide B10).lt
          have f10 := (unhide B10).frozen
          clear z10 o10 m10 HD2 B9 R9 OB9 OG9 b9 l9 f9
          go_wp2_with fail
          refine (unhide HP2).mono ?_
          rintro e w11 ⟨⟨v11, rfl, ho11, hn11⟩, m11⟩
          obtain ⟨a11, c11, rfl⟩ := slice_of_owns ho11
          have Z11 := hide ((unhide Z10).still m11)
          have R11 := hide ((unhide R10).mod (m11.alloc (.cells #[.slice a11 qs.length c11, .int .i64 qr, .int .i64 qc, .int .i64 qe, .bool qm] 65)) (fun x => x))
          obtain ⟨hx, p3, l3, h3, hlm⟩ := unhide HEND
          obtain ⟨cs, s1, s2, s3⟩ := (unhide Z11).lim
          have g := s3 1 (by omega) p3 l3 h3
          have e4 := s2.cell 4
          have e5 := s2.cell 5
          have e6 := s2.cell 6
          have e7 := s2.cell 7
          rw [show cs[4]? = some (.int .i64 (p.lim 0)) from by rw [← hlm]; exact g 0 (by omega)] at e4
          rw [show cs[5]? = some (.int .i64 (p.lim 1)) from by rw [← hlm]; exact g 1 (by omega)] at e5
          rw [show cs[6]? = some (.int .i64 (p.lim 2)) from by rw [← hlm]; exact g 2 (by omega)] at e6
          rw [show cs[7]? = some (.int .i64 (p.lim 3)) from by rw [← hlm]; exact g 3 (by omega)] at e7
          have el := s2.lt
          have HOV := hide (over_no g1 c1 l (p.lim 0) (p.lim 1) (p.lim 2) (p.lim 3) _ (unhide R11) (by omega) (fun k hk => by
            have := (unhide HFIT) k hk
            have hk4 : k = 0 ∨ k = 1 ∨ k = 2 ∨ k = 3 := by omega
            rcases hk4 with rfl | rfl | rfl | rfl <;> exact this) (unhide HUP))
          have MZ := hide ((unhide Z11).mod.alloc (.cells #[.slice a11 qs.length c11, .int .i64 qr, .int .i64 qc, .int .i64 qe, .bool qm] 65))
          generalize hL0 : p.lim 0 = L0 at *
          generalize hL1 : p.lim 1 = L1 at *
          generalize hL2 : p.lim 2 = L2 at *
          generalize hL3 : p.lim 3 = L3 at *
          have HX := hide hx
          clear Z10 Z11 R10 R11 m11 ho11 hn11 HP2 HEND h3 hlm s1 s2 s3 g hx b10 l10 f10 B10 hL0 hL1 hL2 hL3 HFIT HUP HWF
          by_cases hx1 : x1 = 0
          · have hq := unhide HX
            rw [if_pos (.inl hx1)] at hq
            subst hq
            subst hx1
            clear HX
            go_wp2_with fail
            refine (unhide HOV).mono ?_
            rintro e w13 ⟨rfl, m13⟩
            have M13 := hide ((unhide MZ).trans m13)
            clear m13 MZ HOV
            go_wp2
            go_ret
            exact ⟨rfl, unhide M13⟩
          have hb1 : (x1 == 0) = false := by simpa using hx1
          by_cases hx2 : x2 = 0
          · have hq := unhide HX
            rw [if_pos (.inr hx2)] at hq
            subst hq
            subst hx2
            clear HX
            go_wp2_with fail
            refine (unhide HOV).mono ?_
            rintro e w13 ⟨rfl, m13⟩
            have M13 := hide ((unhide MZ).trans m13)
            clear m13 MZ HOV
            go_wp2
            go_ret
            exact ⟨rfl, unhide M13⟩
          · have hb2 : (x2 == 0) = false := by simpa using hx2
            have hq := unhide HX
            rw [if_neg (by rintro (h | h); exact hx1 h; exact hx2 h)] at hq
            subst hq
            clear HX
            go_wp2_with fail
            refine (unhide HOV).mono ?_
            rintro e w13 ⟨rfl, m13⟩
            have M13 := hide ((unhide MZ).trans m13)
            clear m13 MZ HOV
            go_wp2
            go_ret
            exact ⟨rfl, unhide M13⟩
end Go.Proofs.Ythhibagcpjeihaa
/- Recounted behind each step: what serves. -/
namespace Go.Proofs.Ythhibagcpjeihaa
open Go.RowKit
open M
set_option linter.unusedVariables false
set_option linter.unusedSimpArgs false
set_option maxRecDepth 100000
set_option maxHeartbeats 2000000

theorem seatErr_le (p : Pla) (l : List Sea) (c : Cmd) (now : Int) : seatErr p l c now ≤ 12 := by
  unfold seatErr saleN ownerN buyer
  repeat' split
  all_goals omega

theorem doK_le (now : Int) (fl : Nat → Option (Pla × List Sea)) (c : Cmd) : (doK now fl c).1 ≤ 12 := by
  unfold doK
  repeat' split
  all_goals first | omega | (simp only; omega) | exact seatErr_le _ _ _ _

theorem PagZ.x {w wr : World} {ow : Nat → Nat} {kb lb i : Nat} {now : Int} {fl : Nat → Option (Pla × List Sea)} {p : Pla} {l : List Sea} (h : PagZ w wr ow kb lb i now fl p l) : PagX w wr kb lb i now fl p l :=
  ⟨⟨ow, h.keep, h.lb0, h.own⟩, h.one, h.fit, h.lim, h.now0, h.now1, h.mod, h.lbn⟩

theorem seatsK_of {fl : Nat → Option (Pla × List Sea)} {m : Nat} (hm : 1 ≤ m ∧ m ≤ 20) {p : Pla} {l : List Sea} (h : fl m = some (p, l)) (r c e s : Int) : seatsK fl (m : Int) r c e s = pageK p l r c e s := by
  unfold seatsK
  rw [if_neg (by omega), show ((m : Nat) : Int).toNat = m by omega, h]

theorem PagX.seatsOf {w W : World} {kb lb i : Nat} {now : Int} {fl : Nat → Option (Pla × List Sea)} {p : Pla} {l : List Sea} (h : PagX w W kb lb i now fl p l) {m : Nat} (hm : 1 ≤ m ∧ m ≤ 20) {q : Pla} {r : List Sea} (hf : fl m = some (q, r)) :
    Calls Try.prog 20 #[.pointer (some ⟨kb, 0, none⟩), .int .i64 (m : Int), .int .i64 30] W fun e w' => SeatsTold W w' e r := by
  obtain ⟨ow, k1, k2, k3⟩ := h.keep
  refine seatsAll_walk (h.fit m (by omega) q r hf).1 kb m 30 (by omega) (fun W' hW r' c e => ?_)
  have := seats_any (k1.mod hW (fun _ _ x => x)).toH (m : Int) r' c e ((30 : Nat) : Int)
  rw [seatsK_of hm hf] at this
  exact this

theorem PagX.countOf {w W : World} {kb lb i : Nat} {now : Int} {fl : Nat → Option (Pla × List Sea)} {p : Pla} {l : List Sea} (h : PagX w W kb lb i now fl p l) (m : Nat) (hm : 1 ≤ m ∧ m ≤ 20) :
    (fl m = none → Calls Try.prog 19 #[.pointer (some ⟨kb, 0, none⟩), .int .i64 (m : Int)] W fun e w' => e = .returned (.tuple #[.agg zero51, .int .i64 2]) ∧ Mod No W w') ∧
    (∀ q r, fl m = some (q, r) → Calls Try.prog 19 #[.pointer (some ⟨kb, 0, none⟩), .int .i64 (m : Int)] W fun e w' => e = .returned (.tuple #[.agg (totV q r), .int .i64 0]) ∧ Mod No W w') := by
  obtain ⟨ow, k1, k2, k3⟩ := h.keep
  have hc := count_any k1.toH (m : Int)
  have e1 : countK fl (m : Int) = match fl m with | none => (zero51, 2) | some x => (totV x.1 x.2, 0) := by
    unfold countK
    rw [if_neg (by omega), show ((m : Nat) : Int).toNat = m by omega]
    cases fl m with
    | none => rfl
    | some x => rfl
  refine ⟨fun hf => ?_, fun q r hf => ?_⟩
  · rw [e1, hf] at hc; exact hc
  · rw [e1, hf] at hc; exact hc

theorem PagX.countedOf {w W : World} {kb lb i : Nat} {now : Int} {fl : Nat → Option (Pla × List Sea)} {p : Pla} {l : List Sea} (h : PagX w W kb lb i now fl p l) {m : Nat} (hm : 1 ≤ m ∧ m ≤ 20) {q : Pla} {r : List Sea} (hf : fl m = some (q, r)) :
    Calls Try.prog 21 #[.pointer (some ⟨kb, 0, none⟩), .int .i64 (m : Int), .agg #[.int .i64 (q.lim 0), .int .i64 (q.lim 1), .int .i64 (q.lim 2), .int .i64 (q.lim 3)]] W fun e w' => e = .returned (.bool true) ∧ Mod No W w' := by
  refine counted_walk kb m q r (h.fit m (by omega) q r hf).1 W (fun W' hW => (h.still hW).seatsOf hm hf) (fun W' hW => ((h.still hW).countOf m hm).2 q r hf) (fun W' hW c hc => ?_)
  obtain ⟨ow, k1, k2, k3⟩ := (h.still hW).keep
  have := left_any k1.toH (m : Int) (c : Int)
  have e1 : leftK fl (m : Int) (c : Int) = (min (M.leftOf q r c) 9, 0) := by
    unfold leftK
    rw [if_neg (by omega), show ((m : Nat) : Int).toNat = m by omega, hf]
    simp only
    rw [if_neg (by omega), show ((c : Nat) : Int).toNat = c by omega]
  rw [e1] at this
  exact this

theorem PagX.overOf {w W : World} {kb lb i : Nat} {now : Int} {fl : Nat → Option (Pla × List Sea)} {p : Pla} {l : List Sea} (h : PagX w W kb lb i now fl p l) {m : Nat} (hm : 1 ≤ m ∧ m ≤ 20) {q : Pla} {r : List Sea} (hf : fl m = some (q, r)) (g cap : Nat) (hr : RowS W g cap r) :
    Calls Try.prog 22 #[.slice (some ⟨g, 0, none⟩) r.length cap, .agg #[.int .i64 (q.lim 0), .int .i64 (q.lim 1), .int .i64 (q.lim 2), .int .i64 (q.lim 3)]] W fun e w' => e = .returned (.bool false) ∧ Mod No W w' := by
  obtain ⟨h1, h2⟩ := h.fit m (by omega) q r hf
  have hl : r.length ≤ 120 := Fli.wf.len_le h1
  refine over_no g cap r _ _ _ _ W hr (by omega) (fun k hk => ?_) (rows_up h1)
  have := h2 k hk
  have hk4 : k = 0 ∨ k = 1 ∨ k = 2 ∨ k = 3 := by omega
  rcases hk4 with rfl | rfl | rfl | rfl <;> exact this
end Go.Proofs.Ythhibagcpjeihaa
/- Recounted: the walk. -/
namespace Go.Proofs.Ythhibagcpjeihaa
open Go.RowKit
open M
set_option linter.unusedVariables false
set_option linter.unusedSimpArgs false
set_option maxRecDepth 100000
set_option maxHeartbeats 20000000

theorem recounted_any (a : Option Addr) (n cap : Nat) (hn : n ≤ 1048576) (w : World) (hs : Script w a n) :
    Calls Try.prog 4 #[.slice a n cap] w fun e w' => e = .returned (.bool true) ∧ Mod No w w' := by
  have HS := hide hs
  clear hs
  go_enter Try.func4, Try.ntmps4
  go_wp2_with fail
  refine (new_any _ _).mono ?_
  rintro e w1 ⟨rfl, rfl⟩
  have HG := hide (begun_any w)
  unfold tape0 at HG
  generalize w.alloc (.cells (⟨⟨.slice none 0 0, [], 0⟩, ⟨.slice none 0 0, [], 0⟩, ⟨.slice none 0 0, [], 0⟩, ⟨.slice none 0 0, [], 0⟩, 1099511627776, -1⟩ : TTape).cells 103) = w1 at *
  go_wp2_with fail
  refine (unhide HG).mono ?_
  rintro e w2 ⟨kb, rfl, ⟨ow, k2, ho⟩, m2, nx⟩
  clear nx
  have M2 := hide m2
  have K2 := hide k2
  have HO := hide ho
  clear k2 ho m2 HG
  go_wp2_with fail
  refine (firstL_any _).mono ?_
  rintro e w3 ⟨cs, hcs, hL, rfl, h3, m3⟩
  have I3 := hide (PagX.start (w := w) (unhide K2) (fun k hk => (unhide HO) k hk) (unhide M2) m3 cs hcs hL h3)
  generalize w2.heap.size = lb at *
  clear h3 m3 hcs K2 HO M2 hL cs
  clear w1 w2 ow
  go_wp2_with fail
  go_loopw [4, 6] (fun s4 s wr => s4 = .bool true ∧ ∃ (i : Nat) (now : Int) (fl : Nat → Option (Pla × List Sea)) (p : Pla) (l : List Sea), s = .int .i64 i ∧ i ≤ n ∧ Hid (PagX w wr kb lb i now fl p l)) (fun _ i _ => n - (intOf i).toNat)
  case atStart => exact ⟨rfl, 0, _, _, _, _, rfl, by omega, I3⟩
  case round =>
    obtain ⟨rfl, i, now, fl, p, l, rfl, hi, I4⟩ := hrel
    clear I3
    by_cases hin : i < n
    · have hini : (i : Int) < (n : Int) := by omega
      have hi0 : (0 : Int) ≤ i := by omega
      have hi1 : IntKind.i64.wrap ((i : Int) + 1) = ((i + 1 : Nat) : Int) := by rw [wrap_id _ (by omega) (by omega)]; rfl
      obtain ⟨b, off, S, rfl, hS, hr, hT⟩ := (unhide HS).mod (unhide I4).mod i hin
      have HT := hide hT
      have HR := hide hr
      clear hT hr
      go_wp2_with (refine wpList_load_mid rfl 41 _ rfl b (off + i * 21) rfl S.toList _ (unhide HR) Try.underlying41 rfl (by rw [Array.length_toList, hS]; exact size47p) ?_)
      refine ((unhide HT) _).mono ?_
      rintro e w4 ⟨cc, rfl, m4⟩
      obtain ⟨ow, hz, hold⟩ := ((unhide I4).still m4).z
      have Z4 := hide (hz.still ((Mod.refl No w4).alloc (.cells (cmdCells cc) 37)))
      have OB := hide (hold w4.heap.size (Nat.le_refl _))
      have B4 := hide (Has.new w4 (cmdCells cc) 37)
      have HCO := hide (doK_le now fl cc)
      have HD := hide ((unhide Z4).step (by omega) cc)
      clear hz hold m4 HT HR I4 Z4
      generalize doK now fl cc = D at *
      obtain ⟨x1, now1, fl1⟩ := D
      simp only at HD HCO
      unfold cmdCells at *
      go_wp2_with fail
      generalize hW5 : w4.alloc _ = w5 at *
      refine (unhide HD).mono ?_
      rintro e w6 ⟨rfl, ow', p', l', z6, o6, m6⟩
      have b6h := m6.has (unhide B4) (fun h => h.elim (fun x => x (unhide OB).1) (fun x => (unhide OB).2 x))
      have b6 := b6h.cell
      have l6 := b6h.lt
      have X6 := hide z6.x
      have n15 : (x1 == 15) = false := by simp; have := unhide HCO; omega
      have n16 : (x1 == 16) = false := by simp; have := unhide HCO; omega
      have n17 : (x1 == 17) = false := by simp; have := unhide HCO; omega
      clear z6 o6 m6 b6h HD B4 OB
      clear hW5
      by_cases f1 : cc.flight < 1
      · have X7 := unhide X6
        cases hfm : fl1 1 with
        | none =>
          have HC := hide ((X7.countOf 1 (by omega)).1 hfm)
          clear X7
          unfold zero51 at *
          go_wp2_with fail
          refine (unhide HC).mono ?_
          rintro e w7 ⟨rfl, m7⟩
          have X8 := hide ((unhide X6).still (m7.alloc (.cells #[.int .i64 0, .int .i64 0, .int .i64 0, .int .i64 0, .int .i64 0, .int .i64 0, .int .i64 0, .int .i64 0, .int .i64 0, .int .i64 0, .int .i64 0, .int .i64 0] 45)))
          clear m7 HC X6
          go_wp2
          exact ⟨⟨rfl, i + 1, _, _, p', l', rfl, by omega, X8⟩, by simp [intOf]; omega⟩
        | some y =>
          obtain ⟨q, r⟩ := y
          have HC := hide ((X7.countOf 1 (by omega)).2 q r hfm)
          have HFM := hide hfm
          clear X7
          unfold totV at *
          go_wp2_with fail
          refine (unhide HC).mono ?_
          rintro e w7 ⟨rfl, m7⟩
          have X8 := hide fun o => (unhide X6).still (m7.alloc o)
          clear m7 HC X6
          go_wp2_with fail
          refine (((unhide X8) _).seatsOf (m := 1) (by omega) (unhide HFM)).mono ?_
          rintro e w9 ⟨⟨a9, c9, rfl, ho9, hn9⟩, m9⟩
          have X9 := hide (((unhide X8) _).still m9)
          obtain ⟨g9, rfl, hR9⟩ := rowS_told ho9 (one_seat (((unhide X9).fit 1 (by omega) q r (unhide HFM)).1))
          obtain ⟨cs, s1, s2, s3⟩ := (unhide X9).lim
          have gl := s3 1 (by omega) q r (unhide HFM)
          have k0 := s2.cell (1 * 4 + 0)
          have k1 := s2.cell (1 * 4 + 1)
          have k2 := s2.cell (1 * 4 + 2)
          have k3 := s2.cell (1 * 4 + 3)
          rw [gl 0 (by omega)] at k0
          rw [gl 1 (by omega)] at k1
          rw [gl 2 (by omega)] at k2
          rw [gl 3 (by omega)] at k3
          simp only [Nat.add_zero] at k0
          have kl := s2.lt
          have R9 := hide hR9
          have HCT := hide ((unhide X9).countedOf (m := 1) (by omega) (unhide HFM))
          clear ho9 hn9 m9 hR9 s1 s2 s3 gl X8
          go_wp2_with fail
          refine (unhide HCT).mono ?_
          rintro e w10 ⟨rfl, m10⟩
          have X10 := hide ((unhide X9).still m10)
          have HOV := hide ((unhide X10).overOf (m := 1) (by omega) (unhide HFM) g9 c9 ((unhide R9).mod m10 (fun x => x)))
          obtain ⟨cs, s1, s2, s3⟩ := (unhide X10).lim
          have gl := s3 1 (by omega) q r (unhide HFM)
          have k0 := s2.cell (1 * 4 + 0)
          have k1 := s2.cell (1 * 4 + 1)
          have k2 := s2.cell (1 * 4 + 2)
          have k3 := s2.cell (1 * 4 + 3)
          rw [gl 0 (by omega)] at k0
          rw [gl 1 (by omega)] at k1
          rw [gl 2 (by omega)] at k2
          rw [gl 3 (by omega)] at k3
          simp only [Nat.add_zero] at k0
          have kl := s2.lt
          clear m10 s1 s2 s3 gl X9 R9 HCT
          go_wp2_with fail
          refine (unhide HOV).mono ?_
          rintro e w11 ⟨rfl, m11⟩
          have X11 := hide ((unhide X10).still m11)
          clear m11 X10 HOV k0 k1 k2 k3
          go_wp2
          exact ⟨⟨rfl, i + 1, _, _, p', l', rfl, by omega, X11⟩, by simp [intOf]; omega⟩
      by_cases f2 : cc.flight > 20
      · have X7 := unhide X6
        cases hfm : fl1 1 with
        | none =>
          have HC := hide ((X7.countOf 1 (by omega)).1 hfm)
          clear X7
          unfold zero51 at *
          go_wp2_with fail
          refine (unhide HC).mono ?_
          rintro e w7 ⟨rfl, m7⟩
          have X8 := hide ((unhide X6).still (m7.alloc (.cells #[.int .i64 0, .int .i64 0, .int .i64 0, .int .i64 0, .int .i64 0, .int .i64 0, .int .i64 0, .int .i64 0, .int .i64 0, .int .i64 0, .int .i64 0, .int .i64 0] 45)))
          clear m7 HC X6
          go_wp2
          exact ⟨⟨rfl, i + 1, _, _, p', l', rfl, by omega, X8⟩, by simp [intOf]; omega⟩
        | some y =>
          obtain ⟨q, r⟩ := y
          have HC := hide ((X7.countOf 1 (by omega)).2 q r hfm)
          have HFM := hide hfm
          clear X7
          unfold totV at *
          go_wp2_with fail
          refine (unhide HC).mono ?_
          rintro e w7 ⟨rfl, m7⟩
          have X8 := hide fun o => (unhide X6).still (m7.alloc o)
          clear m7 HC X6
          go_wp2_with fail
          refine (((unhide X8) _).seatsOf (m := 1) (by omega) (unhide HFM)).mono ?_
          rintro e w9 ⟨⟨a9, c9, rfl, ho9, hn9⟩, m9⟩
          have X9 := hide (((unhide X8) _).still m9)
          obtain ⟨g9, rfl, hR9⟩ := rowS_told ho9 (one_seat (((unhide X9).fit 1 (by omega) q r (unhide HFM)).1))
          obtain ⟨cs, s1, s2, s3⟩ := (unhide X9).lim
          have gl := s3 1 (by omega) q r (unhide HFM)
          have k0 := s2.cell (1 * 4 + 0)
          have k1 := s2.cell (1 * 4 + 1)
          have k2 := s2.cell (1 * 4 + 2)
          have k3 := s2.cell (1 * 4 + 3)
          rw [gl 0 (by omega)] at k0
          rw [gl 1 (by omega)] at k1
          rw [gl 2 (by omega)] at k2
          rw [gl 3 (by omega)] at k3
          simp only [Nat.add_zero] at k0
          have kl := s2.lt
          have R9 := hide hR9
          have HCT := hide ((unhide X9).countedOf (m := 1) (by omega) (unhide HFM))
          clear ho9 hn9 m9 hR9 s1 s2 s3 gl X8
          go_wp2_with fail
          refine (unhide HCT).mono ?_
          rintro e w10 ⟨rfl, m10⟩
          have X10 := hide ((unhide X9).still m10)
          have HOV := hide ((unhide X10).overOf (m := 1) (by omega) (unhide HFM) g9 c9 ((unhide R9).mod m10 (fun x => x)))
          obtain ⟨cs, s1, s2, s3⟩ := (unhide X10).lim
          have gl := s3 1 (by omega) q r (unhide HFM)
          have k0 := s2.cell (1 * 4 + 0)
          have k1 := s2.cell (1 * 4 + 1)
          have k2 := s2.cell (1 * 4 + 2)
          have k3 := s2.cell (1 * 4 + 3)
          rw [gl 0 (by omega)] at k0
          rw [gl 1 (by omega)] at k1
          rw [gl 2 (by omega)] at k2
          rw [gl 3 (by omega)] at k3
          simp only [Nat.add_zero] at k0
          have kl := s2.lt
          clear m10 s1 s2 s3 gl X9 R9 HCT
          go_wp2_with fail
          refine (unhide HOV).mono ?_
          rintro e w11 ⟨rfl, m11⟩
          have X11 := hide ((unhide X10).still m11)
          clear m11 X10 HOV k0 k1 k2 k3
          go_wp2
          exact ⟨⟨rfl, i + 1, _, _, p', l', rfl, by omega, X11⟩, by simp [intOf]; omega⟩
      obtain ⟨m, hm⟩ : ∃ m : Nat, cc.flight = (m : Int) := ⟨cc.flight.toNat, by omega⟩
      rw [hm] at f1 f2 b6
      have m21 : (m : Int) < 21 := by omega
      have m0 : (0 : Int) ≤ (m : Int) := by omega
      have X7 := unhide X6
      cases hfm : fl1 m with
      | none =>
        have HC := hide ((X7.countOf m (by omega)).1 hfm)
        clear X7
        unfold zero51 at *
        go_wp2_with fail
        refine (unhide HC).mono ?_
        rintro e w7 ⟨rfl, m7⟩
        have X8 := hide ((unhide X6).still (m7.alloc (.cells #[.int .i64 0, .int .i64 0, .int .i64 0, .int .i64 0, .int .i64 0, .int .i64 0, .int .i64 0, .int .i64 0, .int .i64 0, .int .i64 0, .int .i64 0, .int .i64 0] 45)))
        clear m7 HC X6
        go_wp2
        exact ⟨⟨rfl, i + 1, _, _, p', l', rfl, by omega, X8⟩, by simp [intOf]; omega⟩
      | some y =>
        obtain ⟨q, r⟩ := y
        have HC := hide ((X7.countOf m (by omega)).2 q r hfm)
        have HFM := hide hfm
        clear X7
        unfold totV at *
        go_wp2_with fail
        refine (unhide HC).mono ?_
        rintro e w7 ⟨rfl, m7⟩
        have X8 := hide fun o => (unhide X6).still (m7.alloc o)
        clear m7 HC X6
        go_wp2_with fail
        refine (((unhide X8) _).seatsOf (m := m) (by omega) (unhide HFM)).mono ?_
        rintro e w9 ⟨⟨a9, c9, rfl, ho9, hn9⟩, m9⟩
        have X9 := hide (((unhide X8) _).still m9)
        obtain ⟨g9, rfl, hR9⟩ := rowS_told ho9 (one_seat (((unhide X9).fit m (by omega) q r (unhide HFM)).1))
        obtain ⟨cs, s1, s2, s3⟩ := (unhide X9).lim
        have gl := s3 m (by omega) q r (unhide HFM)
        have k0 := s2.cell (m * 4 + 0)
        have k1 := s2.cell (m * 4 + 1)
        have k2 := s2.cell (m * 4 + 2)
        have k3 := s2.cell (m * 4 + 3)
        rw [gl 0 (by omega)] at k0
        rw [gl 1 (by omega)] at k1
        rw [gl 2 (by omega)] at k2
        rw [gl 3 (by omega)] at k3
        simp only [Nat.add_zero] at k0
        have kl := s2.lt
        have R9 := hide hR9
        have HCT := hide ((unhide X9).countedOf (m := m) (by omega) (unhide HFM))
        clear ho9 hn9 m9 hR9 s1 s2 s3 gl X8
        go_wp2_with fail
        refine (unhide HCT).mono ?_
        rintro e w10 ⟨rfl, m10⟩
        have X10 := hide ((unhide X9).still m10)
        have HOV := hide ((unhide X10).overOf (m := m) (by omega) (unhide HFM) g9 c9 ((unhide R9).mod m10 (fun x => x)))
        obtain ⟨cs, s1, s2, s3⟩ := (unhide X10).lim
        have gl := s3 m (by omega) q r (unhide HFM)
        have k0 := s2.cell (m * 4 + 0)
        have k1 := s2.cell (m * 4 + 1)
        have k2 := s2.cell (m * 4 + 2)
        have k3 := s2.cell (m * 4 + 3)
        rw [gl 0 (by omega)] at k0
        rw [gl 1 (by omega)] at k1
        rw [gl 2 (by omega)] at k2
        rw [gl 3 (by omega)] at k3
        simp only [Nat.add_zero] at k0
        have kl := s2.lt
        clear m10 s1 s2 s3 gl X9 R9 HCT
        go_wp2_with fail
        refine (unhide HOV).mono ?_
        rintro e w11 ⟨rfl, m11⟩
        have X11 := hide ((unhide X10).still m11)
        clear m11 X10 HOV k0 k1 k2 k3
        go_wp2
        exact ⟨⟨rfl, i + 1, _, _, p', l', rfl, by omega, X11⟩, by simp [intOf]; omega⟩
    · have hini : ¬ (i : Int) < (n : Int) := by omega
      have MF := hide (unhide I4).mod
      clear I4
      go_wp2
      go_ret
      exact ⟨rfl, unhide MF⟩
end Go.Proofs.Ythhibagcpjeihaa
/- What the bound on what comes in gives. -/
namespace Go.Proofs.Ythhibagcpjeihaa

theorem bulk_one {H : Type} (d : DataW H) : 1 ≤ Rows.uptoBulk d := by
  cases d with
  | lit l => cases l <;> simp [Rows.uptoBulk]
  | nil => simp [Rows.uptoBulk]
  | ptr d => simp [Rows.uptoBulk]
  | slice elems spare => simp [Rows.uptoBulk]
  | agg parts => simp [Rows.uptoBulk]
  | iface t d => simp [Rows.uptoBulk]
  | map entries => simp [Rows.uptoBulk]
  | held h => simp [Rows.uptoBulk]
theorem bulk_part {H : Type} {d : DataW H} {l : List (DataW H)} (h : d ∈ l) : Rows.uptoBulk d ≤ Rows.uptoBulkAll l := by
  induction l with
  | nil => cases h
  | cons x r ih =>
    simp only [Rows.uptoBulkAll]
    cases List.mem_cons.1 h with
    | inl e => subst e; omega
    | inr e => have := ih e; omega
theorem bulk_len {H : Type} (l : List (DataW H)) : l.length ≤ Rows.uptoBulkAll l := by
  induction l with
  | nil => simp [Rows.uptoBulkAll]
  | cons x r ih => have := bulk_one x; simp only [Rows.uptoBulkAll, List.length_cons]; omega
/-- A slice that came in has at most so many elements. -/
theorem bulk_slice {H : Type} {es sp : List (DataW H)} {l : List (DataW H)} (h : (DataW.slice es sp : DataW H) ∈ l) (hk : Rows.uptoSmall H l = true) : es.length ≤ 1048576 := by
  have h1 : Rows.uptoBulkAll l ≤ 1048576 := of_decide_eq_true hk
  have h2 := bulk_part h
  have h3 := bulk_len es
  simp only [Rows.uptoBulk] at h2
  omega
end Go.Proofs.Ythhibagcpjeihaa
