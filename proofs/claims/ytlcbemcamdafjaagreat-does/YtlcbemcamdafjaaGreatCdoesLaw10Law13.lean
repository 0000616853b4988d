import Derived.Test.YtlcbemcamdafjaaGreatCdoesLaw9
/- One step of a script is played. -/
namespace Go.Proofs.YtlcbemcamdafjaaGreat
open Go.RowKit
open M
set_option linter.unusedVariables false
set_option linter.unusedSimpArgs false
set_option maxRecDepth 100000
set_option maxHeartbeats 4000000

theorem sizeOp : (Tryz.prog.info? 45).map (·.size) = some 25 := by kernel_rfl
theorem rowOp : (Tryz.prog.underlying 45).map (·.isRow) = some true := by kernel_rfl
theorem sizeCmd : (Tryz.prog.info? 41).map (·.size) = some 16 := by kernel_rfl

/-- The numbers of a step. -/
theorem OpS.nums {S : Array Value} (h : OpS S) : ∃ (k a b c : Int) (cm : Cmd), OpV S k b c ∧ S[1]? = some (.int .i64 a) ∧ (-9223372036854775808 ≤ a ∧ a ≤ 9223372036854775807) ∧ (∀ j v, (cmdCells cm).toList[j]? = some v → S[4 + j]? = some v) ∧ (-9223372036854775808 ≤ cm.time ∧ cm.time ≤ 9223372036854775807) := by
  have hz := h.size
  obtain ⟨x0, x1, x2, x3, x4, x5, x6, x7, x8, x9, x10, x11, x12, x13, x14, x15, x16, x17, x18, x19, x20, x21, x22, v23, v24, rfl, r1, r12⟩ := h.lits
  refine ⟨x0, x1, x2, x3, ⟨x4, x5, x6, x7, x8, x9, x10, x11, x12, ⟨x13, x14, x15, x16, x17, x18, x19, 0⟩⟩, ⟨hz, rfl, rfl, rfl⟩, rfl, r1, fun j v hj => ?_, r12⟩
  have hl : j < 16 := by
    have := (List.getElem?_eq_some_iff.1 hj).1
    simpa [cmdCells] using this
  have : j = 0 ∨ j = 1 ∨ j = 2 ∨ j = 3 ∨ j = 4 ∨ j = 5 ∨ j = 6 ∨ j = 7 ∨ j = 8 ∨ j = 9 ∨ j = 10 ∨ j = 11 ∨ j = 12 ∨ j = 13 ∨ j = 14 ∨ j = 15 := by omega
  rcases this with rfl | rfl | rfl | rfl | rfl | rfl | rfl | rfl | rfl | rfl | rfl | rfl | rfl | rfl | rfl | rfl <;> exact hj

theorem step_new {w0 w : World} {who : Nat → Nat} {yb : Nat} {lv av bv : Value} {os : List Nat} {n : Nat} (h : PlayX w0 w who yb lv av bv os n) (hn : n ≤ 1099511627776) {S : Array Value} {room : Int} (hS : OpV S 1 room 0) :
    Calls Tryz.prog 10 #[.pointer (some ⟨yb, 0, none⟩), .agg S] w fun e w' => e = .returned (.bool true) ∧ PlayD w0 w' yb av bv n := by
  have B0 := Has.new w S 45
  have b0 := (B0.cell 0).trans hS.k0
  have bl := B0.lt
  have HB := hide B0
  have hz := hS.size
  have HO := hide (opened_any (h.still ((Mod.refl No w).alloc (.cells S 45))) hn hS)
  clear h B0
  go_enter Tryz.func10, Tryz.ntmps10
  go_wp2_with (refine (wpList_load_has rfl 45 _ rfl w.heap.size 0 rfl S 45 (unhide HB) S (fun j v h => by rw [Nat.zero_add]; simpa using h) rowOp (by rw [hz]; exact sizeOp) ?_))
  refine (unhide HO).mono ?_
  rintro e w1 ⟨rfl, hp⟩
  have HP := hide hp
  clear hp HO
  go_wp2
  go_ret
  exact ⟨rfl, unhide HP⟩

theorem step_none {w0 w : World} {who : Nat → Nat} {yb : Nat} {lv av bv : Value} {n : Nat} (h : PlayX w0 w who yb lv av bv [] n) {S : Array Value} {k b c : Int} (hS : OpV S k b c) (hk : k ≠ 1) :
    Calls Tryz.prog 10 #[.pointer (some ⟨yb, 0, none⟩), .agg S] w fun e w' => e = .returned (.bool true) ∧ PlayD w0 w' yb av bv n := by
  have B0 := Has.new w S 45
  have b0 := (B0.cell 0).trans hS.k0
  have bl := B0.lt
  have h1 := h.still ((Mod.refl No w).alloc (.cells S 45))
  obtain ⟨a0, c0, rfl⟩ := slice_of_owns h1.row
  have y0 : (w.alloc (.cells S 45)).cell? ⟨yb, 0, none⟩ = some (.slice a0 ([] : List Nat).length c0) := h1.has.cell 0
  simp only [List.length_nil] at y0
  have yl := h1.has.lt
  have HP := hide (show PlayD w0 (w.alloc (.cells S 45)) yb av bv n from ⟨⟨_, _, _, h1.more⟩⟩)
  have kb : (k == 1) = false := by simpa using hk
  clear h B0 h1 hS
  go_enter Tryz.func10, Tryz.ntmps10
  go_wp2
  go_ret
  exact ⟨rfl, unhide HP⟩
end Go.Proofs.YtlcbemcamdafjaaGreat
/- One step of a script is played, on one of the keepers that there are. -/
namespace Go.Proofs.YtlcbemcamdafjaaGreat
open Go.RowKit
open M
set_option linter.unusedVariables false
set_option linter.unusedSimpArgs false
set_option maxRecDepth 100000
set_option maxHeartbeats 4000000

/-- The row of keepers, and the one that is meant. -/
theorem PlayX.at {w0 w : World} {who : Nat → Nat} {yb : Nat} {lv av bv : Value} {os : List Nat} {n : Nat} (h : PlayX w0 w who yb lv av bv os n) (hne : 0 < os.length) :
    ∃ lb cap, lv = .slice (some ⟨lb, 0, none⟩) os.length cap ∧ lb < w.heap.size ∧ ∀ j (hj : j < os.length), w.cell? ⟨lb, j, none⟩ = some (ptrTo os[j]) := by
  have hr := h.row
  obtain ⟨h0, h1 | ⟨g, cap, cur, hv, _⟩⟩ := h.row
  · omega
  · refine ⟨g, cap, hv, owns_lt h.row g (by rw [hv]; rfl), fun j hj => ?_⟩
    have := hr.cells (by rw [hv]; rfl) j (ptrTo os[j]) (by rw [List.getElem?_map, List.getElem?_eq_getElem hj]; rfl)
    rw [Addr.add_mid, Nat.zero_add] at this
    exact this

/-- What there is ahead of a step on one of the keepers. -/
structure StepI (w0 w w1 : World) (who : Nat → Nat) (yb : Nat) (lv av bv : Value) (os : List Nat) (n bb j : Nat) (S : Array Value) (k b c : Int) : Prop where
  play : PlayX w0 w1 who yb lv av bv os n
  box : Has w1 bb S 45
  ops : OpV S k b c
  free : who bb = 0
  jlt : j < os.length

theorem step_pick {w0 w : World} {who : Nat → Nat} {yb : Nat} {lv av bv : Value} {os : List Nat} {n : Nat} (h : PlayX w0 w who yb lv av bv os n) (hn : n ≤ 1099511627776) (hne : 0 < os.length) {S : Array Value} {k b c a : Int} (hS : OpV S k b c) (ha : S[1]? = some (.int .i64 a)) (hr : -9223372036854775808 ≤ a ∧ a ≤ 9223372036854775807)
    (hk : 2 ≤ k ∧ k ≤ 8) (C4 : Array Value) (hex : C4.size = 16) (hC4 : ∀ q v, C4.toList[q]? = some v → S[4 + q]? = some v) (j : Nat) (hj : j < os.length) (hja : pickN a (os.length : Int) = (j : Int)) {P : Value → World → Prop}
    (H2 : k = 2 → ∀ n', Calls Tryz.prog 15 #[ptrTo os[j], .agg C4] ((w.alloc (.cells S 45)).drewN n') fun e w' => e = .returned (.bool true) ∧ P (.bool true) w')
    (H3 : k ≠ 2 → ∀ n', Calls Tryz.prog 17 #[ptrTo yb, ptrTo os[j], .agg S] ((w.alloc (.cells S 45)).drewN n') fun e w' => e = .returned (.bool true) ∧ P (.bool true) w') :
    Calls Tryz.prog 10 #[.pointer (some ⟨yb, 0, none⟩), .agg S] w fun e w' => e = .returned (.bool true) ∧ P (.bool true) w' := by
  have B0 := Has.new w S 45
  have b0 := (B0.cell 0).trans hS.k0
  have b1 := (B0.cell 1).trans ha
  have bl := B0.lt
  have HB := hide fun n' => B0.drewN n'
  have h1 := h.still ((Mod.refl No w).alloc (.cells S 45))
  obtain ⟨lb, cap, rfl, ll, lc⟩ := h1.at hne
  have y0 : (w.alloc (.cells S 45)).cell? ⟨yb, 0, none⟩ = some (.slice (some ⟨lb, 0, none⟩) os.length cap) := h1.has.cell 0
  have yl := h1.has.lt
  have cj := lc j hj
  have hcnt := h1.cnt
  obtain ⟨I, hI, _⟩ := h1.ones j hj
  have HI := hide fun n' => (show ((w.alloc (.cells S 45)).drewN n').cell? ⟨os[j], 1, none⟩ = some (.pointer (some ⟨I.kb, 0, none⟩)) ∧ ((w.alloc (.cells S 45)).drewN n').cell? ⟨os[j], 7, none⟩ = some (.bool false) ∧ os[j] < ((w.alloc (.cells S 45)).drewN n').heap.size from
    ⟨(hI.has.drewN n').cell 1, (hI.has.drewN n').cell 7, (hI.has.drewN n').lt⟩)
  have HPK := hide fun n' => lpick_any a (os.length : Int) hr (by omega) ((w.alloc (.cells S 45)).drewN n')
  rw [hja] at HPK
  have hz := hS.size
  have HZ := hide hz
  have HR := hide fun n' => (show ((w.alloc (.cells S 45)).drewN n').rangeAt w.heap.size 4 C4.toList from (B0.drewN n').range 4 _ hC4)
  have k1 : (k == 1) = false := by simp; omega
  have k2 : decide (k < 2) = false := by simp; omega
  have k3 : decide (k > 13) = false := by simp; omega
  have k10 : decide (k ≥ 10) = false := by simp; omega
  have k9 : (k == 9) = false := by simp; omega
  have j0 : (0 : Int) ≤ j := by omega
  have jl : (j : Int) < (os.length : Int) := by omega
  have k2' : ¬ k < 2 := by omega
  have k3' : ¬ k > 13 := by omega
  have k10' : ¬ k ≥ 10 := by omega
  have H2 := hide H2
  have H3 := hide H3
  generalize hob : os[j] = ob at *
  clear h h1 hS ha B0 lc hI hob hC4
  generalize hL : os.length = L at *
  have ln : ((L : Int) == 0) = false := by rw [beq_eq_false_iff_ne]; omega
  have ln2 : ¬ L = 0 := by omega
  unfold ptrTo at cj H2 H3
  go_enter Tryz.func10, Tryz.ntmps10
  go_upto_region 5 with fail
  go_cut [5] (fun s wx => s = .pointer (some ⟨ob, 0, none⟩) ∧ ∃ n', wx = (w.alloc (.cells S 45)).drewN n')
  case first =>
    go_quiet ((go_at_call 13; exact Calls.quiet_of_same ((unhide HPK) _)))
    go_wp2
    go_meet
    exact ⟨rfl, _, rfl⟩
  case rest =>
    obtain ⟨rfl, n', rfl⟩ := hcut
    apply_assumption
    have b0 : ((w.alloc (.cells S 45)).drewN n').cell? ⟨w.heap.size, 0, none⟩ = some (.int .i64 k) := b0
    have bl : w.heap.size < ((w.alloc (.cells S 45)).drewN n').heap.size := bl
    obtain ⟨o1, o7, ol⟩ := (unhide HI) n'
    have HB := hide ((unhide HB) n')
    have HR := hide ((unhide HR) n')
    have H2 := hide fun e => (unhide H2) e n'
    have H3 := hide fun e => (unhide H3) e n'
    clear y0 yl cj b1 HPK HI
    generalize (w.alloc (.cells S 45)).drewN n' = w1 at *
    by_cases h2 : k = 2
    · subst h2
      have HC := hide ((unhide H2) rfl)
      clear H2 H3
      go_wp2_with (refine wpList_load_mid rfl 41 _ rfl w.heap.size 4 rfl C4.toList _ (unhide HR) Tryz.underlying41 rfl (by rw [Array.length_toList, hex]; exact sizeCmd) ?_)
      refine (unhide HC).mono ?_
      rintro e w2 ⟨rfl, hp⟩
      have HP := hide hp
      clear hp HC
      go_wp2
      go_ret
      exact ⟨rfl, unhide HP⟩
    · have h2b : (k == 2) = false := by simp [h2]
      have HC := hide ((unhide H3) h2)
      clear H2 H3
      go_wp2_with (refine (wpList_load_has rfl 45 _ rfl w.heap.size 0 rfl S 45 (unhide HB) S (fun j v h => by rw [Nat.zero_add]; simpa using h) rowOp (by rw [unhide HZ]; exact sizeOp) ?_))
      refine (unhide HC).mono ?_
      rintro e w2 ⟨rfl, hp⟩
      have HP := hide hp
      clear hp HC
      go_wp2
      go_ret
      exact ⟨rfl, unhide HP⟩
end Go.Proofs.YtlcbemcamdafjaaGreat
/- A script is played. -/
namespace Go.Proofs.YtlcbemcamdafjaaGreat
open Go.RowKit
open M
set_option linter.unusedVariables false
set_option linter.unusedSimpArgs false
set_option maxRecDepth 100000
set_option maxHeartbeats 8000000

/-- The kind of a step; that of its command. -/
theorem OpL.kind (x : OpL) : ∃ k ck : Int, x.S[0]? = some (.int .i64 k) ∧ x.S[4]? = some (.int .i64 ck) := by
  have hs := x.ok.size
  have e : ∀ i, i < 23 → ∃ z : Int, x.S[i]? = some (.int .i64 z) := fun i hi => by
    have e : x.S[i]? = some (x.S[i]'(by omega)) := Array.getElem?_eq_getElem (by omega)
    obtain ⟨z, hz, _⟩ := x.ok.ints i hi _ e
    exact ⟨z, by rw [e, hz]⟩
  obtain ⟨k, h1⟩ := e 0 (by omega)
  obtain ⟨ck, h2⟩ := e 4 (by omega)
  exact ⟨k, ck, h1, h2⟩

def inK (k : Int) (K : List Int) : Bool := K.any (fun q => k == q)
theorem inK_succ (k : Int) (K : List Int) (q : Nat) (hq : q < K.length) : inK k (K.take (q + 1)) = (inK k (K.take q) || (k == K[q])) := by
  unfold inK
  rw [List.take_add_one, List.getElem?_eq_getElem hq, Option.toList_some, List.any_append]
  simp only [List.any_cons, List.any_nil, Bool.or_false]

theorem plays_any {w : World} (a : Option Addr) (n cap : Nat) (hn : n ≤ 651562446089) (hL : Live w a n) (kb kc : Nat) (K : List Int) (hK : ∀ q (h : q < K.length), w.cell? ⟨kb, q, none⟩ = some (.int .i64 K[q])) (hkb : kb < w.heap.size) (hK9 : K.length ≤ 100) (swap : Bool)
    (J : Nat → World → Prop) (J0 : J 0 (w.alloc (.cells #[.slice none 0 0, .slice none 0 0, .slice none 0 0] 34))) (HM : ∀ m W, J m W → Mod No w W) (HN : ∀ m W, J m W → J (m + 1) W) (HD : ∀ m W W', J m W → Mod No W W' → J m W')
    (HS : ∀ m W (x : OpL) (k ck : Int), m < n → J m W → x.S[0]? = some (.int .i64 k) → x.S[4]? = some (.int .i64 ck) → inK k K = true → (swap = true ∨ ¬ (k = 2 ∧ ck = 9)) → Calls Tryz.prog 10 #[ptrTo w.heap.size, .agg x.S] W fun e w' => e = .returned (.bool true) ∧ J (m + 1) w')
    (HW : ∀ m W, J m W → Calls Tryz.prog 11 #[.pointer (some ⟨w.heap.size, 1, none⟩)] W fun e w' => e = .returned (.bool true) ∧ J m w') :
    Calls Tryz.prog 8 #[.slice a n cap, .slice (some ⟨kb, 0, none⟩) K.length kc, .bool swap] w fun e w' => e = .returned (.bool true) ∧ Mod No w w' := by
  have HL := hide hL
  have HK := hide hK
  have J0 := hide J0
  have HM := hide HM
  have HN := hide HN
  have HD := hide HD
  have HS := hide HS
  have HW := hide HW
  unfold ptrTo at HS
  clear hL hK
  go_enter Tryz.func8, Tryz.ntmps8
  go_wp2_with fail
  go_loopw [8] (fun s8 wr => ∃ i : Nat, s8 = .int .i64 i ∧ i ≤ n ∧ Hid (J i wr)) (fun s _ => n - (intOf s).toNat)
  case atStart => exact ⟨0, rfl, by omega, J0⟩
  case round =>
    obtain ⟨i, rfl, hi, J1⟩ := hrel
    clear J0
    by_cases hin : i < n
    · have hini : (i : Int) < (n : Int) := by omega
      have hi0 : (0 : Int) ≤ i := by omega
      have hi1 : IntKind.i64.wrap ((i : Int) + 1) = ((i + 1 : Nat) : Int) := by rw [wrap_id _ (by omega) (by omega)]; rfl
      have mr := (unhide HM) _ _ (unhide J1)
      obtain ⟨b, off, x, rfl, hR, hb⟩ := (unhide HL).mod mr (fun _ _ _ _ => fun z => z) i hin
      obtain ⟨k, ck, hk, hck⟩ := x.kind
      have hxs := x.ok.size
      have c0 : wr.cell? ⟨b, off + i * 25, none⟩ = some (.int .i64 k) := by
        have := hR 0 (.int .i64 k) (by rw [Array.getElem?_toList]; exact hk)
        rw [Nat.add_zero] at this
        exact this
      have c4 : wr.cell? ⟨b, off + i * 25 + 4, none⟩ = some (.int .i64 ck) := hR 4 (.int .i64 ck) (by rw [Array.getElem?_toList]; exact hck)
      have HR := hide hR
      have HKK := hide hk
      have HCK := hide hck
      have HXS := hide hxs
      have MR := hide mr
      clear hR hk hck hxs mr
      go_upto_block 2 with fail
      go_cut [9, 10] from 20 to 38 (fun s9 s10 wx => s9 = .bool (inK k K) ∧ s10 = .int .i64 (K.length : Nat) ∧ Hid (Mod No wr wx))
      case first =>
        go_wp2_with fail
        go_loopw [9, 10] (fun s9 s10 wx => ∃ q : Nat, s10 = .int .i64 q ∧ q ≤ K.length ∧ s9 = .bool (inK k (K.take q)) ∧ Hid (Mod No wr wx)) (fun _ s10 _ => K.length - (intOf s10).toNat)
        case atStart => exact ⟨0, rfl, by omega, rfl, Mod.refl _ _⟩
        case round =>
          obtain ⟨q, rfl, hq, rfl, M2⟩ := hrel
          by_cases hql : q < K.length
          · have hqi : (q : Int) < (K.length : Int) := by omega
            have hq0 : (0 : Int) ≤ q := by omega
            have hq1 : IntKind.i64.wrap ((q : Int) + 1) = ((q + 1 : Nat) : Int) := by rw [wrap_id _ (by omega) (by omega)]; rfl
            have ck9 := mod_cell0 ((unhide MR).trans (unhide M2)) ((unhide HK) q hql)
            have c02 := mod_cell0 (unhide M2) c0
            have HSU := hide (inK_succ k K q hql)
            have bl2 := Nat.lt_of_lt_of_le hb (unhide M2).size
            have kl2 := Nat.lt_of_lt_of_le (Nat.lt_of_lt_of_le hkb (unhide MR).size) (unhide M2).size
            clear c0 c4
            generalize K[q] = kq at *
            generalize inK k (K.take q) = old at *
            cases old with
            | true =>
              go_wp2_with fail
              go_quiet (fail)
              go_wp2
              exact ⟨⟨q + 1, rfl, by omega, by rw [unhide HSU]; rfl, (unhide M2).drewN _⟩, by simp [intOf]; omega⟩
            | false =>
              go_wp2_with fail
              go_quiet (fail)
              go_wp2
              exact ⟨⟨q + 1, rfl, by omega, by rw [unhide HSU]; simp, (unhide M2).drewN _⟩, by simp [intOf]; omega⟩
          · have hqi : ¬ (q : Int) < (K.length : Int) := by omega
            obtain rfl : q = K.length := by omega
            rw [List.take_length]
            go_wp2
            go_meet
            exact ⟨rfl, rfl, M2⟩
      case rest =>
        obtain ⟨rfl, rfl, M2⟩ := hcut
        apply_assumption
        have c0 := mod_cell0 (unhide M2) c0
        have c4 := mod_cell0 (unhide M2) c4
        have bl2 := Nat.lt_of_lt_of_le hb (unhide M2).size
        have J2 := hide ((unhide HD) _ _ _ (unhide J1) (unhide M2))
        have HR2 := hide (mod_range0 (unhide M2) (unhide HR))
        clear J1 HR M2 MR
        go_upto_region 10 with fail
        go_cut [61] from 20 to 61 (fun s wx => s = .bool (!inK k K || (!swap && (k == 2 && ck == 9))) ∧ wx = wc)
        case first =>
          generalize inK k K = ink at *
          cases ink with
          | false =>
            go_wp2
            go_meet
            exact ⟨rfl, rfl⟩
          | true =>
            cases swap with
            | true =>
              go_wp2
              go_meet
              exact ⟨rfl, rfl⟩
            | false =>
              by_cases h2 : k = 2
              · subst h2
                by_cases h9 : ck = 9
                · subst h9
                  go_wp2
                  go_meet
                  exact ⟨rfl, rfl⟩
                · have h9b : (ck == 9) = false := by simp [h9]
                  go_wp2
                  go_meet
                  exact ⟨by simp [h9], rfl⟩
              · have h2b : (k == 2) = false := by simp [h2]
                go_wp2
                go_meet
                exact ⟨by simp [h2], rfl⟩
        case rest =>
          obtain ⟨rfl, rfl⟩ := hcut
          apply_assumption
          generalize hsk : (!inK k K || (!swap && (k == 2 && ck == 9))) = skip at *
          have HSK := hide hsk
          clear hsk
          cases skip with
          | true =>
            have JN := hide ((unhide HN) _ _ (unhide J2))
            clear J2 c0 c4
            go_wp2
            exact ⟨⟨i + 1, rfl, by omega, JN⟩, by simp [intOf]; omega⟩
          | false =>
            have hq := unhide HSK
            simp only [Bool.or_eq_false_iff, Bool.not_eq_false', Bool.and_eq_false_iff, beq_eq_false_iff_ne, Bool.not_eq_false'] at hq
            have HST := hide ((unhide HS) i _ x k ck hin (unhide J2) (unhide HKK) (unhide HCK) hq.1 (by
              rcases hq.2 with e | e | e
              · exact .inl e
              · exact .inr (fun z => e z.1)
              · exact .inr (fun z => e z.2)))
            clear hq
            go_wp2_with (refine wpList_load_mid rfl 45 _ rfl b (off + i * 25) rfl x.S.toList _ (unhide HR2) Tryz.underlying45 rfl (by rw [Array.length_toList, unhide HXS]; exact sizeOp) ?_)
            refine (unhide HST).mono ?_
            rintro e w5 ⟨rfl, j5⟩
            have HWW := hide ((unhide HW) _ _ j5)
            clear HST j5 J2 c0 c4 bl2
            go_wp2_with fail
            refine (unhide HWW).mono ?_
            rintro e w6 ⟨rfl, j6⟩
            have J6 := hide j6
            clear HWW j6
            go_wp2
            exact ⟨⟨i + 1, rfl, by omega, J6⟩, by simp [intOf]; omega⟩
    · have hini : ¬ (i : Int) < (n : Int) := by omega
      have MF := hide ((unhide HM) _ _ (unhide J1))
      clear J1
      go_wp2
      go_ret
      exact ⟨rfl, unhide MF⟩
end Go.Proofs.YtlcbemcamdafjaaGreat
/- Does: the walk. -/
namespace Go.Proofs.YtlcbemcamdafjaaGreat
open Go.RowKit
open M
set_option linter.unusedVariables false
set_option linter.unusedSimpArgs false
set_option maxRecDepth 100000
set_option maxHeartbeats 4000000

/-- A script is played so far. -/
def JX (w0 : World) (yb : Nat) (m : Nat) (W : World) : Prop := ∃ who lv os, PlayX w0 W who yb lv (.slice none 0 0) (.slice none 0 0) os m

theorem JX.start (w : World) : JX w w.heap.size 0 (w.alloc (.cells #[.slice none 0 0, .slice none 0 0, .slice none 0 0] 34)) :=
  ⟨fun _ => 0, .slice none 0 0, [], Has.new w _ _, by simpa using World.ownsRow_nil _ _ _ _, fun j hj => absurd hj (Nat.not_lt_zero _), fun k hk => absurd rfl hk, ⟨rfl, Nat.le_refl _⟩, fun k hk => by simp [Value.ownBlock] at hk, Nat.zero_le _, fun k => Nat.zero_le _, (Mod.refl No w).alloc _⟩

theorem step_does {w0 w : World} {yb m : Nat} (h : JX w0 yb m w) (hm : m ≤ 1099511627776) (x : OpL) {k ck : Int} (hk : x.S[0]? = some (.int .i64 k)) (hck : x.S[4]? = some (.int .i64 ck)) (h1 : 1 ≤ k ∧ k ≤ 5) (h9 : ¬ (k = 2 ∧ ck = 9)) :
    Calls Tryz.prog 10 #[ptrTo yb, .agg x.S] w fun e w' => e = .returned (.bool true) ∧ JX w0 yb (m + 1) w' := by
  obtain ⟨who, lv, os, hP⟩ := h
  obtain ⟨k', a, b, c, cm, hS, ha, hr, hC, ht⟩ := x.ok.nums
  have ek : k' = k := by
    have := hS.k0
    rw [hk] at this
    injection this with e
    injection e with _ e
    exact e.symm
  subst ek
  have eck : cm.kind = ck := by
    have := hC 0 (.int .i64 cm.kind) rfl
    rw [hck] at this
    injection this with e
    injection e with _ e
    exact e.symm
  have toJ : ∀ (w' : World), PlayD w0 w' yb (.slice none 0 0) (.slice none 0 0) m → JX w0 yb (m + 1) w' := fun w' hd => by
    obtain ⟨⟨who', lv', os', q⟩⟩ := hd
    exact ⟨who', lv', os', q⟩
  by_cases k1 : k' = 1
  · subst k1
    have c0 : c = 0 := by
      have h3 := x.live hk
      have := hS.c3
      rw [h3] at this
      injection this with e
      injection e with _ e
      exact e.symm
    subst c0
    exact (step_new hP hm hS).mono fun e w' ⟨he, hd⟩ => ⟨he, toJ w' hd⟩
  · by_cases hne : 0 < os.length
    case neg =>
      obtain rfl : os = [] := List.eq_nil_of_length_eq_zero (by omega)
      exact (step_none hP hS k1).mono fun e w' ⟨he, hd⟩ => ⟨he, toJ w' hd⟩
    have hp := pickN_range a (os.length : Int) (by omega)
    obtain ⟨j, hja⟩ : ∃ j : Nat, pickN a (os.length : Int) = (j : Int) := ⟨(pickN a (os.length : Int)).toNat, by omega⟩
    have hj : j < os.length := by rw [hja] at hp; omega
    have hW := fun n' => hP.still (((Mod.refl No w).alloc (.cells x.S 45)).drewN n')
    refine (step_pick hP hm hne hS ha hr (by omega) (cmdCells cm) rfl hC j hj hja (P := fun _ w' => JX w0 yb (m + 1) w') (fun e n' => ?_) (fun e n' => ?_))
    · obtain ⟨I, hI, hch⟩ := (hW n').ones j hj
      refine (done_any hI cm ht (fun z => h9 ⟨e, by rw [← eck]; exact z⟩) (by omega)).mono ?_
      rintro e' w' ⟨he, hd⟩
      obtain ⟨who', q1, _⟩ := (hW n').step hj hch hd
      exact ⟨he, who', _, _, q1⟩
    · obtain ⟨I, hI, hch⟩ := (hW n').ones j hj
      have fin : ∀ {e' : Ending} {w' : World}, e' = .returned (.bool true) ∧ Mod No ((w.alloc (.cells x.S 45)).drewN n') w' → e' = .returned (.bool true) ∧ JX w0 yb (m + 1) w' := fun {e' w'} h => ⟨h.1, who, lv, os, ((hW n').still h.2).more⟩
      have : k' = 3 ∨ k' = 4 ∨ k' = 5 := by omega
      rcases this with rfl | rfl | rfl
      · exact (asked_now hI hS).mono fun e w' h => fin h
      · exact (asked_left hI hS).mono fun e w' h => fin h
      · exact (asked_count hI hS).mono fun e w' h => fin h

theorem does_any (a : Option Addr) (n cap : Nat) (hn : n ≤ 651562446089) (w : World) (hs : Ops w a n) :
    Calls Tryz.prog 3 #[.slice a n cap] w fun e w' => e = .returned (.bool true) ∧ Mod No w w' := by
  have HL := hide (living_any a n cap hn w hs)
  clear hs
  go_enter Tryz.func3, Tryz.ntmps3
  go_wp2_with fail
  refine (unhide HL).mono ?_
  rintro e w1 ⟨v, rfl, ⟨l, hl, ho, hb⟩, hm⟩
  obtain ⟨a1, c1, rfl⟩ := slice_of_owns ho
  subst hl
  have hlive := live_of ho rfl
  have mA : Mod No w1 (w1.alloc (.cells #[.int .i64 1, .int .i64 2, .int .i64 3, .int .i64 4, .int .i64 5] 3)) := (Mod.refl _ _).alloc _
  have hK := Has.new w1 #[.int .i64 1, .int .i64 2, .int .i64 3, .int .i64 4, .int .i64 5] 3
  have HP := hide (plays_any (w := w1.alloc (.cells #[.int .i64 1, .int .i64 2, .int .i64 3, .int .i64 4, .int .i64 5] 3)) a1 l.length c1 hn (hlive.mod mA (fun _ _ _ _ x => x)) w1.heap.size 5 [1, 2, 3, 4, 5] (fun q hq => by
      have : q = 0 ∨ q = 1 ∨ q = 2 ∨ q = 3 ∨ q = 4 := by simp at hq; omega
      rw [hK.cell]
      rcases this with rfl | rfl | rfl | rfl | rfl <;> rfl) hK.lt (by simp) false (JX _ _) (JX.start _)
    (fun m W h => by obtain ⟨_, _, _, q⟩ := h; exact q.mod) (fun m W h => by obtain ⟨who, lv, os, q⟩ := h; exact ⟨who, lv, os, q.more⟩) (fun m W W' h hm => by obtain ⟨who, lv, os, q⟩ := h; exact ⟨who, lv, os, q.still hm⟩)
    (fun m W x k ck hm hJ hk hck hin hsw => step_does hJ (by omega) x hk hck (by
        simp [inK] at hin
        omega) (by
        rcases hsw with e | e
        · cases e
        · exact e))
    (fun m W hJ => by
      obtain ⟨who, lv, os, q⟩ := hJ
      exact (whole_any _ 1 W (q.has.cell 1) (q.has.cell 2)).mono fun e w' ⟨he, hw⟩ => ⟨he, by subst hw; exact ⟨who, lv, os, q⟩⟩))
  have MM := hide (hm.trans mA)
  clear HL ho hb hm hlive mA hK
  go_wp2_with fail
  refine (unhide HP).mono ?_
  rintro e w2 ⟨rfl, hm2⟩
  have M2 := hide ((unhide MM).trans hm2)
  clear hm2 HP MM
  go_wp2
  go_ret
  exact ⟨rfl, unhide M2⟩
end Go.Proofs.YtlcbemcamdafjaaGreat
