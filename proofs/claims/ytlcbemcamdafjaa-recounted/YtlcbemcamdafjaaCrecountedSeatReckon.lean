import Derived.Test.YtlcbemcamdafjaaCrecountedMaps2
import Derived.Test.YtlcbemcamdafjaaCrecountedCellsTape
/- A flight's counts: one seat more or less; what is left, reckoned. -/
namespace Go.Proofs.Ytlcbemcamdafjaa
open Go.RowKit
open M
set_option linter.unusedVariables false
set_option linter.unusedSimpArgs false
set_option maxRecDepth 100000

theorem sold_any (n : Nat) (pa cl un : Int) (w : World) :
    Calls Try.prog 76 #[.agg #[.int .i64 n, .int .i64 pa, .int .i64 cl, .int .i64 un]] w fun e w' => e = .returned (.bool (decide (n = 1 ∨ n = 2))) ∧ Mod No w w' := by
  by_cases h1 : n = 1
  · subst h1
    go_enter Try.func76, Try.ntmps76
    go_wp2
    go_ret
    exact ⟨rfl, (Mod.refl _ _).alloc _⟩
  · have h1' : ((n : Int) == 1) = false := by simp; omega
    by_cases h2 : n = 2
    · subst h2
      go_enter Try.func76, Try.ntmps76
      go_wp2
      go_ret
      exact ⟨rfl, (Mod.refl _ _).alloc _⟩
    · have h2' : ((n : Int) == 2) = false := by simp; omega
      go_enter Try.func76, Try.ntmps76
      go_wp2
      go_ret
      exact ⟨by simp [h1, h2, h1', h2'], (Mod.refl _ _).alloc _⟩

/-- A store into the one block. -/
theorem Mod.at {a w : World} {b : Nat} (h : Mod (fun k => k = b) a w) (o : Nat) (v : Value) : Mod (fun k => k = b) a (w.setCell ⟨b, o, none⟩ v) := Mod.setCell (S := fun k => k = b) h (p := ⟨b, o, none⟩) (.inl rfl) v

/-- The counts, a seat more or less. -/
def tallied (cs : Array Value) (base n k : Nat) (x y times : Int) : Array Value :=
  if n = 1 ∨ n = 2 then (cs.setIfInBounds (base + n) (.int .i64 (x + times))).setIfInBounds (16 + k) (.int .i64 (y + times)) else cs.setIfInBounds (base + n) (.int .i64 (x + times))

theorem tally_core (b n k base : Nat) (cs : Array Value) (row col pa un front x y times : Int) (w : World) (h : Has w b cs 121) (h2 : cs[2]? = some (.int .i64 front))
    (hbase : (row ≤ front ∧ base = 8) ∨ (¬ row ≤ front ∧ base = 12)) (hn : n < 4) (hk : k < 4)
    (hx : cs[base + n]? = some (.int .i64 x)) (hy : cs[16 + k]? = some (.int .i64 y)) (bx : -100000 ≤ x ∧ x ≤ 100000) (by_ : -100000 ≤ y ∧ y ≤ 100000) (bt : -1 ≤ times ∧ times ≤ 1) :
    Calls Try.prog 77 #[.pointer (some ⟨b, 0, none⟩), .agg #[.int .i64 row, .int .i64 col], .agg #[.int .i64 n, .int .i64 pa, .int .i64 k, .int .i64 un], .int .i64 times] w fun e w' =>
      e = .returned (.tuple #[]) ∧ Mod (· = b) w w' ∧
        Has w' b (tallied cs base n k x y times) 121 := by
  have hlt := h.lt
  have c2 := h.cell 2
  have cx := h.cell (base + n)
  have cy := h.cell (16 + k)
  have hz := h.frozen
  rw [h2] at c2
  rw [hx] at cx
  rw [hy] at cy
  have H := hide h
  have w1 := wrap_id (x + times) (by omega) (by omega)
  have HY := hide hy
  clear h h2 hx hy
  have hn' : (n : Int) < 4 := by omega
  have hk' : (k : Int) < 4 := by omega
  rcases hbase with ⟨hr, rfl⟩ | ⟨hr, rfl⟩
  · go_enter Try.func77, Try.ntmps77
    go_wp2
    go_quiet (fail)
    go_wp2
    go_region
    go_wp2_with fail
    refine (sold_any n pa k un _).mono ?_
    rintro e w3 ⟨rfl, hm⟩
    have hb3 : Has w3 b (cs.setIfInBounds (8 + n) (.int .i64 (x + times))) 121 := hm.has (((((unhide H).alloc _).alloc _).drewN (nq + 1)).set (8 + n) _) (fun x => x)
    have hs0 : Has w3 (w.heap.size + 1) #[.int .i64 n, .int .i64 pa, .int .i64 k, .int .i64 un] 143 :=
      hm.has (Has.set_ne (Has.drewN (by have := Has.new (w.alloc (.cells #[.int .i64 row, .int .i64 col] 32)) #[.int .i64 n, .int .i64 pa, .int .i64 k, .int .i64 un] 143; rwa [World.size_alloc] at this) (nq + 1)) (by simp; omega) _) (fun x => x)
    have m3 : Mod (· = b) w w3 := ((((((Mod.refl _ w).alloc _).alloc _).drewN (nq + 1)).at (8 + n) _)).trans (hm.mono (fun _ _ x => x.elim))
    have y3 := hb3.cell (16 + k)
    have z3 := hb3.frozen
    have s3 := hs0.cell 2
    rw [Array.getElem?_setIfInBounds, if_neg (by omega), (unhide HY)] at y3
    simp only [List.getElem?_toArray, List.getElem?_cons_succ, List.getElem?_cons_zero] at s3
    have HB3 := hide hb3
    have M3 := hide m3
    clear hm hb3 hs0 m3 c2 cx cy hz w1
    by_cases hst : n = 1 ∨ n = 2
    · have hd : decide (n = 1 ∨ n = 2) = true := decide_eq_true hst
      rw [hd]
      have HST := hide hst
      clear hst hd
      have w2 := wrap_id (y + times) (by omega) (by omega)
      go_wp2_with fail
      go_region
      go_wp2
      go_end0
      refine ⟨rfl, ((unhide M3).at (16 + k) _).drew, ?_⟩
      unfold tallied
      rw [if_pos (unhide HST)]
      exact (unhide HB3).set (16 + k) _
    · have hd : decide (n = 1 ∨ n = 2) = false := decide_eq_false hst
      rw [hd]
      have HST := hide hst
      clear hst hd
      go_wp2
      go_end0
      refine ⟨rfl, unhide M3, ?_⟩
      unfold tallied
      rw [if_neg (unhide HST)]
      exact unhide HB3
  · go_enter Try.func77, Try.ntmps77
    go_wp2
    go_quiet (fail)
    go_wp2
    go_region
    go_wp2_with fail
    refine (sold_any n pa k un _).mono ?_
    rintro e w3 ⟨rfl, hm⟩
    have hb3 : Has w3 b (cs.setIfInBounds (12 + n) (.int .i64 (x + times))) 121 := hm.has (((((unhide H).alloc _).alloc _).drewN (nq + 1)).set (12 + n) _) (fun x => x)
    have hs0 : Has w3 (w.heap.size + 1) #[.int .i64 n, .int .i64 pa, .int .i64 k, .int .i64 un] 143 :=
      hm.has (Has.set_ne (Has.drewN (by have := Has.new (w.alloc (.cells #[.int .i64 row, .int .i64 col] 32)) #[.int .i64 n, .int .i64 pa, .int .i64 k, .int .i64 un] 143; rwa [World.size_alloc] at this) (nq + 1)) (by simp; omega) _) (fun x => x)
    have m3 : Mod (· = b) w w3 := ((((((Mod.refl _ w).alloc _).alloc _).drewN (nq + 1)).at (12 + n) _)).trans (hm.mono (fun _ _ x => x.elim))
    have y3 := hb3.cell (16 + k)
    have z3 := hb3.frozen
    have s3 := hs0.cell 2
    rw [Array.getElem?_setIfInBounds, if_neg (by omega), (unhide HY)] at y3
    simp only [List.getElem?_toArray, List.getElem?_cons_succ, List.getElem?_cons_zero] at s3
    have HB3 := hide hb3
    have M3 := hide m3
    clear hm hb3 hs0 m3 c2 cx cy hz w1
    by_cases hst : n = 1 ∨ n = 2
    · have hd : decide (n = 1 ∨ n = 2) = true := decide_eq_true hst
      rw [hd]
      have HST := hide hst
      clear hst hd
      have w2 := wrap_id (y + times) (by omega) (by omega)
      go_wp2_with fail
      go_region
      go_wp2
      go_end0
      refine ⟨rfl, ((unhide M3).at (16 + k) _).drew, ?_⟩
      unfold tallied
      rw [if_pos (unhide HST)]
      exact (unhide HB3).set (16 + k) _
    · have hd : decide (n = 1 ∨ n = 2) = false := decide_eq_false hst
      rw [hd]
      have HST := hide hst
      clear hst hd
      go_wp2
      go_end0
      refine ⟨rfl, unhide M3, ?_⟩
      unfold tallied
      rw [if_neg (unhide HST)]
      exact unhide HB3
end Go.Proofs.Ytlcbemcamdafjaa
/- What is left of the classes, reckoned anew from the counts. -/
namespace Go.Proofs.Ytlcbemcamdafjaa
open Go.RowKit
open M
set_option linter.unusedVariables false
set_option linter.unusedSimpArgs false
set_option maxRecDepth 100000

theorem idx40_0 (x0 x1 x2 x3 : Value) (w : World) : (Instr.index 33 (.agg #[x0, x1, x2, x3]) (.int .i64 0)).run Try.prog w = .ok x0 w := by simp [go_sem, Instr.index]
theorem idx40_1 (x0 x1 x2 x3 : Value) (w : World) : (Instr.index 33 (.agg #[x0, x1, x2, x3]) (.int .i64 1)).run Try.prog w = .ok x1 w := by simp [go_sem, Instr.index]
theorem idx40_2 (x0 x1 x2 x3 : Value) (w : World) : (Instr.index 33 (.agg #[x0, x1, x2, x3]) (.int .i64 2)).run Try.prog w = .ok x2 w := by simp [go_sem, Instr.index]
theorem idx40_3 (x0 x1 x2 x3 : Value) (w : World) : (Instr.index 33 (.agg #[x0, x1, x2, x3]) (.int .i64 3)).run Try.prog w = .ok x3 w := by simp [go_sem, Instr.index]
theorem run_min2 (ty : TypeId) (x y : Int) (w : World) : (Builtin.min_ #[3, 3] ty #[.int .i64 x, .int .i64 y]).run Try.prog w = .ok (.int .i64 (min x y)) w := by
  have : (if y < x then y else x) = min x y := by split <;> omega
  simp [Builtin.min_, Builtin.min2, this]
theorem run_max2 (ty : TypeId) (x y : Int) (w : World) : (Builtin.max_ #[3, 3] ty #[.int .i64 x, .int .i64 y]).run Try.prog w = .ok (.int .i64 (max x y)) w := by
  have : (if x < y then y else x) = max x y := by split <;> omega
  simp [Builtin.max_, Builtin.max2, this]
attribute [local go_sem] idx40_0 idx40_1 idx40_2 idx40_3
attribute [local go_sem ↓] run_min2 run_max2

/-- A flight's cells. -/
def fcs (r c f l0 l1 l2 l3 : Int) (m : Value) (a0 a1 a2 a3 b0 b1 b2 b3 s0 s1 s2 s3 e0 e1 e2 e3 ep : Int) : Array Value :=
  #[.int .i64 r, .int .i64 c, .int .i64 f, .int .i64 l0, .int .i64 l1, .int .i64 l2, .int .i64 l3, m, .int .i64 a0, .int .i64 a1, .int .i64 a2, .int .i64 a3,
    .int .i64 b0, .int .i64 b1, .int .i64 b2, .int .i64 b3, .int .i64 s0, .int .i64 s1, .int .i64 s2, .int .i64 s3, .int .i64 e0, .int .i64 e1, .int .i64 e2, .int .i64 e3, .int .i64 ep]

theorem reckon_any (b : Nat) (r c f l0 l1 l2 l3 : Int) (m : Value) (a0 a1 a2 a3 b0 b1 b2 b3 s0 s1 s2 s3 e0 e1 e2 e3 ep : Int) (w : World)
    (h : Has w b (fcs r c f l0 l1 l2 l3 m a0 a1 a2 a3 b0 b1 b2 b3 s0 s1 s2 s3 e0 e1 e2 e3 ep) 121)
    (ha : 0 ≤ a0 ∧ a0 ≤ 1000 ∧ 0 ≤ b0 ∧ b0 ≤ 1000) (hs : 0 ≤ s0 ∧ s0 ≤ 1000 ∧ 0 ≤ s1 ∧ s1 ≤ 1000 ∧ 0 ≤ s2 ∧ s2 ≤ 1000 ∧ 0 ≤ s3 ∧ s3 ≤ 1000)
    (hl : 0 ≤ l0 ∧ l0 ≤ 1000 ∧ 0 ≤ l1 ∧ l1 ≤ 1000 ∧ 0 ≤ l2 ∧ l2 ≤ 1000 ∧ 0 ≤ l3 ∧ l3 ≤ 1000) :
    Calls Try.prog 78 #[.pointer (some ⟨b, 0, none⟩)] w fun e w' => e = .returned (.tuple #[]) ∧ Mod (fun k => k = b) w w' ∧
      Has w' b (fcs r c f l0 l1 l2 l3 m a0 a1 a2 a3 b0 b1 b2 b3 s0 s1 s2 s3
        (max (min (a0 + b0) (l0 - (s0 + s1 + s2 + s3))) 0) (max (min (min (a0 + b0) (l0 - (s0 + s1 + s2 + s3))) (l1 - (s1 + s2 + s3))) 0)
        (max (min (min (min (a0 + b0) (l0 - (s0 + s1 + s2 + s3))) (l1 - (s1 + s2 + s3))) (l2 - (s2 + s3))) 0)
        (max (min (min (min (min (a0 + b0) (l0 - (s0 + s1 + s2 + s3))) (l1 - (s1 + s2 + s3))) (l2 - (s2 + s3))) (l3 - s3)) 0) ep) 121 := by
  have hc := h.cell
  unfold fcs at hc
  have H := hide h
  clear h
  go_enter Try.func78, Try.ntmps78
  go_wp2
  go_loopw [2, 13] (fun n i wr => ((i = .int .i64 0 ∧ n = .int .i64 0) ∨ (i = .int .i64 1 ∧ n = .int .i64 s0) ∨ (i = .int .i64 2 ∧ n = .int .i64 (s0 + s1)) ∨ (i = .int .i64 3 ∧ n = .int .i64 (s0 + s1 + s2)) ∨ (i = .int .i64 4 ∧ n = .int .i64 (s0 + s1 + s2 + s3))) ∧ wr = w) (fun _ i _ => 4 - (intOf i).toNat)
  case atStart => exact ⟨.inl ⟨rfl, rfl⟩, rfl⟩
  case round =>
    obtain ⟨hr, hm⟩ := hrel
    subst hm
    rcases hr with ⟨rfl, rfl⟩ | ⟨rfl, rfl⟩ | ⟨rfl, rfl⟩ | ⟨rfl, rfl⟩ | ⟨rfl, rfl⟩
    · go_wp2
      go_roundw
      · exact ⟨.inr (.inl ⟨rfl, rfl⟩), trivial⟩
      · simp [intOf]
    · go_wp2
      go_roundw
      · exact ⟨.inr (.inr (.inl ⟨rfl, rfl⟩)), trivial⟩
      · simp [intOf]
    · go_wp2
      go_roundw
      · exact ⟨.inr (.inr (.inr (.inl ⟨rfl, rfl⟩))), trivial⟩
      · simp [intOf]
    · go_wp2
      go_roundw
      · exact ⟨.inr (.inr (.inr (.inr ⟨rfl, rfl⟩))), trivial⟩
      · simp [intOf]
    · go_wp2
      go_quiet (fail)
      go_wp2
      have HA := hide ha
      have HS := hide hs
      have HL := hide hl
      clear hc
      generalize hT : s0 + s1 + s2 + s3 = T0 at *
      generalize hA : a0 + b0 = A at *
      have HT := hide hT
      have HAA := hide hA
      have bT : 0 ≤ T0 ∧ T0 ≤ 4000 ∧ 0 ≤ A ∧ A ≤ 2000 := by omega
      clear hT hA
      go_loopw [2, 5, 38] (fun n g i wx => ∃ t q x0 x1 x2 x3 : Int, n = .int .i64 t ∧ g = .int .i64 q ∧ 0 ≤ t ∧ t ≤ 4000 ∧ -5000 ≤ q ∧ q ≤ 5000 ∧ Hid (Has wx b (fcs r c f l0 l1 l2 l3 m a0 a1 a2 a3 b0 b1 b2 b3 s0 s1 s2 s3 x0 x1 x2 x3 ep) 121) ∧ Hid (Mod (fun k => k = b) wr wx) ∧
          ((i = .int .i64 0 ∧ Hid (t = T0 ∧ q = A)) ∨ (i = .int .i64 1 ∧ Hid (t = T0 - s0 ∧ q = min A (l0 - T0) ∧ x0 = max (min A (l0 - T0)) 0)) ∨
           (i = .int .i64 2 ∧ Hid (t = T0 - s0 - s1 ∧ q = min (min A (l0 - T0)) (l1 - (T0 - s0)) ∧ x0 = max (min A (l0 - T0)) 0 ∧ x1 = max (min (min A (l0 - T0)) (l1 - (T0 - s0))) 0)) ∨
           (i = .int .i64 3 ∧ Hid (t = T0 - s0 - s1 - s2 ∧ q = min (min (min A (l0 - T0)) (l1 - (T0 - s0))) (l2 - (T0 - s0 - s1)) ∧ x0 = max (min A (l0 - T0)) 0 ∧ x1 = max (min (min A (l0 - T0)) (l1 - (T0 - s0))) 0 ∧ x2 = max (min (min (min A (l0 - T0)) (l1 - (T0 - s0))) (l2 - (T0 - s0 - s1))) 0)) ∨
           (i = .int .i64 4 ∧ Hid (x0 = max (min A (l0 - T0)) 0 ∧ x1 = max (min (min A (l0 - T0)) (l1 - (T0 - s0))) 0 ∧ x2 = max (min (min (min A (l0 - T0)) (l1 - (T0 - s0))) (l2 - (T0 - s0 - s1))) 0 ∧
              x3 = max (min (min (min (min A (l0 - T0)) (l1 - (T0 - s0))) (l2 - (T0 - s0 - s1))) (l3 - (T0 - s0 - s1 - s2))) 0)))) (fun _ _ i _ => 4 - (intOf i).toNat)
      case atStart => exact ⟨T0, A, e0, e1, e2, e3, rfl, rfl, by omega, by omega, by omega, by omega, H, (Mod.refl _ _).drewN _, .inl ⟨rfl, rfl, rfl⟩⟩
      case round =>
        obtain ⟨t, q, x0, x1, x2, x3, rfl, rfl, t0, t1, q0, q1, hh, hm, hr⟩ := hrel
        have hc := (unhide hh).cell
        have hz := (unhide hh).frozen
        unfold fcs at hc
        rcases hr with ⟨rfl, hr⟩ | ⟨rfl, hr⟩ | ⟨rfl, hr⟩ | ⟨rfl, hr⟩ | ⟨rfl, hr⟩
        · go_wp2
          go_roundw
          · obtain ⟨r1, r2⟩ := unhide hr
            have hs' := unhide HS
            have hT' := unhide HT
            have hset := (unhide hh).set 20 (.int .i64 (max (min q (l0 - t)) 0))
            refine ⟨t - s0, min q (l0 - t), max (min q (l0 - t)) 0, x1, x2, x3, rfl, rfl, by omega, by omega, by omega, by omega, hset, (unhide hm).at 20 _, .inr (.inl ⟨rfl, ?_, ?_, ?_⟩)⟩
            · rw [r1]
            · rw [r1, r2]
            · rw [r1, r2]
          · simp [intOf]
        · go_wp2
          go_roundw
          · obtain ⟨r1, r2, r3⟩ := unhide hr
            have hs' := unhide HS
            have hT' := unhide HT
            have hset := (unhide hh).set 21 (.int .i64 (max (min q (l1 - t)) 0))
            refine ⟨t - s1, min q (l1 - t), x0, max (min q (l1 - t)) 0, x2, x3, rfl, rfl, by omega, by omega, by omega, by omega, hset, (unhide hm).at 21 _, .inr (.inr (.inl ⟨rfl, ?_, ?_, r3, ?_⟩))⟩
            · rw [r1]
            · rw [r1, r2]
            · rw [r1, r2]
          · simp [intOf]
        · go_wp2
          go_roundw
          · obtain ⟨r1, r2, r3, r4⟩ := unhide hr
            have hs' := unhide HS
            have hT' := unhide HT
            have hset := (unhide hh).set 22 (.int .i64 (max (min q (l2 - t)) 0))
            refine ⟨t - s2, min q (l2 - t), x0, x1, max (min q (l2 - t)) 0, x3, rfl, rfl, by omega, by omega, by omega, by omega, hset, (unhide hm).at 22 _, .inr (.inr (.inr (.inl ⟨rfl, ?_, ?_, r3, r4, ?_⟩)))⟩
            · rw [r1]
            · rw [r1, r2]
            · rw [r1, r2]
          · simp [intOf]
        · go_wp2
          go_roundw
          · obtain ⟨r1, r2, r3, r4, r5⟩ := unhide hr
            have hs' := unhide HS
            have hT' := unhide HT
            have hset := (unhide hh).set 23 (.int .i64 (max (min q (l3 - t)) 0))
            refine ⟨t - s3, min q (l3 - t), x0, x1, x2, max (min q (l3 - t)) 0, rfl, rfl, by omega, by omega, by omega, by omega, hset, (unhide hm).at 23 _, .inr (.inr (.inr (.inr ⟨rfl, r3, r4, r5, ?_⟩)))⟩
            rw [r1, r2]
          · simp [intOf]
        · go_wp2
          go_end0
          obtain ⟨r0, r1, r2, r3⟩ := unhide hr
          have hT := unhide HT
          have hA := unhide HAA
          have i1 : s1 + s2 + s3 = T0 - s0 := by omega
          have i2 : s2 + s3 = T0 - s0 - s1 := by omega
          have i3 : s3 = T0 - s0 - s1 - s2 := by omega
          refine ⟨rfl, unhide hm, ?_⟩
          rw [hT, hA, i1, i2]
          have hh := unhide hh
          rw [r0, r1, r2, r3, ← i3] at hh
          exact hh
end Go.Proofs.Ytlcbemcamdafjaa
