import Derived.Test.YtlcbemcamdafjaaCfoldedFMapSeat
import Derived.Test.YtlcbemcamdafjaaCfoldedBaseMaps
import Derived.ChangeKeysEq
import Derived.DeepKeys
import Derived.Deep.DeepCutAuto
/- What is left of the classes, reckoned anew from the counts. -/
namespace Go.Proofs.Ytlcbemcamdafjaa
open Go.RowKit
open M
set_option linter.unusedVariables false
set_option linter.unusedSimpArgs false
set_option maxRecDepth 100000

theorem idx40_0 (x0 x1 x2 x3 : Value) (w : World) : (Instr.index 33 (.agg #[x0, x1, x2, x3]) (.int .i64 0)).run Try.prog w = .ok x0 w := by simp [go_sem, Instr.index]
theorem idx40_1 (x0 x1 x2 x3 : Value) (w : World) : (Instr.index 33 (.agg #[x0, x1, x2, x3]) (.int .i64 1)).run Try.prog w = .ok x1 w := by simp [go_sem, Instr.index]
theorem idx40_2 (x0 x1 x2 x3 : Value) (w : World) : (Instr.index 33 (.agg #[x0, x1, x2, x3]) (.int .i64 2)).run Try.prog w = .ok x2 w := by simp [go_sem, Instr.index]
theorem idx40_3 (x0 x1 x2 x3 : Value) (w : World) : (Instr.index 33 (.agg #[x0, x1, x2, x3]) (.int .i64 3)).run Try.prog w = .ok x3 w := by simp [go_sem, Instr.index]
theorem run_min2 (ty : TypeId) (x y : Int) (w : World) : (Builtin.min_ #[3, 3] ty #[.int .i64 x, .int .i64 y]).run Try.prog w = .ok (.int .i64 (min x y)) w := by
  have : (if y < x then y else x) = min x y := by split <;> omega
  simp [Builtin.min_, Builtin.min2, this]
theorem run_max2 (ty : TypeId) (x y : Int) (w : World) : (Builtin.max_ #[3, 3] ty #[.int .i64 x, .int .i64 y]).run Try.prog w = .ok (.int .i64 (max x y)) w := by
  have : (if x < y then y else x) = max x y := by split <;> omega
  simp [Builtin.max_, Builtin.max2, this]
attribute [local go_sem] idx40_0 idx40_1 idx40_2 idx40_3
attribute [local go_sem ↓] run_min2 run_max2

/-- A flight's cells. -/
def fcs (r c f l0 l1 l2 l3 : Int) (m : Value) (a0 a1 a2 a3 b0 b1 b2 b3 s0 s1 s2 s3 e0 e1 e2 e3 ep : Int) : Array Value :=
  #[.int .i64 r, .int .i64 c, .int .i64 f, .int .i64 l0, .int .i64 l1, .int .i64 l2, .int .i64 l3, m, .int .i64 a0, .int .i64 a1, .int .i64 a2, .int .i64 a3,
    .int .i64 b0, .int .i64 b1, .int .i64 b2, .int .i64 b3, .int .i64 s0, .int .i64 s1, .int .i64 s2, .int .i64 s3, .int .i64 e0, .int .i64 e1, .int .i64 e2, .int .i64 e3, .int .i64 ep]

theorem reckon_any (b : Nat) (r c f l0 l1 l2 l3 : Int) (m : Value) (a0 a1 a2 a3 b0 b1 b2 b3 s0 s1 s2 s3 e0 e1 e2 e3 ep : Int) (w : World)
    (h : Has w b (fcs r c f l0 l1 l2 l3 m a0 a1 a2 a3 b0 b1 b2 b3 s0 s1 s2 s3 e0 e1 e2 e3 ep) 121)
    (ha : 0 ≤ a0 ∧ a0 ≤ 1000 ∧ 0 ≤ b0 ∧ b0 ≤ 1000) (hs : 0 ≤ s0 ∧ s0 ≤ 1000 ∧ 0 ≤ s1 ∧ s1 ≤ 1000 ∧ 0 ≤ s2 ∧ s2 ≤ 1000 ∧ 0 ≤ s3 ∧ s3 ≤ 1000)
    (hl : 0 ≤ l0 ∧ l0 ≤ 1000 ∧ 0 ≤ l1 ∧ l1 ≤ 1000 ∧ 0 ≤ l2 ∧ l2 ≤ 1000 ∧ 0 ≤ l3 ∧ l3 ≤ 1000) :
    Calls Try.prog 78 #[.pointer (some ⟨b, 0, none⟩)] w fun e w' => e = .returned (.tuple #[]) ∧ Mod (fun k => k = b) w w' ∧
      Has w' b (fcs r c f l0 l1 l2 l3 m a0 a1 a2 a3 b0 b1 b2 b3 s0 s1 s2 s3
        (max (min (a0 + b0) (l0 - (s0 + s1 + s2 + s3))) 0) (max (min (min (a0 + b0) (l0 - (s0 + s1 + s2 + s3))) (l1 - (s1 + s2 + s3))) 0)
        (max (min (min (min (a0 + b0) (l0 - (s0 + s1 + s2 + s3))) (l1 - (s1 + s2 + s3))) (l2 - (s2 + s3))) 0)
        (max (min (min (min (min (a0 + b0) (l0 - (s0 + s1 + s2 + s3))) (l1 - (s1 + s2 + s3))) (l2 - (s2 + s3))) (l3 - s3)) 0) ep) 121 := by
  have hc := h.cell
  unfold fcs at hc
  have H := hide h
  clear h
  go_enter Try.func78, Try.ntmps78
  go_wp2
  go_loopw [2, 13] (fun n i wr => ((i = .int .i64 0 ∧ n = .int .i64 0) ∨ (i = .int .i64 1 ∧ n = .int .i64 s0) ∨ (i = .int .i64 2 ∧ n = .int .i64 (s0 + s1)) ∨ (i = .int .i64 3 ∧ n = .int .i64 (s0 + s1 + s2)) ∨ (i = .int .i64 4 ∧ n = .int .i64 (s0 + s1 + s2 + s3))) ∧ wr = w) (fun _ i _ => 4 - (intOf i).toNat)
  case atStart => exact ⟨.inl ⟨rfl, rfl⟩, rfl⟩
  case round =>
    obtain ⟨hr, hm⟩ := hrel
    subst hm
    rcases hr with ⟨rfl, rfl⟩ | ⟨rfl, rfl⟩ | ⟨rfl, rfl⟩ | ⟨rfl, rfl⟩ | ⟨rfl, rfl⟩
    · go_wp2
      go_roundw
      · exact ⟨.inr (.inl ⟨rfl, rfl⟩), trivial⟩
      · simp [intOf]
    · go_wp2
      go_roundw
      · exact ⟨.inr (.inr (.inl ⟨rfl, rfl⟩)), trivial⟩
      · simp [intOf]
    · go_wp2
      go_roundw
      · exact ⟨.inr (.inr (.inr (.inl ⟨rfl, rfl⟩))), trivial⟩
      · simp [intOf]
    · go_wp2
      go_roundw
      · exact ⟨.inr (.inr (.inr (.inr ⟨rfl, rfl⟩))), trivial⟩
      · simp [intOf]
    · go_wp2
      go_quiet (fail)
      go_wp2
      have HA := hide ha
      have HS := hide hs
      have HL := hide hl
      clear hc
      generalize hT : s0 + s1 + s2 + s3 = T0 at *
      generalize hA : a0 + b0 = A at *
      have HT := hide hT
      have HAA := hide hA
      have bT : 0 ≤ T0 ∧ T0 ≤ 4000 ∧ 0 ≤ A ∧ A ≤ 2000 := by omega
      clear hT hA
      go_loopw [2, 5, 38] (fun n g i wx => ∃ t q x0 x1 x2 x3 : Int, n = .int .i64 t ∧ g = .int .i64 q ∧ 0 ≤ t ∧ t ≤ 4000 ∧ -5000 ≤ q ∧ q ≤ 5000 ∧ Hid (Has wx b (fcs r c f l0 l1 l2 l3 m a0 a1 a2 a3 b0 b1 b2 b3 s0 s1 s2 s3 x0 x1 x2 x3 ep) 121) ∧ Hid (Mod (fun k => k = b) wr wx) ∧
          ((i = .int .i64 0 ∧ Hid (t = T0 ∧ q = A)) ∨ (i = .int .i64 1 ∧ Hid (t = T0 - s0 ∧ q = min A (l0 - T0) ∧ x0 = max (min A (l0 - T0)) 0)) ∨
           (i = .int .i64 2 ∧ Hid (t = T0 - s0 - s1 ∧ q = min (min A (l0 - T0)) (l1 - (T0 - s0)) ∧ x0 = max (min A (l0 - T0)) 0 ∧ x1 = max (min (min A (l0 - T0)) (l1 - (T0 - s0))) 0)) ∨
           (i = .int .i64 3 ∧ Hid (t = T0 - s0 - s1 - s2 ∧ q = min (min (min A (l0 - T0)) (l1 - (T0 - s0))) (l2 - (T0 - s0 - s1)) ∧ x0 = max (min A (l0 - T0)) 0 ∧ x1 = max (min (min A (l0 - T0)) (l1 - (T0 - s0))) 0 ∧ x2 = max (min (min (min A (l0 - T0)) (l1 - (T0 - s0))) (l2 - (T0 - s0 - s1))) 0)) ∨
           (i = .int .i64 4 ∧ Hid (x0 = max (min A (l0 - T0)) 0 ∧ x1 = max (min (min A (l0 - T0)) (l1 - (T0 - s0))) 0 ∧ x2 = max (min (min (min A (l0 - T0)) (l1 - (T0 - s0))) (l2 - (T0 - s0 - s1))) 0 ∧
              x3 = max (min (min (min (min A (l0 - T0)) (l1 - (T0 - s0))) (l2 - (T0 - s0 - s1))) (l3 - (T0 - s0 - s1 - s2))) 0)))) (fun _ _ i _ => 4 - (intOf i).toNat)
      case atStart => exact ⟨T0, A, e0, e1, e2, e3, rfl, rfl, by omega, by omega, by omega, by omega, H, (Mod.refl _ _).drewN _, .inl ⟨rfl, rfl, rfl⟩⟩
      case round =>
        obtain ⟨t, q, x0, x1, x2, x3, rfl, rfl, t0, t1, q0, q1, hh, hm, hr⟩ := hrel
        have hc := (unhide hh).cell
        have hz := (unhide hh).frozen
        unfold fcs at hc
        rcases hr with ⟨rfl, hr⟩ | ⟨rfl, hr⟩ | ⟨rfl, hr⟩ | ⟨rfl, hr⟩ | ⟨rfl, hr⟩
        · go_wp2
          go_roundw
          · obtain ⟨r1, r2⟩ := unhide hr
            have hs' := unhide HS
            have hT' := unhide HT
            have hset := (unhide hh).set 20 (.int .i64 (max (min q (l0 - t)) 0))
            refine ⟨t - s0, min q (l0 - t), max (min q (l0 - t)) 0, x1, x2, x3, rfl, rfl, by omega, by omega, by omega, by omega, hset, (unhide hm).at 20 _, .inr (.inl ⟨rfl, ?_, ?_, ?_⟩)⟩
            · rw [r1]
            · rw [r1, r2]
            · rw [r1, r2]
          · simp [intOf]
        · go_wp2
          go_roundw
          · obtain ⟨r1, r2, r3⟩ := unhide hr
            have hs' := unhide HS
            have hT' := unhide HT
            have hset := (unhide hh).set 21 (.int .i64 (max (min q (l1 - t)) 0))
            refine ⟨t - s1, min q (l1 - t), x0, max (min q (l1 - t)) 0, x2, x3, rfl, rfl, by omega, by omega, by omega, by omega, hset, (unhide hm).at 21 _, .inr (.inr (.inl ⟨rfl, ?_, ?_, r3, ?_⟩))⟩
            · rw [r1]
            · rw [r1, r2]
            · rw [r1, r2]
          · simp [intOf]
        · go_wp2
          go_roundw
          · obtain ⟨r1, r2, r3, r4⟩ := unhide hr
            have hs' := unhide HS
            have hT' := unhide HT
            have hset := (unhide hh).set 22 (.int .i64 (max (min q (l2 - t)) 0))
            refine ⟨t - s2, min q (l2 - t), x0, x1, max (min q (l2 - t)) 0, x3, rfl, rfl, by omega, by omega, by omega, by omega, hset, (unhide hm).at 22 _, .inr (.inr (.inr (.inl ⟨rfl, ?_, ?_, r3, r4, ?_⟩)))⟩
            · rw [r1]
            · rw [r1, r2]
            · rw [r1, r2]
          · simp [intOf]
        · go_wp2
          go_roundw
          · obtain ⟨r1, r2, r3, r4, r5⟩ := unhide hr
            have hs' := unhide HS
            have hT' := unhide HT
            have hset := (unhide hh).set 23 (.int .i64 (max (min q (l3 - t)) 0))
            refine ⟨t - s3, min q (l3 - t), x0, x1, x2, max (min q (l3 - t)) 0, rfl, rfl, by omega, by omega, by omega, by omega, hset, (unhide hm).at 23 _, .inr (.inr (.inr (.inr ⟨rfl, r3, r4, r5, ?_⟩)))⟩
            rw [r1, r2]
          · simp [intOf]
        · go_wp2
          go_end0
          obtain ⟨r0, r1, r2, r3⟩ := unhide hr
          have hT := unhide HT
          have hA := unhide HAA
          have i1 : s1 + s2 + s3 = T0 - s0 := by omega
          have i2 : s2 + s3 = T0 - s0 - s1 := by omega
          have i3 : s3 = T0 - s0 - s1 - s2 := by omega
          refine ⟨rfl, unhide hm, ?_⟩
          rw [hT, hA, i1, i2]
          have hh := unhide hh
          rw [r0, r1, r2, r3, ← i3] at hh
          exact hh
end Go.Proofs.Ytlcbemcamdafjaa
/- Four numbers are compared with four. -/
namespace Go.Proofs.Ytlcbemcamdafjaa
open Go.RowKit
set_option linter.unusedVariables false
set_option maxRecDepth 100000

def same4 (a0 a1 a2 a3 b0 b1 b2 b3 : Int) : Bool := a0 == b0 && (a1 == b1 && (a2 == b2 && a3 == b3))

theorem part3 (xs : Array Value) (i : Nat) (v : Value) (h : xs[i]? = some v) (w : World) : (part 3 xs i).run Try.prog w = .ok v w := by
  unfold part
  simp [Sem.run_bind, isAgg, run_underlying Try.underlying3, h]

theorem eq_step (n : Nat) (is : List Nat) (xs ys : Array Value) (i : Nat) (x y : Int) (hx : xs[i * 1]? = some (.int .i64 x)) (hy : ys[i * 1]? = some (.int .i64 y)) (w : World) :
    (Op.eqItems (n + 1) 3 1 xs ys (i :: is)).run Try.prog w = if (x == y) = true then (Op.eqItems (n + 1) 3 1 xs ys is).run Try.prog w else .ok false w := by
  have r : (Op.equalIn (n + 1) 3 (.int .i64 x) (.int .i64 y)).run Try.prog w = .ok (x == y) w := run_equalIn_int w n 3 .i64 .i64 x y Try.underlying3
  simp only [Op.eqItems, Sem.run_bind, part3 _ _ _ hx, part3 _ _ _ hy, r, Result.andThen_ok]
  cases x == y
  · rfl
  · rfl

theorem eq4n (n : Nat) (a0 a1 a2 a3 b0 b1 b2 b3 : Int) (w : World) :
    (Op.equalIn (n + 2) 33 (.agg #[.int .i64 a0, .int .i64 a1, .int .i64 a2, .int .i64 a3]) (.agg #[.int .i64 b0, .int .i64 b1, .int .i64 b2, .int .i64 b3])).run Try.prog w = .ok (same4 a0 a1 a2 a3 b0 b1 b2 b3) w := by
  have hi : (Try.prog.info? 3).isSome = true := by kernel_rfl
  obtain ⟨i3, hi⟩ := Option.isSome_iff_exists.1 hi
  have c3 : Try.prog.cellsOf 3 = 1 := by kernel_rfl
  rw [run_equalIn_array w (n + 1) _ _ Try.underlying33 hi, c3]
  rw [show List.range 4 = [0, 1, 2, 3] from rfl]
  unfold same4
  rw [eq_step n _ _ _ 0 a0 b0 rfl rfl, eq_step n _ _ _ 1 a1 b1 rfl rfl, eq_step n _ _ _ 2 a2 b2 rfl rfl, eq_step n _ _ _ 3 a3 b3 rfl rfl]
  cases a0 == b0 <;> cases a1 == b1 <;> cases a2 == b2 <;> cases a3 == b3 <;> rfl
theorem eq40 (a0 a1 a2 a3 b0 b1 b2 b3 : Int) (w : World) :
    (Op.equalIn 9999 33 (.agg #[.int .i64 a0, .int .i64 a1, .int .i64 a2, .int .i64 a3]) (.agg #[.int .i64 b0, .int .i64 b1, .int .i64 b2, .int .i64 b3])).run Try.prog w = .ok (same4 a0 a1 a2 a3 b0 b1 b2 b3) w := eq4n 9997 ..
theorem eq41 (a0 a1 a2 a3 b0 b1 b2 b3 : Int) (w : World) :
    (Op.equalIn 10000 33 (.agg #[.int .i64 a0, .int .i64 a1, .int .i64 a2, .int .i64 a3]) (.agg #[.int .i64 b0, .int .i64 b1, .int .i64 b2, .int .i64 b3])).run Try.prog w = .ok (same4 a0 a1 a2 a3 b0 b1 b2 b3) w := eq4n 9998 ..
theorem guard40 (op : BinOp) (x y : Operand) (xs ys : Array Value) (w : World) : (eqGuard op 33 x y (.agg xs) (.agg ys)).run Try.prog w = .ok () w := by
  have h : Try.prog.eqGuardType Try.prog.depth 33 = false := by kernel_rfl
  unfold eqGuard
  cases op <;> simp [Sem.run, program, h]
theorem neq40 (a0 a1 a2 a3 b0 b1 b2 b3 : Int) (w : World) :
    (binOp .neq 33 (.agg #[.int .i64 a0, .int .i64 a1, .int .i64 a2, .int .i64 a3]) (.agg #[.int .i64 b0, .int .i64 b1, .int .i64 b2, .int .i64 b3])).run Try.prog w = .ok (.bool (!same4 a0 a1 a2 a3 b0 b1 b2 b3)) w := by
  simp only [binOp, Op.equal, Sem.run_bind]
  rw [show Op.maxDepth = 9998 + 2 from rfl, eq4n]
  rfl
theorem same4_self (a0 a1 a2 a3 : Int) : same4 a0 a1 a2 a3 a0 a1 a2 a3 = true := by simp [same4]
end Go.Proofs.Ytlcbemcamdafjaa
/- A seat is written: the map, the counts, what is left. -/
namespace Go.Proofs.Ytlcbemcamdafjaa
open Go.RowKit
open Go.ChangeMaps (setBlock)
open M
set_option linter.unusedVariables false
set_option linter.unusedSimpArgs false
set_option maxRecDepth 100000

def upd (a : Nat → Int) (n : Nat) (v : Int) : Nat → Int := fun j => if j = n then v else a j
/-- A flight's cells, by functions of the state and of the class. -/
def fcf (p : Pla) (m : Value) (a b s e : Nat → Int) : Array Value :=
  fcs p.rows p.cols p.front p.l0 p.l1 p.l2 p.l3 m (a 0) (a 1) (a 2) (a 3) (b 0) (b 1) (b 2) (b 3) (s 0) (s 1) (s 2) (s 3) (e 0) (e 1) (e 2) (e 3) p.ep
def bumpS (n k : Nat) (t : Int) (s : Nat → Int) : Nat → Int := if n = 1 ∨ n = 2 then upd s k (s k + t) else s

theorem fcf_a (p : Pla) (m : Value) (a b s e : Nat → Int) (n : Nat) (hn : n < 4) (v : Int) : (fcf p m a b s e).setIfInBounds (8 + n) (.int .i64 v) = fcf p m (upd a n v) b s e := by
  match n, hn with
  | 0, _ => rfl
  | 1, _ => rfl
  | 2, _ => rfl
  | 3, _ => rfl
theorem fcf_b (p : Pla) (m : Value) (a b s e : Nat → Int) (n : Nat) (hn : n < 4) (v : Int) : (fcf p m a b s e).setIfInBounds (12 + n) (.int .i64 v) = fcf p m a (upd b n v) s e := by
  match n, hn with
  | 0, _ => rfl
  | 1, _ => rfl
  | 2, _ => rfl
  | 3, _ => rfl
theorem fcf_s (p : Pla) (m : Value) (a b s e : Nat → Int) (n : Nat) (hn : n < 4) (v : Int) : (fcf p m a b s e).setIfInBounds (16 + n) (.int .i64 v) = fcf p m a b (upd s n v) e := by
  match n, hn with
  | 0, _ => rfl
  | 1, _ => rfl
  | 2, _ => rfl
  | 3, _ => rfl
theorem fcf_at (p : Pla) (m : Value) (a b s e : Nat → Int) (n : Nat) (hn : n < 4) : (fcf p m a b s e)[8 + n]? = some (.int .i64 (a n)) ∧ (fcf p m a b s e)[12 + n]? = some (.int .i64 (b n)) ∧ (fcf p m a b s e)[16 + n]? = some (.int .i64 (s n)) := by
  match n, hn with
  | 0, _ => exact ⟨rfl, rfl, rfl⟩
  | 1, _ => exact ⟨rfl, rfl, rfl⟩
  | 2, _ => exact ⟨rfl, rfl, rfl⟩
  | 3, _ => exact ⟨rfl, rfl, rfl⟩

/-- The bounds of all counts. -/
def Small (a : Nat → Int) : Prop := ∀ j, j < 4 → -100000 ≤ a j ∧ a j ≤ 100000

theorem tally_any (b n k : Nat) (p : Pla) (m : Value) (fa fb fs fe : Nat → Int) (row col pa un times : Int) (w : World) (h : Has w b (fcf p m fa fb fs fe) 121)
    (hn : n < 4) (hk : k < 4) (ha : Small fa) (hb : Small fb) (hs : Small fs) (bt : -1 ≤ times ∧ times ≤ 1) :
    Calls Try.prog 77 #[.pointer (some ⟨b, 0, none⟩), .agg #[.int .i64 row, .int .i64 col], .agg #[.int .i64 n, .int .i64 pa, .int .i64 k, .int .i64 un], .int .i64 times] w fun e w' =>
      e = .returned (.tuple #[]) ∧ Mod (fun k => k = b) w w' ∧
        Has w' b (fcf p m (if row ≤ p.front then upd fa n (fa n + times) else fa) (if row ≤ p.front then fb else upd fb n (fb n + times)) (bumpS n k times fs) fe) 121 := by
  obtain ⟨ga, gb, gs⟩ := fcf_at p m fa fb fs fe n hn
  have gk := (fcf_at p m fa fb fs fe k hk).2.2
  by_cases hr : row ≤ p.front
  · refine (tally_core b n k 8 _ row col pa un p.front (fa n) (fs k) times w h rfl (.inl ⟨hr, rfl⟩) hn hk ga gk (ha n hn) (hs k hk) bt).mono ?_
    rintro e w' ⟨rfl, hm, hh⟩
    refine ⟨rfl, hm, ?_⟩
    rw [if_pos hr, if_pos hr]
    unfold tallied at hh
    unfold bumpS
    split at hh
    · rename_i h1
      rw [fcf_a _ _ _ _ _ _ _ hn, fcf_s _ _ _ _ _ _ _ hk] at hh
      rw [if_pos h1]
      exact hh
    · rename_i h1
      rw [fcf_a _ _ _ _ _ _ _ hn] at hh
      rw [if_neg h1]
      exact hh
  · refine (tally_core b n k 12 _ row col pa un p.front (fb n) (fs k) times w h rfl (.inr ⟨hr, rfl⟩) hn hk gb gk (hb n hn) (hs k hk) bt).mono ?_
    rintro e w' ⟨rfl, hm, hh⟩
    refine ⟨rfl, hm, ?_⟩
    rw [if_neg hr, if_neg hr]
    unfold tallied at hh
    unfold bumpS
    split at hh
    · rename_i h1
      rw [fcf_b _ _ _ _ _ _ _ hn, fcf_s _ _ _ _ _ _ _ hk] at hh
      rw [if_pos h1]
      exact hh
    · rename_i h1
      rw [fcf_b _ _ _ _ _ _ _ hn] at hh
      rw [if_neg h1]
      exact hh

/-- The counts of a list of seats. -/
def cA (p : Pla) (l : List Sea) : Nat → Int := fun j => nAt p true j l
def cB (p : Pla) (l : List Sea) : Nat → Int := fun j => nAt p false j l
def cS (l : List Sea) : Nat → Int := fun j => nSold j l
def cE (p : Pla) (l : List Sea) : Nat → Int := fun j => M.leftOf p l j
def fcells (p : Pla) (m : Value) (l : List Sea) : Array Value := fcf p m (cA p l) (cB p l) (cS l) (cE p l)

/-- The entries are those of the seats that are not free. -/
structure MapRel (es : List MEnt) (p : Pla) (l : List Sea) : Prop where
  ent : ∀ e ∈ es, p.has e.r e.c = true ∧ e.s ≠ 0
  seat : ∀ i (h : i < l.length), lookE es l[i].row l[i].col = (l[i].st, l[i].pa, l[i].cl, l[i].un)
  size : es.length = l.countP fun s => s.st != 0

/-- A flight in memory. -/
def FlH (w : World) (S : Nat → Prop) (b : Nat) (p : Pla) (l : List Sea) : Prop :=
  ∃ m es clock, Has w b (fcells p (.map (some m)) l) 121 ∧ w.heap[m]? = some (mapObj es clock) ∧ MapOk es clock ∧ MapRel es p l ∧ S b ∧ S m

theorem Mod.map {S : Nat → Prop} {w w' : World} (h : Mod S w w') {m : Nat} {es : List MEnt} {clock : Nat} (hm : w.heap[m]? = some (mapObj es clock)) (hs : ¬ S m) : w'.heap[m]? = some (mapObj es clock) := by
  rw [h.block m (Array.getElem?_eq_some_iff.1 hm).1 hs]; exact hm
theorem FlH.mod {w w' : World} {S S' : Nat → Prop} {b : Nat} {p : Pla} {l : List Sea} (h : FlH w S b p l) (hm : Mod S' w w') (hs : ∀ k, S k → ¬ S' k) : FlH w' S b p l := by
  obtain ⟨m, es, clock, h1, h2, h3, h4, h5, h6⟩ := h
  exact ⟨m, es, clock, hm.has h1 (hs b h5), hm.map h2 (hs m h6), h3, h4, h5, h6⟩
theorem FlH.mod0 {w w' : World} {S : Nat → Prop} {b : Nat} {p : Pla} {l : List Sea} (h : FlH w S b p l) (hm : Mod No w w') : FlH w' S b p l := h.mod hm (fun _ _ x => x)

theorem small_count (l : List Sea) (hl : l.length ≤ 1000) (q : Sea → Bool) : 0 ≤ ((l.countP q : Nat) : Int) ∧ ((l.countP q : Nat) : Int) ≤ 1000 := by
  have := List.countP_le_length (p := q) (l := l)
  omega

theorem Has.map_ne {w : World} {b m : Nat} {cs : Array Value} {T : TypeId} {es : List MEnt} {clock : Nat} (h : Has w b cs T) (hm : w.heap[m]? = some (mapObj es clock)) : m ≠ b := by
  rintro rfl
  unfold Has at h
  rw [h] at hm
  simp [mapObj] at hm

theorem setBlock_has {w : World} {b m : Nat} {cs : Array Value} {T : TypeId} (h : Has w b cs T) (hne : m ≠ b) (o : Obj) : Has (setBlock w m o) b cs T := by
  unfold Has at h ⊢
  simp [setBlock, Array.getElem?_setIfInBounds, hne, h]
theorem setBlock_at {w : World} {m : Nat} (h : m < w.heap.size) (o' : Obj) : (setBlock w m o').heap[m]? = some o' := by
  simp [setBlock, Array.getElem?_setIfInBounds, h]
theorem Mod.setBlock {S : Nat → Prop} {a w : World} (h : Mod S a w) {m : Nat} (hm : S m ∨ a.heap.size ≤ m) (o : Obj) : Mod S a (setBlock w m o) := by
  refine h.trans' (S' := fun k => k = m) ⟨rfl, rfl, rfl, by simp [ChangeMaps.setBlock], fun k hk hne => ?_⟩ (fun i hi hl => by subst hi; rcases hm with h | h; exact h; omega)
  simp [ChangeMaps.setBlock, Array.getElem?_setIfInBounds]
  intro e
  exact absurd e.symm hne

set_option maxHeartbeats 4000000 in
theorem put_walk (b m n k n' k' : Nat) (p : Pla) (fa fb fs fe fa1 fb1 fs1 fa2 fb2 fs2 fe2 : Nat → Int) (r c pa un pa' un' : Int) (w : World) (es es' : List MEnt) (clock clock' : Nat) (h : Has w b (fcf p (.map (some m)) fa fb fs fe) 121)
    (hmap : w.heap[m]? = some (mapObj es clock))
    (hL : ∀ W : World, W.heap[m]? = some (mapObj es clock) → (Instr.lookup 119 (.map (some m)) (.agg #[.int .i64 r, .int .i64 c]) false).run Try.prog W = .ok (.agg #[.int .i64 n, .int .i64 pa, .int .i64 k, .int .i64 un]) W)
    (hD : n' = 0 → ∀ (W : World) ty, W.heap[m]? = some (mapObj es clock) → (Builtin.delete_ #[119, 32] ty #[.map (some m), .agg #[.int .i64 r, .int .i64 c]]).run Try.prog W = .ok (.tuple #[]) (setBlock W m (mapObj es' clock')))
    (hU : n' ≠ 0 → ∀ W : World, W.heap[m]? = some (mapObj es clock) → (Instr.mapUpdate 119 (.map (some m)) (.agg #[.int .i64 r, .int .i64 c]) (.agg #[.int .i64 n', .int .i64 pa', .int .i64 k', .int .i64 un'])).run Try.prog W = .ok () (setBlock W m (mapObj es' clock')))
    (hT1 : ∀ W, Has W b (fcf p (.map (some m)) fa fb fs fe) 121 → Calls Try.prog 77 #[.pointer (some ⟨b, 0, none⟩), .agg #[.int .i64 r, .int .i64 c], .agg #[.int .i64 n, .int .i64 pa, .int .i64 k, .int .i64 un], .int .i64 (-1)] W fun e w' => e = .returned (.tuple #[]) ∧ Mod (fun k => k = b) W w' ∧ Has w' b (fcf p (.map (some m)) fa1 fb1 fs1 fe) 121)
    (hT2 : ∀ W, Has W b (fcf p (.map (some m)) fa1 fb1 fs1 fe) 121 → Calls Try.prog 77 #[.pointer (some ⟨b, 0, none⟩), .agg #[.int .i64 r, .int .i64 c], .agg #[.int .i64 n', .int .i64 pa', .int .i64 k', .int .i64 un'], .int .i64 1] W fun e w' => e = .returned (.tuple #[]) ∧ Mod (fun k => k = b) W w' ∧ Has w' b (fcf p (.map (some m)) fa2 fb2 fs2 fe) 121)
    (hR : ∀ W, Has W b (fcf p (.map (some m)) fa2 fb2 fs2 fe) 121 → Calls Try.prog 78 #[.pointer (some ⟨b, 0, none⟩)] W fun e w' => e = .returned (.tuple #[]) ∧ Mod (fun k => k = b) W w' ∧ Has w' b (fcf p (.map (some m)) fa2 fb2 fs2 fe2) 121) :
    Calls Try.prog 75 #[.pointer (some ⟨b, 0, none⟩), .agg #[.int .i64 r, .int .i64 c], .agg #[.int .i64 n', .int .i64 pa', .int .i64 k', .int .i64 un']] w fun e w' =>
      e = .returned (.tuple #[]) ∧ Mod (fun k => k = b ∨ k = m) w w' ∧ Has w' b (fcf p (.map (some m)) fa2 fb2 fs2 fe2) 121 ∧ w'.heap[m]? = some (mapObj es' clock') := by
  have hmb := h.map_ne hmap
  have hlt := h.lt
  have c7 := h.cell 7
  rw [show (fcf p (.map (some m)) fa fb fs fe)[7]? = some (.map (some m)) from rfl] at c7
  have hL' := hL (((w.alloc (.cells #[.int .i64 r, .int .i64 c] 32)).alloc (.cells #[.int .i64 n', .int .i64 pa', .int .i64 k', .int .i64 un'] 143))).drew (by
    have := Mod.map (Mod.refl No w |>.alloc (.cells #[.int .i64 r, .int .i64 c] 32) |>.alloc (.cells #[.int .i64 n', .int .i64 pa', .int .i64 k', .int .i64 un'] 143) |>.drew) hmap (fun x => x)
    exact this)
  have H := hide h
  have HM := hide hmap
  have HD := hide hD
  have HU := hide hU
  have HT1 := hide hT1
  have HT2 := hide hT2
  have HR := hide hR
  have HMB := hide hmb
  clear h hmap hL hD hU hT1 hT2 hR hmb
  go_enter Try.func75, Try.ntmps75
  go_wp2_with fail
  go_cut [] (fun wx => Hid (Has wx b (fcf p (.map (some m)) fa1 fb1 fs1 fe) 121) ∧ Hid (Mod (fun k => k = b) ((w.alloc (.cells #[.int .i64 r, .int .i64 c] 32)).alloc (.cells #[.int .i64 n', .int .i64 pa', .int .i64 k', .int .i64 un'] 143)) wx))
  case first =>
    go_region_with (go_at_call 77; refine ((unhide HT1) _ ?_).mono ?_; exact (((unhide H).alloc _).alloc _).drew; rintro e w3 ⟨rfl, hm3, hh3⟩)
    all_goals go_wp2
    all_goals go_meet
    all_goals exact ⟨hh3, (Mod.refl _ _).drew.trans hm3⟩
  case rest =>
    obtain ⟨h3, m3⟩ := hcut
    have hmap := unhide HM
    have hmb := unhide HMB
    have hml := (Array.getElem?_eq_some_iff.1 hmap).1
    have mw : Mod No w ((w.alloc (.cells #[.int .i64 r, .int .i64 c] 32)).alloc (.cells #[.int .i64 n', .int .i64 pa', .int .i64 k', .int .i64 un'] 143)) := ((Mod.refl _ w).alloc _).alloc _
    have B1 : Has ((w.alloc (.cells #[.int .i64 r, .int .i64 c] 32)).alloc (.cells #[.int .i64 n', .int .i64 pa', .int .i64 k', .int .i64 un'] 143)) w.heap.size #[.int .i64 r, .int .i64 c] 32 := (Has.new w _ _).alloc _
    have B2 : Has ((w.alloc (.cells #[.int .i64 r, .int .i64 c] 32)).alloc (.cells #[.int .i64 n', .int .i64 pa', .int .i64 k', .int .i64 un'] 143)) (w.heap.size + 1) #[.int .i64 n', .int .i64 pa', .int .i64 k', .int .i64 un'] 143 := by
      have := Has.new (w.alloc (.cells #[.int .i64 r, .int .i64 c] 32)) #[.int .i64 n', .int .i64 pa', .int .i64 k', .int .i64 un'] 143
      rwa [World.size_alloc] at this
    have nb1 : ∀ k, k = b → k ≠ w.heap.size ∧ k ≠ w.heap.size + 1 := fun k hk => by omega
    have b1 := (unhide m3).has B1 (fun e => by have := (nb1 _ e).1; omega)
    have b2 := (unhide m3).has B2 (fun e => by have := (nb1 _ e).2; omega)
    have hm3 := (unhide m3).map (mw.map hmap (fun x => x)) (fun e => hmb e)
    have M0 : Mod (fun k => k = b) w wc := (mw.mono (fun _ _ x => x.elim)).trans (unhide m3)
    generalize hg1 : w.heap.size = g1 at *
    generalize hg2 : g1 + 1 = g2 at *
    have c1 := b1.cell
    have c2 := b2.cell
    have MW := hide M0
    have BB1 := hide b1
    have BB2 := hide b2
    have HM3 := hide hm3
    have NB := hide nb1
    have HG1 := hide hg1
    have HG2 := hide hg2
    clear B1 B2 b1 b2 mw hm3 hmap hmb nb1 M0 m3 hg1 hg2 c7 hL' hlt
    go_wp2_with fail
    refine ((unhide HT2) _ (unhide h3)).mono ?_
    rintro e w4 ⟨rfl, m4, h4⟩
    have b1 := m4.has (unhide BB1) (fun e => by have := ((unhide NB) _ e).1; omega)
    have b2 := m4.has (unhide BB2) (fun e => by have := ((unhide NB) _ e).2; omega)
    have hm4 := m4.map (unhide HM3) (fun e => (unhide HMB) e)
    have MW4 := hide ((unhide MW).trans m4)
    have H4 := hide h4
    have HM4 := hide hm4
    have hml4 := (Array.getElem?_eq_some_iff.1 hm4).1
    have c7 := h4.cell 7
    rw [show (fcf p (.map (some m)) fa2 fb2 fs2 fe)[7]? = some (.map (some m)) from rfl] at c7
    clear c1 c2
    have c1 := b1.cell
    have c2 := b2.cell
    clear h4 b1 b2 m4 hm4 MW BB1 BB2 HM3 h3
    by_cases hn0 : n' = 0
    · subst hn0
      have hD := (unhide HD) rfl w4.drew
      have HDD := fun ty => hD ty (unhide HM4)
      clear hD
      rw [show (((0 : Nat) : Int)) = 0 from rfl] at *
      go_wp2_with fail
      go_region
      all_goals
        go_wp2_with fail
        refine ((unhide HR) _ ?_).mono ?_
        · exact setBlock_has (Has.drew (unhide H4)) (unhide HMB) _
        rintro e w5 ⟨rfl, m5, h5⟩
        go_wp2
        go_end0
        have ml : m < w4.drew.heap.size := hml4
        refine ⟨rfl, (((unhide MW4).drew.mono (fun _ _ x => .inl x)).setBlock (.inl (.inr rfl)) _).trans (m5.mono (fun _ _ x => .inl x)), h5, m5.map (setBlock_at ml _) (fun e => (unhide HMB) e)⟩
    · have hn0' : ((n' : Int) == 0) = false := by simp; omega
      have hU := (unhide HU) hn0 w4.drew (unhide HM4)
      have HN0 := hide hn0
      clear hn0
      go_wp2_with fail
      go_region
      all_goals
        go_wp2_with fail
        refine ((unhide HR) _ ?_).mono ?_
        · exact setBlock_has (Has.drew (unhide H4)) (unhide HMB) _
        rintro e w5 ⟨rfl, m5, h5⟩
        go_wp2
        go_end0
        have ml : m < w4.drew.heap.size := hml4
        refine ⟨rfl, (((unhide MW4).drew.mono (fun _ _ x => .inl x)).setBlock (.inl (.inr rfl)) _).trans (m5.mono (fun _ _ x => .inl x)), h5, m5.map (setBlock_at ml _) (fun e => (unhide HMB) e)⟩
end Go.Proofs.Ytlcbemcamdafjaa
