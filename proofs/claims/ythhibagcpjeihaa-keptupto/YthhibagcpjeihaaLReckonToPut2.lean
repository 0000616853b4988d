import Derived.Test.YthhibagcpjeihaaLRd3ToSeat
import Derived.Deep.DeepCutAuto
namespace Go.Proofs.Ythhibagcpjeihaa
open Go.RowKit
open M
set_option linter.unusedVariables false
set_option linter.unusedSimpArgs false
set_option maxRecDepth 100000
theorem idx40_0 (x0 x1 x2 x3 : Value) (w : World) : (Instr.index 33 (.agg #[x0, x1, x2, x3]) (.int .i64 0)).run Try.prog w = .ok x0 w := by simp [go_sem, Instr.index]
theorem idx40_1 (x0 x1 x2 x3 : Value) (w : World) : (Instr.index 33 (.agg #[x0, x1, x2, x3]) (.int .i64 1)).run Try.prog w = .ok x1 w := by simp [go_sem, Instr.index]
theorem idx40_2 (x0 x1 x2 x3 : Value) (w : World) : (Instr.index 33 (.agg #[x0, x1, x2, x3]) (.int .i64 2)).run Try.prog w = .ok x2 w := by simp [go_sem, Instr.index]
theorem idx40_3 (x0 x1 x2 x3 : Value) (w : World) : (Instr.index 33 (.agg #[x0, x1, x2, x3]) (.int .i64 3)).run Try.prog w = .ok x3 w := by simp [go_sem, Instr.index]
theorem run_min2 (ty : TypeId) (x y : Int) (w : World) : (Builtin.min_ #[3, 3] ty #[.int .i64 x, .int .i64 y]).run Try.prog w = .ok (.int .i64 (min x y)) w := by
 have : (if y < x then y else x) = min x y := by split <;> omega
 simp [Builtin.min_, Builtin.min2, this]
theorem run_max2 (ty : TypeId) (x y : Int) (w : World) : (Builtin.max_ #[3, 3] ty #[.int .i64 x, .int .i64 y]).run Try.prog w = .ok (.int .i64 (max x y)) w := by
 have : (if x < y then y else x) = max x y := by split <;> omega
 simp [Builtin.max_, Builtin.max2, this]
attribute [local go_sem] idx40_0 idx40_1 idx40_2 idx40_3
attribute [local go_sem ↓] run_min2 run_max2
def fcs (r c f l0 l1 l2 l3 : Int) (m : Value) (a0 a1 a2 a3 b0 b1 b2 b3 s0 s1 s2 s3 e0 e1 e2 e3 ep : Int) : Array Value :=
 #[.int .i64 r, .int .i64 c, .int .i64 f, .int .i64 l0, .int .i64 l1, .int .i64 l2, .int .i64 l3, m, .int .i64 a0, .int .i64 a1, .int .i64 a2, .int .i64 a3,
  .int .i64 b0, .int .i64 b1, .int .i64 b2, .int .i64 b3, .int .i64 s0, .int .i64 s1, .int .i64 s2, .int .i64 s3, .int .i64 e0, .int .i64 e1, .int .i64 e2, .int .i64 e3, .int .i64 ep]
theorem reckon_any (b : Nat) (r c f l0 l1 l2 l3 : Int) (m : Value) (a0 a1 a2 a3 b0 b1 b2 b3 s0 s1 s2 s3 e0 e1 e2 e3 ep : Int) (w : World)
  (h : Has w b (fcs r c f l0 l1 l2 l3 m a0 a1 a2 a3 b0 b1 b2 b3 s0 s1 s2 s3 e0 e1 e2 e3 ep) 138)
  (ha : 0 ≤ a0 ∧ a0 ≤ 1000 ∧ 0 ≤ b0 ∧ b0 ≤ 1000) (hs : 0 ≤ s0 ∧ s0 ≤ 1000 ∧ 0 ≤ s1 ∧ s1 ≤ 1000 ∧ 0 ≤ s2 ∧ s2 ≤ 1000 ∧ 0 ≤ s3 ∧ s3 ≤ 1000)
  (hl : 0 ≤ l0 ∧ l0 ≤ 1000 ∧ 0 ≤ l1 ∧ l1 ≤ 1000 ∧ 0 ≤ l2 ∧ l2 ≤ 1000 ∧ 0 ≤ l3 ∧ l3 ≤ 1000) :
  Calls Try.prog 106 #[.pointer (some ⟨b, 0, none⟩)] w fun e w' => e = .returned (.tuple #[]) ∧ Mod (fun k => k = b) w w' ∧
   Has w' b (fcs r c f l0 l1 l2 l3 m a0 a1 a2 a3 b0 b1 b2 b3 s0 s1 s2 s3
    (max (min (a0 + b0) (l0 - (s0 + s1 + s2 + s3))) 0) (max (min (min (a0 + b0) (l0 - (s0 + s1 + s2 + s3))) (l1 - (s1 + s2 + s3))) 0)
    (max (min (min (min (a0 + b0) (l0 - (s0 + s1 + s2 + s3))) (l1 - (s1 + s2 + s3))) (l2 - (s2 + s3))) 0)
    (max (min (min (min (min (a0 + b0) (l0 - (s0 + s1 + s2 + s3))) (l1 - (s1 + s2 + s3))) (l2 - (s2 + s3))) (l3 - s3)) 0) ep) 138 := by
 have hc := h.cell
 unfold fcs at hc
 have H := hide h
 clear h
 go_enter Try.func106, Try.ntmps106
 go_wp2
 go_loopw [2, 13] (fun n i wr => ((i = .int .i64 0 ∧ n = .int .i64 0) ∨ (i = .int .i64 1 ∧ n = .int .i64 s0) ∨ (i = .int .i64 2 ∧ n = .int .i64 (s0 + s1)) ∨ (i = .int .i64 3 ∧ n = .int .i64 (s0 + s1 + s2)) ∨ (i = .int .i64 4 ∧ n = .int .i64 (s0 + s1 + s2 + s3))) ∧ wr = w) (fun _ i _ => 4 - (intOf i).toNat)
 case atStart => exact ⟨.inl ⟨rfl, rfl⟩, rfl⟩
 case round =>
  obtain ⟨hr, hm⟩ := hrel
  subst hm
  rcases hr with ⟨rfl, rfl⟩ | ⟨rfl, rfl⟩ | ⟨rfl, rfl⟩ | ⟨rfl, rfl⟩ | ⟨rfl, rfl⟩
  ·go_wp2
   go_roundw
   ·exact ⟨.inr (.inl ⟨rfl, rfl⟩), trivial⟩
   ·simp [intOf]
  ·go_wp2
   go_roundw
   ·exact ⟨.inr (.inr (.inl ⟨rfl, rfl⟩)), trivial⟩
   ·simp [intOf]
  ·go_wp2
   go_roundw
   ·exact ⟨.inr (.inr (.inr (.inl ⟨rfl, rfl⟩))), trivial⟩
   ·simp [intOf]
  ·go_wp2
   go_roundw
   ·exact ⟨.inr (.inr (.inr (.inr ⟨rfl, rfl⟩))), trivial⟩
   ·simp [intOf]
  ·go_wp2
   go_quiet (fail)
   go_wp2
   have HA := hide ha
   have HS := hide hs
   have HL := hide hl
   clear hc
   generalize hT : s0 + s1 + s2 + s3 = T0 at *
   generalize hA : a0 + b0 = A at *
   have HT := hide hT
   have HAA := hide hA
   have bT : 0 ≤ T0 ∧ T0 ≤ 4000 ∧ 0 ≤ A ∧ A ≤ 2000 := by omega
   clear hT hA
   go_loopw [2, 5, 38] (fun n g i wx => ∃ t q x0 x1 x2 x3 : Int, n = .int .i64 t ∧ g = .int .i64 q ∧ 0 ≤ t ∧ t ≤ 4000 ∧ -5000 ≤ q ∧ q ≤ 5000 ∧ Hid (Has wx b (fcs r c f l0 l1 l2 l3 m a0 a1 a2 a3 b0 b1 b2 b3 s0 s1 s2 s3 x0 x1 x2 x3 ep) 138) ∧ Hid (Mod (fun k => k = b) wr wx) ∧
     ((i = .int .i64 0 ∧ Hid (t = T0 ∧ q = A)) ∨ (i = .int .i64 1 ∧ Hid (t = T0 - s0 ∧ q = min A (l0 - T0) ∧ x0 = max (min A (l0 - T0)) 0)) ∨
      (i = .int .i64 2 ∧ Hid (t = T0 - s0 - s1 ∧ q = min (min A (l0 - T0)) (l1 - (T0 - s0)) ∧ x0 = max (min A (l0 - T0)) 0 ∧ x1 = max (min (min A (l0 - T0)) (l1 - (T0 - s0))) 0)) ∨
      (i = .int .i64 3 ∧ Hid (t = T0 - s0 - s1 - s2 ∧ q = min (min (min A (l0 - T0)) (l1 - (T0 - s0))) (l2 - (T0 - s0 - s1)) ∧ x0 = max (min A (l0 - T0)) 0 ∧ x1 = max (min (min A (l0 - T0)) (l1 - (T0 - s0))) 0 ∧ x2 = max (min (min (min A (l0 - T0)) (l1 - (T0 - s0))) (l2 - (T0 - s0 - s1))) 0)) ∨
      (i = .int .i64 4 ∧ Hid (x0 = max (min A (l0 - T0)) 0 ∧ x1 = max (min (min A (l0 - T0)) (l1 - (T0 - s0))) 0 ∧ x2 = max (min (min (min A (l0 - T0)) (l1 - (T0 - s0))) (l2 - (T0 - s0 - s1))) 0 ∧
       x3 = max (min (min (min (min A (l0 - T0)) (l1 - (T0 - s0))) (l2 - (T0 - s0 - s1))) (l3 - (T0 - s0 - s1 - s2))) 0)))) (fun _ _ i _ => 4 - (intOf i).toNat)
   case atStart => exact ⟨T0, A, e0, e1, e2, e3, rfl, rfl, by omega, by omega, by omega, by omega, H, (Mod.refl _ _).drewN _, .inl ⟨rfl, rfl, rfl⟩⟩
   case round =>
    obtain ⟨t, q, x0, x1, x2, x3, rfl, rfl, t0, t1, q0, q1, hh, hm, hr⟩ := hrel
    have hc := (unhide hh).cell
    have hz := (unhide hh).frozen
    unfold fcs at hc
    rcases hr with ⟨rfl, hr⟩ | ⟨rfl, hr⟩ | ⟨rfl, hr⟩ | ⟨rfl, hr⟩ | ⟨rfl, hr⟩
    ·go_wp2
     go_roundw
     ·obtain ⟨r1, r2⟩ := unhide hr
      have hs' := unhide HS
      have hT' := unhide HT
      have hset := (unhide hh).set 20 (.int .i64 (max (min q (l0 - t)) 0))
      refine ⟨t - s0, min q (l0 - t), max (min q (l0 - t)) 0, x1, x2, x3, rfl, rfl, by omega, by omega, by omega, by omega, hset, (unhide hm).at 20 _, .inr (.inl ⟨rfl, ?_, ?_, ?_⟩)⟩
      ·rw [r1]
      ·rw [r1, r2]
      ·rw [r1, r2]
     ·simp [intOf]
    ·go_wp2
     go_roundw
     ·obtain ⟨r1, r2, r3⟩ := unhide hr
      have hs' := unhide HS
      have hT' := unhide HT
      have hset := (unhide hh).set 21 (.int .i64 (max (min q (l1 - t)) 0))
      refine ⟨t - s1, min q (l1 - t), x0, max (min q (l1 - t)) 0, x2, x3, rfl, rfl, by omega, by omega, by omega, by omega, hset, (unhide hm).at 21 _, .inr (.inr (.inl ⟨rfl, ?_, ?_, r3, ?_⟩))⟩
      ·rw [r1]
      ·rw [r1, r2]
      ·rw [r1, r2]
     ·simp [intOf]
    ·go_wp2
     go_roundw
     ·obtain ⟨r1, r2, r3, r4⟩ := unhide hr
      have hs' := unhide HS
      have hT' := unhide HT
      have hset := (unhide hh).set 22 (.int .i64 (max (min q (l2 - t)) 0))
      refine ⟨t - s2, min q (l2 - t), x0, x1, max (min q (l2 - t)) 0, x3, rfl, rfl, by omega, by omega, by omega, by omega, hset, (unhide hm).at 22 _, .inr (.inr (.inr (.inl ⟨rfl, ?_, ?_, r3, r4, ?_⟩)))⟩
      ·rw [r1]
      ·rw [r1, r2]
      ·rw [r1, r2]
     ·simp [intOf]
    ·go_wp2
     go_roundw
     ·obtain ⟨r1, r2, r3, r4, r5⟩ := unhide hr
      have hs' := unhide HS
      have hT' := unhide HT
      have hset := (unhide hh).set 23 (.int .i64 (max (min q (l3 - t)) 0))
      refine ⟨t - s3, min q (l3 - t), x0, x1, x2, max (min q (l3 - t)) 0, rfl, rfl, by omega, by omega, by omega, by omega, hset, (unhide hm).at 23 _, .inr (.inr (.inr (.inr ⟨rfl, r3, r4, r5, ?_⟩)))⟩
      rw [r1, r2]
     ·simp [intOf]
    ·go_wp2
     go_end0
     obtain ⟨r0, r1, r2, r3⟩ := unhide hr
     have hT := unhide HT
     have hA := unhide HAA
     have i1 : s1 + s2 + s3 = T0 - s0 := by omega
     have i2 : s2 + s3 = T0 - s0 - s1 := by omega
     have i3 : s3 = T0 - s0 - s1 - s2 := by omega
     refine ⟨rfl, unhide hm, ?_⟩
     rw [hT, hA, i1, i2]
     have hh := unhide hh
     rw [r0, r1, r2, r3, ← i3] at hh
     exact hh
open Go.ChangeMaps (setBlock)
def upd (a : Nat → Int) (n : Nat) (v : Int) : Nat → Int := fun j => if j = n then v else a j
def fcf (p : Pla) (m : Value) (a b s e : Nat → Int) : Array Value :=
 fcs p.rows p.cols p.front p.l0 p.l1 p.l2 p.l3 m (a 0) (a 1) (a 2) (a 3) (b 0) (b 1) (b 2) (b 3) (s 0) (s 1) (s 2) (s 3) (e 0) (e 1) (e 2) (e 3) p.ep
def bumpS (n k : Nat) (t : Int) (s : Nat → Int) : Nat → Int := if n = 1 ∨ n = 2 then upd s k (s k + t) else s
theorem fcf_a (p : Pla) (m : Value) (a b s e : Nat → Int) (n : Nat) (hn : n < 4) (v : Int) : (fcf p m a b s e).setIfInBounds (8 + n) (.int .i64 v) = fcf p m (upd a n v) b s e := by
 match n, hn with
 | 0, _ => rfl
 | 1, _ => rfl
 | 2, _ => rfl
 | 3, _ => rfl
theorem fcf_b (p : Pla) (m : Value) (a b s e : Nat → Int) (n : Nat) (hn : n < 4) (v : Int) : (fcf p m a b s e).setIfInBounds (12 + n) (.int .i64 v) = fcf p m a (upd b n v) s e := by
 match n, hn with
 | 0, _ => rfl
 | 1, _ => rfl
 | 2, _ => rfl
 | 3, _ => rfl
theorem fcf_s (p : Pla) (m : Value) (a b s e : Nat → Int) (n : Nat) (hn : n < 4) (v : Int) : (fcf p m a b s e).setIfInBounds (16 + n) (.int .i64 v) = fcf p m a b (upd s n v) e := by
 match n, hn with
 | 0, _ => rfl
 | 1, _ => rfl
 | 2, _ => rfl
 | 3, _ => rfl
theorem fcf_at (p : Pla) (m : Value) (a b s e : Nat → Int) (n : Nat) (hn : n < 4) : (fcf p m a b s e)[8 + n]? = some (.int .i64 (a n)) ∧ (fcf p m a b s e)[12 + n]? = some (.int .i64 (b n)) ∧ (fcf p m a b s e)[16 + n]? = some (.int .i64 (s n)) := by
 match n, hn with
 | 0, _ => exact ⟨rfl, rfl, rfl⟩
 | 1, _ => exact ⟨rfl, rfl, rfl⟩
 | 2, _ => exact ⟨rfl, rfl, rfl⟩
 | 3, _ => exact ⟨rfl, rfl, rfl⟩
def Small (a : Nat → Int) : Prop := ∀ j, j < 4 → -100000 ≤ a j ∧ a j ≤ 100000
theorem tally_any (b n k : Nat) (p : Pla) (m : Value) (fa fb fs fe : Nat → Int) (row col pa un times : Int) (w : World) (h : Has w b (fcf p m fa fb fs fe) 138)
  (hn : n < 4) (hk : k < 4) (ha : Small fa) (hb : Small fb) (hs : Small fs) (bt : -1 ≤ times ∧ times ≤ 1) :
  Calls Try.prog 105 #[.pointer (some ⟨b, 0, none⟩), .agg #[.int .i64 row, .int .i64 col], .agg #[.int .i64 n, .int .i64 pa, .int .i64 k, .int .i64 un], .int .i64 times] w fun e w' =>
   e = .returned (.tuple #[]) ∧ Mod (fun k => k = b) w w' ∧
    Has w' b (fcf p m (if row ≤ p.front then upd fa n (fa n + times) else fa) (if row ≤ p.front then fb else upd fb n (fb n + times)) (bumpS n k times fs) fe) 138 := by
 obtain ⟨ga, gb, gs⟩ := fcf_at p m fa fb fs fe n hn
 have gk := (fcf_at p m fa fb fs fe k hk).2.2
 by_cases hr : row ≤ p.front
 ·refine (tally_core b n k 8 _ row col pa un p.front (fa n) (fs k) times w h rfl (.inl ⟨hr, rfl⟩) hn hk ga gk (ha n hn) (hs k hk) bt).mono ?_
  rintro e w' ⟨rfl, hm, hh⟩
  refine ⟨rfl, hm, ?_⟩
  rw [if_pos hr, if_pos hr]
  unfold tallied at hh
  unfold bumpS
  split at hh
  ·rename_i h1
   rw [fcf_a _ _ _ _ _ _ _ hn, fcf_s _ _ _ _ _ _ _ hk] at hh
   rw [if_pos h1]
   exact hh
  ·rename_i h1
   rw [fcf_a _ _ _ _ _ _ _ hn] at hh
   rw [if_neg h1]
   exact hh
 ·refine (tally_core b n k 12 _ row col pa un p.front (fb n) (fs k) times w h rfl (.inr ⟨hr, rfl⟩) hn hk gb gk (hb n hn) (hs k hk) bt).mono ?_
  rintro e w' ⟨rfl, hm, hh⟩
  refine ⟨rfl, hm, ?_⟩
  rw [if_neg hr, if_neg hr]
  unfold tallied at hh
  unfold bumpS
  split at hh
  ·rename_i h1
   rw [fcf_b _ _ _ _ _ _ _ hn, fcf_s _ _ _ _ _ _ _ hk] at hh
   rw [if_pos h1]
   exact hh
  ·rename_i h1
   rw [fcf_b _ _ _ _ _ _ _ hn] at hh
   rw [if_neg h1]
   exact hh
def cA (p : Pla) (l : List Sea) : Nat → Int := fun j => nAt p true j l
def cB (p : Pla) (l : List Sea) : Nat → Int := fun j => nAt p false j l
def cS (l : List Sea) : Nat → Int := fun j => nSold j l
def cE (p : Pla) (l : List Sea) : Nat → Int := fun j => M.leftOf p l j
def fcells (p : Pla) (m : Value) (l : List Sea) : Array Value := fcf p m (cA p l) (cB p l) (cS l) (cE p l)
structure MapRel (es : List MEnt) (p : Pla) (l : List Sea) : Prop where
 ent : ∀ e ∈ es, p.has e.r e.c = true ∧ e.s ≠ 0
 seat : ∀ i (h : i < l.length), lookE es l[i].row l[i].col = (l[i].st, l[i].pa, l[i].cl, l[i].un)
 size : es.length = l.countP fun s => s.st != 0
def FlH (w : World) (S : Nat → Prop) (b : Nat) (p : Pla) (l : List Sea) : Prop :=
 ∃ m es clock, Has w b (fcells p (.map (some m)) l) 138 ∧ w.heap[m]? = some (mapObj es clock) ∧ MapOk es clock ∧ MapRel es p l ∧ S b ∧ S m
theorem Mod.map {S : Nat → Prop} {w w' : World} (h : Mod S w w') {m : Nat} {es : List MEnt} {clock : Nat} (hm : w.heap[m]? = some (mapObj es clock)) (hs : ¬ S m) : w'.heap[m]? = some (mapObj es clock) := by
 rw [h.block m (Array.getElem?_eq_some_iff.1 hm).1 hs]; exact hm
theorem FlH.mod {w w' : World} {S S' : Nat → Prop} {b : Nat} {p : Pla} {l : List Sea} (h : FlH w S b p l) (hm : Mod S' w w') (hs : ∀ k, S k → ¬ S' k) : FlH w' S b p l := by
 obtain ⟨m, es, clock, h1, h2, h3, h4, h5, h6⟩ := h
 exact ⟨m, es, clock, hm.has h1 (hs b h5), hm.map h2 (hs m h6), h3, h4, h5, h6⟩
theorem FlH.mod0 {w w' : World} {S : Nat → Prop} {b : Nat} {p : Pla} {l : List Sea} (h : FlH w S b p l) (hm : Mod No w w') : FlH w' S b p l := h.mod hm (fun _ _ x => x)
theorem small_count (l : List Sea) (hl : l.length ≤ 1000) (q : Sea → Bool) : 0 ≤ ((l.countP q : Nat) : Int) ∧ ((l.countP q : Nat) : Int) ≤ 1000 := by
 have := List.countP_le_length (p := q) (l := l)
 omega
theorem Has.map_ne {w : World} {b m : Nat} {cs : Array Value} {T : TypeId} {es : List MEnt} {clock : Nat} (h : Has w b cs T) (hm : w.heap[m]? = some (mapObj es clock)) : m ≠ b := by
 rintro rfl
 unfold Has at h
 rw [h] at hm
 simp [mapObj] at hm
theorem setBlock_has {w : World} {b m : Nat} {cs : Array Value} {T : TypeId} (h : Has w b cs T) (hne : m ≠ b) (o : Obj) : Has (setBlock w m o) b cs T := by
 unfold Has at h ⊢
 simp [setBlock, Array.getElem?_setIfInBounds, hne, h]
theorem setBlock_at {w : World} {m : Nat} (h : m < w.heap.size) (o' : Obj) : (setBlock w m o').heap[m]? = some o' := by
 simp [setBlock, Array.getElem?_setIfInBounds, h]
theorem Mod.setBlock {S : Nat → Prop} {a w : World} (h : Mod S a w) {m : Nat} (hm : S m ∨ a.heap.size ≤ m) (o : Obj) : Mod S a (setBlock w m o) := by
 refine h.trans' (S' := fun k => k = m) ⟨rfl, rfl, rfl, by simp [ChangeMaps.setBlock], fun k hk hne => ?_⟩ (fun i hi hl => by subst hi; rcases hm with h | h; exact h; omega)
 simp [ChangeMaps.setBlock, Array.getElem?_setIfInBounds]
 intro e
 exact absurd e.symm hne
set_option maxHeartbeats 4000000 in
theorem put_walk (b m n k n' k' : Nat) (p : Pla) (fa fb fs fe fa1 fb1 fs1 fa2 fb2 fs2 fe2 : Nat → Int) (r c pa un pa' un' : Int) (w : World) (es es' : List MEnt) (clock clock' : Nat) (h : Has w b (fcf p (.map (some m)) fa fb fs fe) 138)
  (hmap : w.heap[m]? = some (mapObj es clock))
  (hL : ∀ W : World, W.heap[m]? = some (mapObj es clock) → (Instr.lookup 136 (.map (some m)) (.agg #[.int .i64 r, .int .i64 c]) false).run Try.prog W = .ok (.agg #[.int .i64 n, .int .i64 pa, .int .i64 k, .int .i64 un]) W)
  (hD : n' = 0 → ∀ (W : World) ty, W.heap[m]? = some (mapObj es clock) → (Builtin.delete_ #[136, 32] ty #[.map (some m), .agg #[.int .i64 r, .int .i64 c]]).run Try.prog W = .ok (.tuple #[]) (setBlock W m (mapObj es' clock')))
  (hU : n' ≠ 0 → ∀ W : World, W.heap[m]? = some (mapObj es clock) → (Instr.mapUpdate 136 (.map (some m)) (.agg #[.int .i64 r, .int .i64 c]) (.agg #[.int .i64 n', .int .i64 pa', .int .i64 k', .int .i64 un'])).run Try.prog W = .ok () (setBlock W m (mapObj es' clock')))
  (hT1 : ∀ W, Has W b (fcf p (.map (some m)) fa fb fs fe) 138 → Calls Try.prog 105 #[.pointer (some ⟨b, 0, none⟩), .agg #[.int .i64 r, .int .i64 c], .agg #[.int .i64 n, .int .i64 pa, .int .i64 k, .int .i64 un], .int .i64 (-1)] W fun e w' => e = .returned (.tuple #[]) ∧ Mod (fun k => k = b) W w' ∧ Has w' b (fcf p (.map (some m)) fa1 fb1 fs1 fe) 138)
  (hT2 : ∀ W, Has W b (fcf p (.map (some m)) fa1 fb1 fs1 fe) 138 → Calls Try.prog 105 #[.pointer (some ⟨b, 0, none⟩), .agg #[.int .i64 r, .int .i64 c], .agg #[.int .i64 n', .int .i64 pa', .int .i64 k', .int .i64 un'], .int .i64 1] W fun e w' => e = .returned (.tuple #[]) ∧ Mod (fun k => k = b) W w' ∧ Has w' b (fcf p (.map (some m)) fa2 fb2 fs2 fe) 138)
  (hR : ∀ W, Has W b (fcf p (.map (some m)) fa2 fb2 fs2 fe) 138 → Calls Try.prog 106 #[.pointer (some ⟨b, 0, none⟩)] W fun e w' => e = .returned (.tuple #[]) ∧ Mod (fun k => k = b) W w' ∧ Has w' b (fcf p (.map (some m)) fa2 fb2 fs2 fe2) 138) :
  Calls Try.prog 102 #[.pointer (some ⟨b, 0, none⟩), .agg #[.int .i64 r, .int .i64 c], .agg #[.int .i64 n', .int .i64 pa', .int .i64 k', .int .i64 un']] w fun e w' =>
   e = .returned (.tuple #[]) ∧ Mod (fun k => k = b ∨ k = m) w w' ∧ Has w' b (fcf p (.map (some m)) fa2 fb2 fs2 fe2) 138 ∧ w'.heap[m]? = some (mapObj es' clock') := by
 have hmb := h.map_ne hmap
 have hlt := h.lt
 have c7 := h.cell 7
 rw [show (fcf p (.map (some m)) fa fb fs fe)[7]? = some (.map (some m)) from rfl] at c7
 have hL' := hL (((w.alloc (.cells #[.int .i64 r, .int .i64 c] 32)).alloc (.cells #[.int .i64 n', .int .i64 pa', .int .i64 k', .int .i64 un'] 170))).drew (by
  have := Mod.map (Mod.refl No w |>.alloc (.cells #[.int .i64 r, .int .i64 c] 32) |>.alloc (.cells #[.int .i64 n', .int .i64 pa', .int .i64 k', .int .i64 un'] 170) |>.drew) hmap (fun x => x)
  exact this)
 have H := hide h
 have HM := hide hmap
 have HD := hide hD
 have HU := hide hU
 have HT1 := hide hT1
 have HT2 := hide hT2
 have HR := hide hR
 have HMB := hide hmb
 clear h hmap hL hD hU hT1 hT2 hR hmb
 go_enter Try.func102, Try.ntmps102
 go_wp2_with fail
 go_cut [] (fun wx => Hid (Has wx b (fcf p (.map (some m)) fa1 fb1 fs1 fe) 138) ∧ Hid (Mod (fun k => k = b) ((w.alloc (.cells #[.int .i64 r, .int .i64 c] 32)).alloc (.cells #[.int .i64 n', .int .i64 pa', .int .i64 k', .int .i64 un'] 170)) wx))
 case first =>
  go_region_with (go_at_call 105; refine ((unhide HT1) _ ?_).mono ?_; exact (((unhide H).alloc _).alloc _).drew; rintro e w3 ⟨rfl, hm3, hh3⟩)
  all_goals go_wp2
  all_goals go_meet
  all_goals exact ⟨hh3, (Mod.refl _ _).drew.trans hm3⟩
 case rest =>
  obtain ⟨h3, m3⟩ := hcut
  have hmap := unhide HM
  have hmb := unhide HMB
  have hml := (Array.getElem?_eq_some_iff.1 hmap).1
  have mw : Mod No w ((w.alloc (.cells #[.int .i64 r, .int .i64 c] 32)).alloc (.cells #[.int .i64 n', .int .i64 pa', .int .i64 k', .int .i64 un'] 170)) := ((Mod.refl _ w).alloc _).alloc _
  have B1 : Has ((w.alloc (.cells #[.int .i64 r, .int .i64 c] 32)).alloc (.cells #[.int .i64 n', .int .i64 pa', .int .i64 k', .int .i64 un'] 170)) w.heap.size #[.int .i64 r, .int .i64 c] 32 := (Has.new w _ _).alloc _
  have B2 : Has ((w.alloc (.cells #[.int .i64 r, .int .i64 c] 32)).alloc (.cells #[.int .i64 n', .int .i64 pa', .int .i64 k', .int .i64 un'] 170)) (w.heap.size + 1) #[.int .i64 n', .int .i64 pa', .int .i64 k', .int .i64 un'] 170 := by
   have := Has.new (w.alloc (.cells #[.int .i64 r, .int .i64 c] 32)) #[.int .i64 n', .int .i64 pa', .int .i64 k', .int .i64 un'] 170
   rwa [World.size_alloc] at this
  have nb1 : ∀ k, k = b → k ≠ w.heap.size ∧ k ≠ w.heap.size + 1 := fun k hk => by omega
  have b1 := (unhide m3).has B1 (fun e => by have := (nb1 _ e).1; omega)
  have b2 := (unhide m3).has B2 (fun e => by have := (nb1 _ e).2; omega)
  have hm3 := (unhide m3).map (mw.map hmap (fun x => x)) (fun e => hmb e)
  have M0 : Mod (fun k => k = b) w wc := (mw.mono (fun _ _ x => x.elim)).trans (unhide m3)
  generalize hg1 : w.heap.size = g1 at *
  generalize hg2 : g1 + 1 = g2 at *
  have c1 := b1.cell
  have c2 := b2.cell
  have MW := hide M0
  have BB1 := hide b1
  have BB2 := hide b2
  have HM3 := hide hm3
  have NB := hide nb1
  have HG1 := hide hg1
  have HG2 := hide hg2
  clear B1 B2 b1 b2 mw hm3 hmap hmb nb1 M0 m3 hg1 hg2 c7 hL' hlt
  go_wp2_with fail
  refine ((unhide HT2) _ (unhide h3)).mono ?_
  rintro e w4 ⟨rfl, m4, h4⟩
  have b1 := m4.has (unhide BB1) (fun e => by have := ((unhide NB) _ e).1; omega)
  have b2 := m4.has (unhide BB2) (fun e => by have := ((unhide NB) _ e).2; omega)
  have hm4 := m4.map (unhide HM3) (fun e => (unhide HMB) e)
  have MW4 := hide ((unhide MW).trans m4)
  have H4 := hide h4
  have HM4 := hide hm4
  have hml4 := (Array.getElem?_eq_some_iff.1 hm4).1
  have c7 := h4.cell 7
  rw [show (fcf p (.map (some m)) fa2 fb2 fs2 fe)[7]? = some (.map (some m)) from rfl] at c7
  clear c1 c2
  have c1 := b1.cell
  have c2 := b2.cell
  clear h4 b1 b2 m4 hm4 MW BB1 BB2 HM3 h3
  by_cases hn0 : n' = 0
  ·subst hn0
   have hD := (unhide HD) rfl w4.drew
   have HDD := fun ty => hD ty (unhide HM4)
   clear hD
   rw [show (((0 : Nat) : Int)) = 0 from rfl] at *
   go_wp2_with fail
   go_region
   all_goals
    go_wp2_with fail
    refine ((unhide HR) _ ?_).mono ?_
    ·exact setBlock_has (Has.drew (unhide H4)) (unhide HMB) _
    rintro e w5 ⟨rfl, m5, h5⟩
    go_wp2
    go_end0
    have ml : m < w4.drew.heap.size := hml4
    refine ⟨rfl, (((unhide MW4).drew.mono (fun _ _ x => .inl x)).setBlock (.inl (.inr rfl)) _).trans (m5.mono (fun _ _ x => .inl x)), h5, m5.map (setBlock_at ml _) (fun e => (unhide HMB) e)⟩
  ·have hn0' : ((n' : Int) == 0) = false := by simp; omega
   have hU := (unhide HU) hn0 w4.drew (unhide HM4)
   have HN0 := hide hn0
   clear hn0
   go_wp2_with fail
   go_region
   all_goals
    go_wp2_with fail
    refine ((unhide HR) _ ?_).mono ?_
    ·exact setBlock_has (Has.drew (unhide H4)) (unhide HMB) _
    rintro e w5 ⟨rfl, m5, h5⟩
    go_wp2
    go_end0
    have ml : m < w4.drew.heap.size := hml4
    refine ⟨rfl, (((unhide MW4).drew.mono (fun _ _ x => .inl x)).setBlock (.inl (.inr rfl)) _).trans (m5.mono (fun _ _ x => .inl x)), h5, m5.map (setBlock_at ml _) (fun e => (unhide HMB) e)⟩
def Wf (p : Pla) (l : List Sea) : Prop := (⟨0, p, l, 0⟩ : Fli).wf
theorem Wf.set {p : Pla} {l : List Sea} (h : Wf p l) {i : Nat} (hi : i < l.length) {s : Sea} (hs : s.wf) (hr : s.row = l[i].row) (hc : s.col = l[i].col) : Wf p (l.set i s) := by
 refine ⟨h.sized, h.limited, by simpa using h.len, fun j hj => ?_, fun x hx => ?_⟩
 ·have hj' : j < l.length := by simpa using hj
  have hp := h.place j hj'
  simp only [List.getElem_set] at hp ⊢
  split
  ·rename_i e; subst e
   rw [hr, hc]
   exact hp
  ·exact hp
 ·rcases List.mem_or_eq_of_mem_set hx with h1 | h1
  ·exact h.seat x h1
  ·rw [h1]; exact hs
theorem cE_eq {p : Pla} {l : List Sea} (h : Wf p l) :
  cE p l 0 = max (min (cA p l 0 + cB p l 0) (p.l0 - (cS l 0 + cS l 1 + cS l 2 + cS l 3))) 0 ∧
  cE p l 1 = max (min (min (cA p l 0 + cB p l 0) (p.l0 - (cS l 0 + cS l 1 + cS l 2 + cS l 3))) (p.l1 - (cS l 1 + cS l 2 + cS l 3))) 0 ∧
  cE p l 2 = max (min (min (min (cA p l 0 + cB p l 0) (p.l0 - (cS l 0 + cS l 1 + cS l 2 + cS l 3))) (p.l1 - (cS l 1 + cS l 2 + cS l 3))) (p.l2 - (cS l 2 + cS l 3))) 0 ∧
  cE p l 3 = max (min (min (min (min (cA p l 0 + cB p l 0) (p.l0 - (cS l 0 + cS l 1 + cS l 2 + cS l 3))) (p.l1 - (cS l 1 + cS l 2 + cS l 3))) (p.l2 - (cS l 2 + cS l 3))) (p.l3 - cS l 3)) 0 := by
 obtain ⟨f0, f1, f2, f3⟩ := nFrom_split l (fun s hs => ⟨(h.seat s hs).c0, (h.seat s hs).c1⟩)
 have hf := nFree_split p l
 have g : ((nFree l : Nat) : Int) = cA p l 0 + cB p l 0 := by rw [hf]; simp [cA, cB]
 have g0 : ((nFrom 0 l : Nat) : Int) = cS l 0 + cS l 1 + cS l 2 + cS l 3 := by rw [f0]; simp [cS]
 have g1 : ((nFrom 1 l : Nat) : Int) = cS l 1 + cS l 2 + cS l 3 := by rw [f1]; simp [cS]
 have g2 : ((nFrom 2 l : Nat) : Int) = cS l 2 + cS l 3 := by rw [f2]; simp [cS]
 have g3 : ((nFrom 3 l : Nat) : Int) = cS l 3 := by rw [f3]; simp [cS]
 simp only [cE, M.leftOf, leastTo, Pla.lim]
 simp only [show ((0 : Nat) : Int) + 1 = 1 from rfl, show ((1 : Nat) : Int) + 1 = 2 from rfl, show ((2 : Nat) : Int) + 1 = 3 from rfl, g, g0, g1, g2, g3]
 exact ⟨trivial, trivial, trivial, trivial⟩
theorem counts_small {p : Pla} {l : List Sea} (h : Wf p l) (j : Nat) : 0 ≤ cA p l j ∧ cA p l j ≤ 1000 ∧ 0 ≤ cB p l j ∧ cB p l j ≤ 1000 ∧ 0 ≤ cS l j ∧ cS l j ≤ 1000 := by
 have hl : l.length ≤ 1000 := by have := h.len_le; simp only at this; omega
 have a := small_count l hl fun s => (decide (s.row ≤ p.front) == true) && s.st == (j : Int)
 have b := small_count l hl fun s => (decide (s.row ≤ p.front) == false) && s.st == (j : Int)
 have c := small_count l hl fun s => s.sold && s.cl == (j : Int)
 exact ⟨a.1, a.2, b.1, b.2, c.1, c.2⟩
theorem fcf_congr {p : Pla} {m : Value} {a b s e a' b' s' e' : Nat → Int} (ha : ∀ j, j < 4 → a j = a' j) (hb : ∀ j, j < 4 → b j = b' j) (hs : ∀ j, j < 4 → s j = s' j) (he : ∀ j, j < 4 → e j = e' j) :
  fcf p m a b s e = fcf p m a' b' s' e' := by
 unfold fcf
 rw [ha 0 (by omega), ha 1 (by omega), ha 2 (by omega), ha 3 (by omega), hb 0 (by omega), hb 1 (by omega), hb 2 (by omega), hb 3 (by omega), hs 0 (by omega), hs 1 (by omega), hs 2 (by omega), hs 3 (by omega),
  he 0 (by omega), he 1 (by omega), he 2 (by omega), he 3 (by omega)]
theorem lim_small {p : Pla} (h : p.limited = true) : 0 ≤ p.l0 ∧ p.l0 ≤ 1000 ∧ 0 ≤ p.l1 ∧ p.l1 ≤ 1000 ∧ 0 ≤ p.l2 ∧ p.l2 ≤ 1000 ∧ 0 ≤ p.l3 ∧ p.l3 ≤ 1000 := by
 simp only [Pla.limited, decide_eq_true_eq] at h
 omega
theorem upd2 (f : Nat → Int) (n n' j : Nat) : upd (upd f n (f n + -1)) n' (upd f n (f n + -1) n' + 1) j = f j - (if n = j then 1 else 0) + (if n' = j then 1 else 0) := by
 unfold upd
 by_cases h1 : j = n
 ·subst h1
  by_cases h2 : j = n'
  ·subst h2; simp; omega
  ·rw [if_neg h2, if_pos rfl, if_pos rfl, if_neg (fun e => h2 e.symm)]; omega
 ·by_cases h2 : j = n'
  ·subst h2
   rw [if_pos rfl, if_neg h1, if_neg (fun e => h1 e.symm), if_pos rfl]; omega
  ·rw [if_neg h2, if_neg h1, if_neg (fun e => h1 e.symm), if_neg (fun e => h2 e.symm)]; omega
theorem beq_cast (n j : Nat) : ((n : Int) == (j : Int)) = decide (n = j) := by
 by_cases h : n = j
 ·subst h; simp
 ·simp [h]; omega
theorem cA_set (p : Pla) {l : List Sea} {i : Nat} (hi : i < l.length) (s : Sea) (n n' : Nat) (hn : l[i].st = n) (hn' : s.st = n') (hr : s.row = l[i].row) (j : Nat) :
  (if l[i].row ≤ p.front then upd (if l[i].row ≤ p.front then upd (cA p l) n (cA p l n + -1) else cA p l) n' ((if l[i].row ≤ p.front then upd (cA p l) n (cA p l n + -1) else cA p l) n' + 1) else (if l[i].row ≤ p.front then upd (cA p l) n (cA p l n + -1) else cA p l)) j = cA p (l.set i s) j := by
 have e : cA p (l.set i s) j = cA p l j - (if (decide (l[i].row ≤ p.front) == true && decide (n = j)) = true then 1 else 0) + (if (decide (l[i].row ≤ p.front) == true && decide (n' = j)) = true then 1 else 0) := by
  simp only [cA, nAt]
  rw [countP_set _ _ _ hi, hn, hn', hr, beq_cast, beq_cast]
 rw [e]
 by_cases h : l[i].row ≤ p.front
 ·rw [if_pos h, if_pos h, upd2]
  simp [h]
 ·rw [if_neg h, if_neg h]
  simp [h]
theorem cB_set (p : Pla) {l : List Sea} {i : Nat} (hi : i < l.length) (s : Sea) (n n' : Nat) (hn : l[i].st = n) (hn' : s.st = n') (hr : s.row = l[i].row) (j : Nat) :
  (if l[i].row ≤ p.front then (if l[i].row ≤ p.front then cB p l else upd (cB p l) n (cB p l n + -1)) else upd (if l[i].row ≤ p.front then cB p l else upd (cB p l) n (cB p l n + -1)) n' ((if l[i].row ≤ p.front then cB p l else upd (cB p l) n (cB p l n + -1)) n' + 1)) j = cB p (l.set i s) j := by
 have e : cB p (l.set i s) j = cB p l j - (if (decide (l[i].row ≤ p.front) == false && decide (n = j)) = true then 1 else 0) + (if (decide (l[i].row ≤ p.front) == false && decide (n' = j)) = true then 1 else 0) := by
  simp only [cB, nAt]
  rw [countP_set _ _ _ hi, hn, hn', hr, beq_cast, beq_cast]
 rw [e]
 by_cases h : l[i].row ≤ p.front
 ·rw [if_pos h, if_pos h]
  simp [h]
 ·rw [if_neg h, if_neg h, upd2]
  simp [h]
theorem sold_cast (s : Sea) (n : Nat) (h : s.st = n) : s.sold = decide (n = 1 ∨ n = 2) := by
 unfold Sea.sold
 rw [h, show (1 : Int) = ((1 : Nat) : Int) from rfl, show (2 : Int) = ((2 : Nat) : Int) from rfl, beq_cast, beq_cast]
 simp
theorem bump2 (f : Nat → Int) (n k n' k' j : Nat) : bumpS n' k' 1 (bumpS n k (-1) f) j = f j - (if (decide (n = 1 ∨ n = 2) && decide (k = j)) = true then 1 else 0) + (if (decide (n' = 1 ∨ n' = 2) && decide (k' = j)) = true then 1 else 0) := by
 unfold bumpS
 by_cases h1 : n = 1 ∨ n = 2
 ·by_cases h2 : n' = 1 ∨ n' = 2
  ·rw [if_pos h1, if_pos h2, upd2]; simp [h1, h2]
  ·rw [if_pos h1, if_neg h2]; simp [h1, h2, upd]; split <;> simp_all <;> omega
 ·by_cases h2 : n' = 1 ∨ n' = 2
  ·rw [if_neg h1, if_pos h2]
   unfold upd
   by_cases h3 : j = k'
   ·subst h3; simp [h1, h2]
   ·rw [if_neg h3]; simp [h1, h2, show ¬ k' = j from fun e => h3 e.symm]
  ·rw [if_neg h1, if_neg h2]; simp [h1, h2]
theorem cS_set {l : List Sea} {i : Nat} (hi : i < l.length) (s : Sea) (n n' k k' : Nat) (hn : l[i].st = n) (hn' : s.st = n') (hk : l[i].cl = k) (hk' : s.cl = k') (j : Nat) :
  bumpS n' k' 1 (bumpS n k (-1) (cS l)) j = cS (l.set i s) j := by
 rw [bump2]
 simp only [cS, nSold]
 rw [countP_set _ _ _ hi, sold_cast _ n hn, sold_cast _ n' hn', hk, hk', beq_cast, beq_cast]
theorem upd_small {f : Nat → Int} {n : Nat} {v : Int} (h : Small f) (hv : -100000 ≤ v ∧ v ≤ 100000) : Small (upd f n v) := fun j hj => by
 unfold upd
 split
 ·exact hv
 ·exact h j hj
structure FlX (w : World) (b : Nat) (p : Pla) (l : List Sea) (m : Nat) (es : List MEnt) (clock : Nat) : Prop where
 has : Has w b (fcells p (.map (some m)) l) 138
 map : w.heap[m]? = some (mapObj es clock)
 ok : MapOk es clock
 rel : MapRel es p l
def nextE (es : List MEnt) (clock : Nat) (s : Sea) : List MEnt × Nat := if s.st = 0 then (dropE es s.row s.col, clock) else putE es clock s.row s.col s.st s.pa s.cl s.un
theorem found_iff {es : List MEnt} {p : Pla} {l : List Sea} (h : MapRel es p l) {i : Nat} (hi : i < l.length) : (es.findIdx? (MEnt.is l[i].row l[i].col)).isSome = (l[i].st != 0) := by
 have h3 := h.seat i hi
 unfold lookE at h3
 rw [find?_idx] at h3
 cases hf : es.findIdx? (MEnt.is l[i].row l[i].col) with
 | none => rw [hf] at h3; simp at h3; simp [← h3.1]
 | some j =>
  have hj := (List.findIdx?_eq_some_iff_getElem.1 hf).1
  rw [hf] at h3
  simp [hj] at h3
  have := (h.ent _ (List.getElem_mem hj)).2
  simp
  omega
theorem nextE_size {es : List MEnt} {p : Pla} {l : List Sea} (h : MapRel es p l) {i : Nat} (hi : i < l.length) (s : Sea) (hr : s.row = l[i].row) (hc : s.col = l[i].col) (clock : Nat) :
  (nextE es clock s).1.length = (l.set i s).countP fun s => s.st != 0 := by
 have hf := found_iff h hi
 have hs := h.size
 have hcp := countP_set (fun s => s.st != 0) l i hi s
 have hpos : (l[i].st != 0) = true → 1 ≤ l.countP fun s => s.st != 0 := fun hp => List.countP_pos_iff.2 ⟨_, List.getElem_mem hi, hp⟩
 unfold nextE
 rw [hr, hc]
 by_cases h0 : s.st = 0
 ·rw [if_pos h0]
  cases hx : es.findIdx? (MEnt.is l[i].row l[i].col) with
  | none =>
   rw [hx] at hf
   rw [dropE_none hx]
   show es.length = _
   rw [← hf] at hcp
   simp [h0] at hcp
   omega
  | some j =>
   rw [hx] at hf
   have hj := (List.findIdx?_eq_some_iff_getElem.1 hx).1
   rw [dropE_some hx]
   show (es.eraseIdx j).length = _
   rw [List.length_eraseIdx, if_pos hj]
   have := hpos (by rw [← hf]; rfl)
   rw [← hf] at hcp
   simp [h0] at hcp
   omega
 ·rw [if_neg h0]
  have h0' : (s.st != 0) = true := by simp [h0]
  cases hx : es.findIdx? (MEnt.is l[i].row l[i].col) with
  | none =>
   rw [hx] at hf
   rw [putE_none hx]
   rw [← hf, h0'] at hcp
   simp at hcp
   simp
   omega
  | some j =>
   rw [hx] at hf
   rw [putE_some hx]
   rw [← hf, h0'] at hcp
   simp at hcp
   simp
   omega
theorem put_exact {b m clock : Nat} {p : Pla} {l : List Sea} {es : List MEnt} {w : World} (h : FlX w b p l m es clock) (hwf : Wf p l) (i : Nat) (hi : i < l.length) (s : Sea) (hs : s.wf) (hr : s.row = l[i].row) (hc : s.col = l[i].col) :
  Calls Try.prog 102 #[.pointer (some ⟨b, 0, none⟩), .agg #[.int .i64 s.row, .int .i64 s.col], .agg #[.int .i64 s.st, .int .i64 s.pa, .int .i64 s.cl, .int .i64 s.un]] w fun e w' =>
   e = .returned (.tuple #[]) ∧ FlX w' b p (l.set i s) m (nextE es clock s).1 (nextE es clock s).2 ∧ Mod (fun k => k = b ∨ k = m) w w' := by
 obtain ⟨h1, h2, h3, h4⟩ := h
 have ho := hwf.seat _ (List.getElem_mem hi)
 obtain ⟨n, hn⟩ := Int.eq_ofNat_of_zero_le ho.s0
 obtain ⟨k, hk⟩ := Int.eq_ofNat_of_zero_le ho.c0
 obtain ⟨n', hn'⟩ := Int.eq_ofNat_of_zero_le hs.s0
 obtain ⟨k', hk'⟩ := Int.eq_ofNat_of_zero_le hs.c0
 have bn : n < 4 := by have := ho.s1; omega
 have bk : k < 4 := by have := ho.c1; omega
 have bn' : n' < 4 := by have := hs.s1; omega
 have bk' : k' < 4 := by have := hs.c1; omega
 have hplace := (hwf.place_has hi).1
 simp only [Pla.has, decide_eq_true_eq] at hplace
 obtain ⟨B1, B2, B3, B4, _⟩ := hwf.bounds
 simp only at B1 B2 B3 B4
 have kr : 0 ≤ s.row ∧ s.row ≤ 1000 := by rw [hr]; omega
 have kc : 0 ≤ s.col ∧ s.col ≤ 1000 := by rw [hc]; omega
 have hlook := h4.seat i hi
 rw [← hr, ← hc] at hlook
 have hwf' := hwf.set hi hs hr hc
 have sm : ∀ j, 0 ≤ cA p l j ∧ cA p l j ≤ 1000 ∧ 0 ≤ cB p l j ∧ cB p l j ≤ 1000 ∧ 0 ≤ cS l j ∧ cS l j ≤ 1000 := counts_small hwf
 have sm' : ∀ j, 0 ≤ cA p (l.set i s) j ∧ cA p (l.set i s) j ≤ 1000 ∧ 0 ≤ cB p (l.set i s) j ∧ cB p (l.set i s) j ≤ 1000 ∧ 0 ≤ cS (l.set i s) j ∧ cS (l.set i s) j ≤ 1000 := counts_small hwf'
 have smA : Small (cA p l) := fun j _ => by have := sm j; omega
 have smB : Small (cB p l) := fun j _ => by have := sm j; omega
 have smS : Small (cS l) := fun j _ => by have := sm j; omega
 have smA1 : Small (if l[i].row ≤ p.front then upd (cA p l) n (cA p l n + -1) else cA p l) := by
  split
  ·exact upd_small smA (by have := sm n; omega)
  ·exact smA
 have smB1 : Small (if l[i].row ≤ p.front then cB p l else upd (cB p l) n (cB p l n + -1)) := by
  split
  ·exact smB
  ·exact upd_small smB (by have := sm n; omega)
 have smS1 : Small (bumpS n k (-1) (cS l)) := by
  unfold bumpS
  split
  ·exact upd_small smS (by have := sm k; omega)
  ·exact smS
 have eF : ∀ fe, fcf p (.map (some m)) (if l[i].row ≤ p.front then upd (if l[i].row ≤ p.front then upd (cA p l) n (cA p l n + -1) else cA p l) n' ((if l[i].row ≤ p.front then upd (cA p l) n (cA p l n + -1) else cA p l) n' + 1) else (if l[i].row ≤ p.front then upd (cA p l) n (cA p l n + -1) else cA p l))
   (if l[i].row ≤ p.front then (if l[i].row ≤ p.front then cB p l else upd (cB p l) n (cB p l n + -1)) else upd (if l[i].row ≤ p.front then cB p l else upd (cB p l) n (cB p l n + -1)) n' ((if l[i].row ≤ p.front then cB p l else upd (cB p l) n (cB p l n + -1)) n' + 1))
   (bumpS n' k' 1 (bumpS n k (-1) (cS l))) fe = fcf p (.map (some m)) (cA p (l.set i s)) (cB p (l.set i s)) (cS (l.set i s)) fe := fun fe =>
  fcf_congr (fun j _ => cA_set p hi s n n' hn hn' hr j) (fun j _ => cB_set p hi s n n' hn hn' hr j) (fun j _ => cS_set hi s n n' k k' hn hn' hk hk' j) (fun _ _ => rfl)
 have hlk : lookE es s.row s.col = ((n : Int), l[i].pa, (k : Int), l[i].un) := by rw [hlook, hn, hk]
 have en0 : n' = 0 → nextE es clock s = (dropE es s.row s.col, clock) := fun h0 => by unfold nextE; rw [if_pos (by rw [hn', h0]; rfl)]
 have en1 : n' ≠ 0 → nextE es clock s = putE es clock s.row s.col n' s.pa k' s.un := fun h0 => by unfold nextE; rw [if_neg (by rw [hn']; omega), hn', hk']
 have hwalk := put_walk b m n k n' k' p (cA p l) (cB p l) (cS l) (cE p l) _ _ _ _ _ _ (cE p (l.set i s)) s.row s.col l[i].pa l[i].un s.pa s.un w es
  (nextE es clock s).1 clock (nextE es clock s).2 h1 h2
  (fun W hW => by
   have := run_lookup W m es clock hW h3 s.row s.col kr kc
   rw [hlk] at this
   exact this)
  (fun h0 W ty hW => by
   rw [en0 h0]
   exact run_delete W m es clock ty hW h3 s.row s.col kr kc)
  (fun h0 W hW => by
   rw [en1 h0]
   have := run_update W m es clock hW h3 s.row s.col n' s.pa k' s.un kr kc
   unfold putE
   cases hf : es.findIdx? (MEnt.is s.row s.col) <;> rw [hf] at this <;> exact this)
  (fun W hW => tally_any b n k p _ _ _ _ _ s.row s.col l[i].pa l[i].un (-1) W hW bn bk smA smB smS (by omega))
  (fun W hW => tally_any b n' k' p _ _ _ _ _ s.row s.col s.pa s.un 1 W hW bn' bk' (by rw [hr]; exact smA1) (by rw [hr]; exact smB1) smS1 (by omega))
  (fun W hW => by
   rw [hr] at hW ⊢
   rw [eF] at hW ⊢
   obtain ⟨c0, c1, c2, c3⟩ := cE_eq hwf'
   have ls := lim_small hwf.limited
   simp only at ls
   refine (reckon_any b p.rows p.cols p.front p.l0 p.l1 p.l2 p.l3 _ _ _ _ _ _ _ _ _ _ _ _ _ _ _ _ _ _ W hW (by have := sm' 0; omega) (by have a0 := sm' 0; have a1 := sm' 1; have a2 := sm' 2; have a3 := sm' 3; omega) ls).mono ?_
   rintro e w' ⟨rfl, hm, hh⟩
   refine ⟨rfl, hm, ?_⟩
   rw [← c0, ← c1, ← c2, ← c3] at hh
   exact hh)
 rw [hn', hk']
 refine hwalk.mono ?_
 rintro e w' ⟨rfl, hm, hh, hmap⟩
 rw [hr, eF] at hh
 refine ⟨rfl, ⟨hh, hmap, ?_, ?_⟩, hm⟩
 ·by_cases h0 : n' = 0
  ·rw [en0 h0]; exact h3.drop _ _
  ·rw [en1 h0]; exact h3.put _ _ _ _ _ _ kr kc
 ·constructor
  ·intro e he
   by_cases h0 : n' = 0
   ·rw [en0 h0] at he
    exact h4.ent e (dropE_mem he)
   ·rw [en1 h0] at he
    rcases putE_mem he with h | ⟨e1, e2, e3⟩
    ·exact h4.ent e h
    ·refine ⟨?_, by rw [e3]; omega⟩
     rw [e1, e2, hr, hc]
     exact (hwf.place_has hi).1
  ·intro j hj
   have hj' : j < l.length := by simpa using hj
   have hlk' : lookE (nextE es clock s).1 (l.set i s)[j].row (l.set i s)[j].col =
     if (l.set i s)[j].row = s.row ∧ (l.set i s)[j].col = s.col then (s.st, s.pa, s.cl, s.un) else lookE es (l.set i s)[j].row (l.set i s)[j].col := by
    by_cases h0 : n' = 0
    ·rw [en0 h0]
     have hb := hs.bare (.inl (by rw [hn', h0]; rfl))
     rw [look_drop h3, hn', h0, hb.1, hb.2.1, hb.2.2]
     rfl
    ·rw [en1 h0, look_put h3, hn', hk']
   rw [hlk']
   simp only [List.getElem_set]
   by_cases e : i = j
   ·subst e
    simp
   ·simp only [e, if_false]
    rw [if_neg (fun hh => e (hwf.place_inj hi hj' (by rw [← hr, hh.1]) (by rw [← hc, hh.2])))]
    exact h4.seat j hj'
  ·exact nextE_size h4 hi s hr hc clock
theorem put_any {S : Nat → Prop} {b : Nat} {p : Pla} {l : List Sea} {w : World} (h : FlH w S b p l) (hwf : Wf p l) (i : Nat) (hi : i < l.length) (s : Sea) (hs : s.wf) (hr : s.row = l[i].row) (hc : s.col = l[i].col) :
  Calls Try.prog 102 #[.pointer (some ⟨b, 0, none⟩), .agg #[.int .i64 s.row, .int .i64 s.col], .agg #[.int .i64 s.st, .int .i64 s.pa, .int .i64 s.cl, .int .i64 s.un]] w fun e w' =>
   e = .returned (.tuple #[]) ∧ FlH w' S b p (l.set i s) ∧ Mod S w w' := by
 obtain ⟨m, es, clock, h1, h2, h3, h4, h5, h6⟩ := h
 refine (put_exact ⟨h1, h2, h3, h4⟩ hwf i hi s hs hr hc).mono ?_
 rintro e w' ⟨rfl, hh, hm⟩
 exact ⟨rfl, ⟨m, _, _, hh.has, hh.map, hh.ok, hh.rel, h5, h6⟩, hm.mono (fun k _ hk => by rcases hk with rfl | rfl; exact h5; exact h6)⟩
end Go.Proofs.Ythhibagcpjeihaa
