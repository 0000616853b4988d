import Derived.Test.YthhibagcpjeihaaLSwap4ToWho1
import Derived.Test.YthhibagcpjeihaaLKSToRd7
namespace Go.Proofs.Ythhibagcpjeihaa
open Go.RowKit
open Go.ChangeMaps (setBlock)
open M
set_option linter.unusedVariables false
set_option linter.unusedSimpArgs false
set_option maxRecDepth 100000
def entOf (now : Int) (c : Cmd) : Ent :=
 ⟨c.flight,
  if c.kind = 1 then 1 else if c.kind = 8 then 6 else if c.kind = 9 then 5 else if c.kind = 2 ∨ c.kind = 3 ∨ c.kind = 6 then 2 else if c.kind = 5 then 4 else 3,
  c.pla,
  if c.kind = 2 then ⟨c.ar, c.ac, 1, c.party, c.cls, c.time⟩ else if c.kind = 3 then ⟨c.ar, c.ac, 2, c.party, c.cls, 0⟩ else if c.kind = 6 then ⟨c.ar, c.ac, 3, 0, 0, 0⟩ else ⟨c.ar, c.ac, 0, 0, 0, 0⟩,
  c.tr, c.tc, now + c.time, []⟩
theorem chV_start {now : Int} {c : Cmd} (h : c.kind = 1) : chV (entOf now c) = startV c.pla := by
 unfold chV entOf
 simp only [h, if_true]
theorem chV_pass {now : Int} {c : Cmd} (h : c.kind = 8) : chV (entOf now c) = passV (now + c.time) := by
 unfold chV entOf
 simp [h]
theorem chV_seat {now : Int} {c : Cmd} (h : 2 ≤ c.kind ∧ c.kind ≤ 9 ∧ c.kind ≠ 8) : chV (entOf now c) = changeV c := by
 unfold chV entOf changeV
 have : c.kind = 2 ∨ c.kind = 3 ∨ c.kind = 4 ∨ c.kind = 5 ∨ c.kind = 6 ∨ c.kind = 7 ∨ c.kind = 9 := by omega
 rcases this with e | e | e | e | e | e | e <;> simp [e]
theorem fit_start {now : Int} {c : Cmd} (h : c.kind = 1) (hf : 1 ≤ c.flight ∧ c.flight ≤ 20) (h1 : c.pla.sized = true) (h2 : c.pla.limited = true) : CFit now (entOf now c) := by
 have hk : (entOf now c).kind = 1 := by unfold entOf; simp [h]
 simp only [Pla.sized, decide_eq_true_eq] at h1
 simp only [Pla.limited, decide_eq_true_eq] at h2
 refine ⟨by omega, fun _ => ⟨by show 0 ≤ c.flight; omega, by show c.flight < 32; omega⟩, fun _ => ⟨⟨by show 0 ≤ c.pla.rows; omega, by show c.pla.rows < 128; omega⟩, ⟨by show 0 ≤ c.pla.cols; omega, by show c.pla.cols < 128; omega⟩, ⟨by show 0 ≤ c.pla.front; omega, by show c.pla.front < 128; omega⟩, fun k => ?_⟩, fun e => by omega, fun e => by omega, fun e => by omega, fun e => by omega, fun e => by omega⟩
 show 0 ≤ c.pla.lim k ∧ c.pla.lim k < 16384
 match k with
 | 0 => simp only [Pla.lim]; omega
 | 1 => simp only [Pla.lim]; omega
 | 2 => simp only [Pla.lim]; omega
 | k + 3 => simp only [Pla.lim]; omega
theorem fit_pass {now : Int} {c : Cmd} (h : c.kind = 8) (ht : 1 ≤ c.time ∧ c.time ≤ 100) (hn : 0 ≤ now ∧ now ≤ 4611686018427387000) : CFit now (entOf now c) := by
 have hk : (entOf now c).kind = 6 := by unfold entOf; simp [h]
 exact ⟨by omega, fun e => absurd hk e, fun e => by omega, fun e => by omega, fun e => by omega, fun e => by omega, fun e => by omega, fun _ => ⟨hn.1, by show now ≤ now + c.time; omega, by show now + c.time ≤ 4611686018427387904; omega⟩⟩
theorem has_rng {p : Pla} {l : List Sea} (hwf : Wf p l) {r c : Int} (h : p.has r c = true) : (1 ≤ r ∧ r ≤ 20) ∧ (1 ≤ c ∧ c ≤ 6) := by
 have hb := Fli.wf.bounds hwf
 simp only [Pla.has, decide_eq_true_eq] at h
 simp only at hb
 omega
theorem fit_seat {now : Int} {p : Pla} {l : List Sea} {c : Cmd} (h : 2 ≤ c.kind ∧ c.kind ≤ 9 ∧ c.kind ≠ 8) (hf : 1 ≤ c.flight ∧ c.flight ≤ 20) (hwf : Wf p l) (hn : 0 ≤ now ∧ now ≤ 4611686018427387000) (he : seatErr p l c now = 0) : CFit now (entOf now c) := by
 have hfl : (entOf now c).kind ≠ 6 → 0 ≤ (entOf now c).fl ∧ (entOf now c).fl < 32 := fun _ => ⟨by show 0 ≤ c.flight; omega, by show c.flight < 32; omega⟩
 by_cases h9 : c.kind = 9
 ·have hk : (entOf now c).kind = 5 := by unfold entOf; simp [h9]
  unfold seatErr at he
  rw [if_pos h9] at he
  by_cases hq : c.pla.sized = true ∧ ¬ (c.pla.rows * c.pla.cols < (nFull l : Int))
  case neg => rw [if_neg hq] at he; exact absurd he (by omega)
  have h1 := hq.1
  simp only [Pla.sized, decide_eq_true_eq] at h1
  exact ⟨by omega, hfl, fun e => by omega, fun e => by omega, fun e => by omega, fun e => by omega, fun _ => ⟨⟨by show 0 ≤ c.pla.rows; omega, by show c.pla.rows < 128; omega⟩, ⟨by show 0 ≤ c.pla.cols; omega, by show c.pla.cols < 128; omega⟩, ⟨by show 0 ≤ c.pla.front; omega, by show c.pla.front < 128; omega⟩⟩, fun e => by omega⟩
 obtain ⟨_, hat, h5, h2, h3⟩ := seatErr_zero he h9
 have ra := has_rng hwf hat
 by_cases k2 : c.kind = 2
 ·have hk : (entOf now c).kind = 2 := by unfold entOf; simp [k2]
  have hs : (entOf now c).sea = ⟨c.ar, c.ac, 1, c.party, c.cls, c.time⟩ := by unfold entOf; simp [k2]
  have hb := buyer_ok (h2 k2).1
  have ht := h2 k2
  refine ⟨by omega, hfl, fun e => by omega, fun _ => ?_, fun e => by omega, fun e => by omega, fun e => by omega, fun e => by omega⟩
  rw [hs]
  exact ⟨ra.1, ra.2, by simp, by simp only; omega, by simp only; omega, fun _ => by simp only; omega, by omega⟩
 by_cases k3 : c.kind = 3
 ·have hk : (entOf now c).kind = 2 := by unfold entOf; simp [k3]
  have hs : (entOf now c).sea = ⟨c.ar, c.ac, 2, c.party, c.cls, 0⟩ := by unfold entOf; simp [k3]
  have hb := buyer_ok (h3 k3)
  refine ⟨by omega, hfl, fun e => by omega, fun _ => ?_, fun e => by omega, fun e => by omega, fun e => by omega, fun e => by omega⟩
  rw [hs]
  exact ⟨ra.1, ra.2, by simp, by simp only; omega, by simp only; omega, fun e => by simp at e, by omega⟩
 by_cases k6 : c.kind = 6
 ·have hk : (entOf now c).kind = 2 := by unfold entOf; simp [k6]
  have hs : (entOf now c).sea = ⟨c.ar, c.ac, 3, 0, 0, 0⟩ := by unfold entOf; simp [k6]
  refine ⟨by omega, hfl, fun e => by omega, fun _ => ?_, fun e => by omega, fun e => by omega, fun e => by omega, fun e => by omega⟩
  rw [hs]
  exact ⟨ra.1, ra.2, by simp, by simp, by simp, fun e => by simp at e, by omega⟩
 have hs : (entOf now c).sea = ⟨c.ar, c.ac, 0, 0, 0, 0⟩ := by unfold entOf; simp [k2, k3, k6]
 by_cases k5 : c.kind = 5
 ·have hk : (entOf now c).kind = 4 := by unfold entOf; simp [k5]
  have rt := has_rng hwf (h5 k5).1
  exact ⟨by omega, hfl, fun e => by omega, fun e => by omega, fun _ => by rw [hs]; exact ra, fun _ => rt, fun e => by omega, fun e => by omega⟩
 ·have hk : (entOf now c).kind = 3 := by
   have : c.kind = 4 ∨ c.kind = 7 := by omega
   unfold entOf
   rcases this with e | e <;> simp [e]
  exact ⟨by omega, hfl, fun e => by omega, fun e => by omega, fun _ => by rw [hs]; exact ra, fun e => by omega, fun e => by omega, fun e => by omega⟩
def doT (now : Int) (fl : Nat → Option (Pla × List Sea)) (K : KS) (c : Cmd) : Int × Int × (Nat → Option (Pla × List Sea)) × KS :=
 if (doK now fl c).1 ≠ 0 then ((doK now fl c).1, now, fl, K)
 else if (saveK K (wholeK now fl) (recB now [entOf now c])).1 = 0 then (0, (doK now fl c).2.1, (doK now fl c).2.2, (saveK K (wholeK now fl) (recB now [entOf now c])).2)
 else ((saveK K (wholeK now fl) (recB now [entOf now c])).1, now, fl, (saveK K (wholeK now fl) (recB now [entOf now c])).2)
structure DoneT (w w' : World) (ow : Nat → Nat) (kb : Nat) (pt : Nat → Option Nat) (now : Int) (fl : Nat → Option (Pla × List Sea)) (K : KS) : Prop where
 ex : ∃ ow' pt', KeepT w' ow' kb now pt' fl K ∧ (∀ k, k < w.heap.size → ow' k = ow k) ∧ ∀ i, 21 ≤ i → i < 29 → pt' i = pt i
 mod : Mod (fun k => ow k ≠ 0) w w'
theorem DoneT.same {w w' : World} {ow : Nat → Nat} {kb : Nat} {now : Int} {pt : Nat → Option Nat} {fl : Nat → Option (Pla × List Sea)} {K : KS} (h : KeepT w ow kb now pt fl K) (hm : Mod No w w') : DoneT w w' ow kb pt now fl K :=
 ⟨⟨ow, pt, h.mod0 hm, fun _ _ => rfl, fun _ _ _ => rfl⟩, hm.mono (fun _ _ x => x.elim)⟩
theorem DoneT.first {a w w' : World} {ow : Nat → Nat} {kb : Nat} {pt : Nat → Option Nat} {now : Int} {fl : Nat → Option (Pla × List Sea)} {K : KS} (h : DoneT w w' ow kb pt now fl K) (hm : Mod No a w) : DoneT a w' ow kb pt now fl K := by
 obtain ⟨⟨ow', pt', q, ho, hp⟩, m⟩ := h
 exact ⟨⟨ow', pt', q, fun k hk => ho k (Nat.lt_of_lt_of_le hk hm.size), hp⟩, (hm.mono (fun _ _ x => x.elim)).trans m⟩
theorem DoneT.applied {w w2 w' : World} {ow : Nat → Nat} {kb : Nat} {now now' : Int} {pt : Nat → Option Nat} {fl fl' : Nat → Option (Pla × List Sea)} {K' : KS} (hold : ∀ k, ow k ≠ 0 → k < w.heap.size) (hs : ∃ ow2 pt2, KeepT w2 ow2 kb now pt2 fl K' ∧ (∀ k, k < w.heap.size → ow2 k = ow k) ∧ (∀ j, j < 29 → pt2 j = pt j) ∧ KeptX w2 w' ow2 kb pt2 now' fl') (hm : Mod (fun k => ow k ≠ 0) w w2) : DoneT w w' ow kb pt now' fl' K' := by
 obtain ⟨ow2, pt2, h, ho, hp, ⟨⟨ow', pt', hx, ho', hp'⟩, m'⟩⟩ := hs
 have hsz := hm.size
 refine ⟨⟨ow', pt', ⟨hx, ?_, ?_, ?_, ?_⟩, fun k hk => by rw [ho' k (by omega), ho k hk], fun i h1 h2 => by rw [hp' i h1, hp i h2]⟩, hm.trans' m' (fun k hk hl => by
  have hk : ow2 k ≠ 0 ∧ ow2 k < 30 := hk
  rw [ho k hl] at hk
  exact hk.1)⟩
 ·rw [hp' 29 (by omega)]; exact h.ptr
 ·have := h.file
  unfold fileN at this ⊢
  rw [hp' 30 (by omega)]; exact this
 ·have := h.torn
  unfold tornB at this ⊢
  rw [hp' 31 (by omega)]; exact this
 ·refine (h.tape.mod m' (fun k hk hk' => by omega)).narrow.wide (fun k ⟨hk, hl⟩ => ?_)
  have := h.keep.old k (by omega)
  rw [ho' k this]
  exact hk
set_option maxHeartbeats 2000000
theorem taWhole (v : Value) (w : World) : (Instr.typeAssert (.iface 177 v) 120 144 true).run Try.prog w = .ok (.tuple #[.agg #[.int .i64 0], .bool false]) w := by kernel_rfl
theorem nilAheadWhole (v : Value) (w : World) : (nilAhead 331 177 v "Do").run Try.prog w = .ok (some false) w := by kernel_rfl
theorem methodWhole (v : Value) (w : World) : (method 331 177 v "Do").run Try.prog w = .ok (132, v) w := by kernel_rfl
attribute [local go_sem] taWhole nilAheadWhole methodWhole
theorem apply_newW (kb n : Nat) (hn : 1 ≤ n ∧ n ≤ 20) (now : Int) (pt : Nat → Option Nat) (p : Pla) (sv : Value) (w : World) (P : World → Prop) (h : Has w kb (keepCells now pt) 117) (hc : pt n = none)
  (hC : ∀ W, Mod (fun k => k = kb) w W → Has W kb (keepCells now (updP pt n (w.heap.size + 2))) 117 → Has W (w.heap.size + 2) (fcs 0 0 0 0 0 0 0 (.map none) 0 0 0 0 0 0 0 0 0 0 0 0 0 0 0 0 0) 138 →
   Calls Try.prog 132 #[.agg #[.int .i64 p.rows, .int .i64 p.cols, .int .i64 p.front, .int .i64 p.l0, .int .i64 p.l1, .int .i64 p.l2, .int .i64 p.l3, sv, .int .i64 p.ep], .pointer (some ⟨w.heap.size + 2, 0, none⟩)] W fun e w' => e = .returned (.tuple #[]) ∧ P w') :
  Calls Try.prog 50 #[.pointer (some ⟨kb, 0, none⟩), .agg #[.int .i64 n, .iface 177 (.agg #[.int .i64 p.rows, .int .i64 p.cols, .int .i64 p.front, .int .i64 p.l0, .int .i64 p.l1, .int .i64 p.l2, .int .i64 p.l3, sv, .int .i64 p.ep])]] w fun e w' => e = .returned (.tuple #[]) ∧ P w' := by
 have HC := hide hC
 have m0 : Mod No w ((w.alloc (.cells #[.int .i64 n, .iface 177 (.agg #[.int .i64 p.rows, .int .i64 p.cols, .int .i64 p.front, .int .i64 p.l0, .int .i64 p.l1, .int .i64 p.l2, .int .i64 p.l3, sv, .int .i64 p.ep])] 124)).alloc (.cells #[.int .i64 0] 144)) := ((Mod.refl _ w).alloc _).alloc _
 have h0 := m0.has h (fun x => x)
 have b0 : Has ((w.alloc (.cells #[.int .i64 n, .iface 177 (.agg #[.int .i64 p.rows, .int .i64 p.cols, .int .i64 p.front, .int .i64 p.l0, .int .i64 p.l1, .int .i64 p.l2, .int .i64 p.l3, sv, .int .i64 p.ep])] 124)).alloc (.cells #[.int .i64 0] 144)) w.heap.size #[.int .i64 n, .iface 177 (.agg #[.int .i64 p.rows, .int .i64 p.cols, .int .i64 p.front, .int .i64 p.l0, .int .i64 p.l1, .int .i64 p.l2, .int .i64 p.l3, sv, .int .i64 p.ep])] 124 := (Has.new w _ _).alloc _
 have H0 := hide h0
 have M0 := hide m0
 have B0 := hide b0
 have S0 := hide (show ((w.alloc (.cells #[.int .i64 n, .iface 177 (.agg #[.int .i64 p.rows, .int .i64 p.cols, .int .i64 p.front, .int .i64 p.l0, .int .i64 p.l1, .int .i64 p.l2, .int .i64 p.l3, sv, .int .i64 p.ep])] 124)).alloc (.cells #[.int .i64 0] 144)).heap.size = w.heap.size + 2 by simp)
 have h3 : (n : Int) < 21 := by omega
 have h4 : (0 : Int) ≤ n := by omega
 have HH := hide h
 have HCC := hide hc
 clear h hc hC m0 h0 b0
 go_enter Try.func50, Try.ntmps50
 go_upto_region 4 with fail
 generalize (w.alloc (.cells #[.int .i64 n, .iface 177 (.agg #[.int .i64 p.rows, .int .i64 p.cols, .int .i64 p.front, .int .i64 p.l0, .int .i64 p.l1, .int .i64 p.l2, .int .i64 p.l3, sv, .int .i64 p.ep])] 124)).alloc (.cells #[.int .i64 0] 144) = w0 at *
 have c := (unhide H0).cell (1 + n)
 rw [keep_at now pt n (by omega), unhide HCC, show pv none = .pointer none from rfl] at c
 have e0 : w0.cell? ⟨w.heap.size, 0, none⟩ = some (.int .i64 n) := (unhide B0).cell 0
 have e1 : w0.cell? ⟨w.heap.size, 1, none⟩ = some (.iface 177 (.agg #[.int .i64 p.rows, .int .i64 p.cols, .int .i64 p.front, .int .i64 p.l0, .int .i64 p.l1, .int .i64 p.l2, .int .i64 p.l3, sv, .int .i64 p.ep])) := (unhide B0).cell 1
 have lk := (unhide H0).lt
 have lb := (unhide B0).lt
 have fz := (unhide H0).frozen (1 + n)
 have S1 := unhide S0
 rw [S1] at lk lb
 have NE := hide (show w.heap.size ≠ kb from fun e => by have := (unhide HH).lt; omega)
 go_quiet (fail)
 go_wp2_with fail
 go_region
 have nx := newF4 (w0 := w0.drewN (nq + 1)) hn ((unhide H0).drewN _) ((unhide M0).drewN _) S1
 have bx : Has (((w0.drewN (nq + 1)).setCell ⟨kb, 1 + n, none⟩ (.pointer (some ⟨w.heap.size + 2, 0, none⟩))).alloc (.cells flight0 138)) w.heap.size _ _ := (((unhide B0).drewN (nq + 1)).set_ne (a := ⟨kb, 1 + n, none⟩) (unhide NE) _).alloc _
 have NX := hide nx
 have BX := hide bx
 clear nx bx c e0 e1 lk lb fz S1 H0 M0 B0 S0
 unfold flight0 at NX BX
 generalize ((w0.drewN (nq + 1)).setCell ⟨kb, 1 + n, none⟩ (.pointer (some ⟨w.heap.size + 2, 0, none⟩))).alloc (.cells #[.int .i64 0, .int .i64 0, .int .i64 0, .int .i64 0, .int .i64 0, .int .i64 0, .int .i64 0, .map none, .int .i64 0, .int .i64 0, .int .i64 0, .int .i64 0, .int .i64 0, .int .i64 0, .int .i64 0, .int .i64 0, .int .i64 0, .int .i64 0, .int .i64 0, .int .i64 0, .int .i64 0, .int .i64 0, .int .i64 0, .int .i64 0, .int .i64 0] 138) = w5 at *
 have c5 := (unhide NX).keep.cell (1 + n)
 rw [keep_at now _ n (by omega), show pv (updP pt n (w.heap.size + 2) n) = .pointer (some ⟨w.heap.size + 2, 0, none⟩) by simp [updP, pv]] at c5
 have e0 : w5.cell? ⟨w.heap.size, 0, none⟩ = some (.int .i64 n) := (unhide BX).cell 0
 have e1 : w5.cell? ⟨w.heap.size, 1, none⟩ = some (.iface 177 (.agg #[.int .i64 p.rows, .int .i64 p.cols, .int .i64 p.front, .int .i64 p.l0, .int .i64 p.l1, .int .i64 p.l2, .int .i64 p.l3, sv, .int .i64 p.ep])) := (unhide BX).cell 1
 have l5 := (unhide NX).keep.lt
 have lb5 := (unhide BX).lt
 go_wp2_with fail
 go_region_with (go_at_call 132; refine ((unhide HC) _ (unhide NX).mod.drew (unhide NX).keep.drew (unhide NX).fli.drew).mono ?_; rintro e w1 ⟨rfl, p1⟩)
 all_goals go_wp2
 all_goals go_end0
 all_goals exact ⟨rfl, p1⟩
theorem apply_whole {w : World} {ow : Nat → Nat} {kb : Nat} {now : Int} {pt : Nat → Option Nat} {fl : Nat → Option (Pla × List Sea)} (h : KeepX w ow kb now pt fl) (n : Nat) (hn : 1 ≤ n ∧ n ≤ 20) (hfl : fl n = none) (p : Pla) (h1 : p.sized = true) (h2 : p.limited = true) {a : Option Addr} {cap : Nat} {ss : List Sea} (hs : ∀ s ∈ ss, PutOk p s) (hl : ss.length ≤ 120)
  (hr : w.ownsRow 0 180 6 (.slice a ss.length cap) ss.length (ss.flatMap fillL)) :
  Calls Try.prog 50 #[.pointer (some ⟨kb, 0, none⟩), .agg #[.int .i64 n, .iface 177 (.agg (wholeL p (.slice a ss.length cap)).toArray)]] w fun e w' =>
   e = .returned (.tuple #[]) ∧ KeptX w w' ow kb pt now (fun j => if j = n then some (p, putsL p (emptySeats p) ss) else fl j) := by
 have hrk : ∀ g, (Value.slice a ss.length cap).ownBlock = some g → g ≠ kb := fun g hg e => by
  obtain ⟨_, q1 | ⟨g', cp, cur, q1, _, hh, _⟩⟩ := hr
  ·rw [q1.1] at hg; simp [Value.ownBlock] at hg
  ·rw [q1] at hg
   simp [Value.ownBlock] at hg
   subst hg
   exact h.has.ne hh (by decide) e.symm
 refine apply_newW kb n hn now pt p (.slice a ss.length cap) w _ h.has (h.gone n (by omega) hfl) (fun W hW hk hb => ?_)
 have hs' : w.heap.size ≤ W.heap.size := hW.size
 have hbl := hb.lt
 refine (whole_do hb h1 h2 hs hl (hW.owns hr hrk) (fun g hg e => by have := (hr.lt g hg).2; omega)).mono ?_
 rintro e w' ⟨rfl, hf, hm⟩
 refine ⟨rfl, ⟨fun k => if k < w.heap.size then ow k else if k = w.heap.size + 2 ∨ (W.heap.size ≤ k ∧ k < w'.heap.size) then n + 2 else 0, updP pt n (w.heap.size + 2), ?_, fun k hk => by simp [hk], fun i hi => by simp only [updP]; rw [if_neg (by omega)]⟩, ?_⟩
 ·have kl : kb < w.heap.size := h.has.lt
  have hm' : Mod (fun k => k = w.heap.size + 2) W w' := hm
  have hsz : W.heap.size ≤ w'.heap.size := hm.size
  refine ⟨hm'.has hk (by omega), by simp [kl, h.mine], fun k hk' => ?_, fun j hj hn' => ?_, fun j p' l' hj hn' => ?_⟩
  ·split at hk'
   ·omega
   ·split at hk'
    ·rename_i e; rcases e with e | e <;> omega
    ·exact absurd rfl hk'
  ·by_cases e : j = n
   ·rw [if_pos e] at hn'; exact absurd hn' (by simp)
   ·rw [if_neg e] at hn'
    simp only [updP, if_neg e]
    exact h.gone j hj hn'
  ·by_cases e : j = n
   ·rw [if_pos e] at hn'
    simp only [Option.some.injEq, Prod.mk.injEq] at hn'
    obtain ⟨rfl, rfl⟩ := hn'
    subst e
    refine ⟨w.heap.size + 2, by simp [updP], putsL_wf _ (empty_wf h1 h2) hs, ?_⟩
    refine hf.narrow.wide (fun k ⟨hk1, hk2⟩ => ?_)
    have : ¬ k < w.heap.size := by rcases hk1 with e | e <;> omega
    have h3 : k = w.heap.size + 2 ∨ (W.heap.size ≤ k ∧ k < w'.heap.size) := by rcases hk1 with e | e; exact .inl e; exact .inr ⟨e, hk2⟩
    simp only [if_neg this, if_pos h3]
   ·rw [if_neg e] at hn'
    obtain ⟨b', e1, e2, e3⟩ := h.here j p' l' hj hn'
    refine ⟨b', by simp only [updP, if_neg e]; exact e1, e2, ?_⟩
    have f1 : FlH W (fun k => ow k = j + 2) b' p' l' := e3.mod hW (fun k hk' e => by subst e; rw [h.mine] at hk'; omega)
    have f2 : FlH w' (fun k => ow k = j + 2) b' p' l' := f1.mod hm' (fun k hk' e => by
     subst e
     have := h.old _ (show ow (w.heap.size + 2) ≠ 0 by omega)
     omega)
    refine f2.wide (fun k hk' => ?_)
    have := h.old k (by omega)
    simp only [if_pos this]
    exact hk'
 ·refine (hW.mono (fun k _ (e : k = kb) => by subst e; show ow k ≠ 0 ∧ ow k < 30; rw [h.mine]; omega)).trans' hm (fun i (e : i = w.heap.size + 2) hl => by omega)
theorem putsL_off {p : Pla} {i : Nat} : ∀ (ss acc : List Sea), (∀ s ∈ ss, p.idx s.row s.col ≠ i) → (putsL p acc ss)[i]? = acc[i]?
 | [], _, _ => rfl
 | s :: ss, acc, h => by
  show (putsL p (acc.set (p.idx s.row s.col) s) ss)[i]? = _
  rw [putsL_off ss _ (fun x hx => h x (by simp [hx])), List.getElem?_set_ne (h s (by simp))]
theorem putsL_on {p : Pla} {i : Nat} {s : Sea} : ∀ (ss acc : List Sea), i < acc.length → s ∈ ss → (∀ x ∈ ss, p.idx x.row x.col = i → x = s) → p.idx s.row s.col = i → (putsL p acc ss)[i]? = some s
 | [], _, _, h, _, _ => by simp at h
 | x :: ss, acc, hi, hm, hu, he => by
  show (putsL p (acc.set (p.idx x.row x.col) x) ss)[i]? = _
  by_cases hs : s ∈ ss
  ·exact putsL_on ss _ (by simpa using hi) hs (fun y hy => hu y (by simp [hy])) he
  ·obtain rfl : s = x := by
    rcases List.mem_cons.1 hm with q | q
    ·exact q
    ·exact absurd q hs
   rw [putsL_off ss _ (fun y hy e => hs (by rw [← hu y (by simp [hy]) e]; exact hy)), he, List.getElem?_set_self hi]
theorem empty_len {p : Pla} {l : List Sea} (h : Wf p l) : (emptySeats p).length = l.length := by
 have h1 := h.len
 simp only at h1
 simp [emptySeats]
 omega
theorem putsL_all {p : Pla} {l : List Sea} (h : Wf p l) : putsL p (emptySeats p) (l.filter fun s => s.st != 0) = l := by
 apply List.ext_getElem?
 intro i
 by_cases hi : i < l.length
 ·have hpl := Fli.wf.place_has h hi
  simp only at hpl
  have huni : ∀ j (hj : j < l.length), p.idx l[j].row l[j].col = i → j = i := fun j hj e => by
   have := (Fli.wf.place_has h hj).2
   simp only at this
   omega
  rw [List.getElem?_eq_getElem hi]
  by_cases h0 : l[i].st = 0
  ·rw [putsL_off _ _ (fun s hs e => by
    obtain ⟨hs1, hs2⟩ := List.mem_filter.1 hs
    obtain ⟨j, hj, rfl⟩ := List.getElem_of_mem hs1
    obtain rfl := huni j hj e
    simp [h0] at hs2)]
   have hp := h.place i hi
   have hb := (h.seat l[i] (List.getElem_mem hi)).bare (.inl h0)
   simp only at hp
   rw [List.getElem?_eq_getElem (by rw [empty_len h]; exact hi)]
   simp only [emptySeats, List.getElem_map, List.getElem_range, Option.some.injEq]
   rw [← hp.1, ← hp.2]
   generalize l[i] = s at *
   obtain ⟨r, c, st, pa, cl, un⟩ := s
   simp only at h0 hb
   rw [h0, hb.1, hb.2.1, hb.2.2]
  ·exact putsL_on _ _ (by rw [empty_len h]; exact hi) (List.mem_filter.2 ⟨List.getElem_mem hi, by simpa using h0⟩) (fun s hs e => by
    obtain ⟨hs1, hs2⟩ := List.mem_filter.1 hs
    obtain ⟨j, hj, rfl⟩ := List.getElem_of_mem hs1
    obtain rfl := huni j hj e
    rfl) hpl.2
 ·rw [List.getElem?_eq_none (by rw [putsL_len, empty_len h]; omega), List.getElem?_eq_none (by omega)]
theorem filter_ok {p : Pla} {l : List Sea} (h : Wf p l) : ∀ s ∈ l.filter (fun s => s.st != 0), PutOk p s := fun s hs => by
 obtain ⟨hs1, _⟩ := List.mem_filter.1 hs
 obtain ⟨j, hj, rfl⟩ := List.getElem_of_mem hs1
 exact ⟨h.seat _ hs1, (Fli.wf.place_has h hj).1⟩
theorem apply_cmd {w : World} {ow : Nat → Nat} {kb : Nat} {now now' : Int} {pt : Nat → Option Nat} {fl fl' : Nat → Option (Pla × List Sea)} (h : KeepX w ow kb now pt fl) (hn : 0 ≤ now ∧ now ≤ 4611686018427387000) (c : Cmd) (hd : doK now fl c = (0, now', fl')) (f : Int) (hf : c.kind ≠ 8 → f = c.flight) :
  Calls Try.prog 50 #[.pointer (some ⟨kb, 0, none⟩), .agg #[.int .i64 f, chV (entOf now c)]] w fun e w' => e = .returned (.tuple #[]) ∧ KeptX w w' ow kb pt now' fl' := by
 unfold doK at hd
 by_cases hbad : c.kind < 1 ∨ c.kind > 9
 ·rw [if_pos hbad] at hd; exact absurd hd (by simp)
 rw [if_neg hbad] at hd
 by_cases h8 : c.kind = 8
 ·rw [if_pos h8] at hd
  by_cases ht : 1 ≤ c.time ∧ c.time ≤ 100
  ·rw [if_pos ht] at hd
   injection hd with _ hd
   injection hd with e1 e2
   subst e1 e2
   rw [chV_pass h8]
   exact apply_pass kb f (now + c.time) w _ (fun W' hW' => (kpass_any (h.mod hW' (fun _ _ x => x)) (now + c.time)).mono (fun e w' ⟨r, k, m⟩ => ⟨r, ⟨ow, pt, k, fun _ _ => rfl, fun _ _ => rfl⟩, (hW'.mono (fun _ _ x => x.elim)).trans m⟩))
  ·rw [if_neg ht] at hd; exact absurd hd (by simp)
 rw [if_neg h8] at hd
 by_cases hfl : 1 ≤ c.flight ∧ c.flight ≤ 20
 case neg => rw [if_pos hfl] at hd; exact absurd hd (by simp)
 rw [if_neg (by simpa using hfl)] at hd
 obtain rfl := hf h8
 have hfn : ((c.flight.toNat : Nat) : Int) = c.flight := by omega
 cases hx : fl c.flight.toNat with
 | none =>
  rw [hx] at hd
  simp only at hd
  by_cases k1 : c.kind = 1
  ·rw [if_pos k1] at hd
   by_cases hs : c.pla.sized = true ∧ c.pla.limited = true
   ·rw [if_pos hs] at hd
    injection hd with _ hd
    injection hd with e1 e2
    subst e1 e2
    rw [chV_start k1]
    have := apply_start h c.flight.toNat (by omega) hx c.pla hs.1 hs.2
    rw [hfn] at this
    exact this
   ·rw [if_neg hs] at hd; exact absurd hd (by simp)
  ·rw [if_neg k1] at hd; exact absurd hd (by simp)
 | some x =>
  obtain ⟨p, l⟩ := x
  rw [hx] at hd
  simp only at hd
  by_cases k1 : c.kind = 1
  ·rw [if_pos k1] at hd; exact absurd hd (by simp)
  rw [if_neg k1] at hd
  by_cases hz : seatErr p l c now = 0
  ·rw [if_pos hz] at hd
   injection hd with _ hd
   injection hd with e1 e2
   subst e1 e2
   have hk2 : 2 ≤ c.kind ∧ c.kind ≤ 9 ∧ c.kind ≠ 8 := by omega
   rw [chV_seat hk2]
   by_cases h9 : c.kind = 9
   ·have := refit_keep h c.flight.toNat (by omega) hx c h9 hz
    rw [hfn] at this
    exact this
   have := apply_seat h c.flight.toNat (by omega) hx hn c (by omega) hz h9
   rw [hfn] at this
   refine this.mono ?_
   rintro e w' ⟨r, hk', m⟩
   have epn : planNew p c = p.next := by unfold planNew; rw [if_neg h9]
   rw [epn]
   exact ⟨r, ⟨ow, pt, hk', fun _ _ => rfl, fun _ _ => rfl⟩, m⟩
  ·rw [if_neg hz] at hd; exact absurd (congrArg (·.1) hd) hz
abbrev Fls := Nat → Option (Pla × List Sea)
def StepE (now : Int) (fl : Fls) (e : Ent) (now' : Int) (fl' : Fls) : Prop :=
 (∃ c, canon e = canon (entOf now c) ∧ doK now fl c = (0, now', fl')) ∨
 (canon e = ePass 0 now' ∧ (∀ j, fl j = none) ∧ fl' = fl ∧ now ≤ now') ∨
 (∃ (n : Nat) (p : Pla) (l : List Sea), canon e = eWhole n p (l.filter fun s => s.st != 0) ∧ 1 ≤ n ∧ n ≤ 20 ∧ fl n = none ∧ Wf p l ∧ now' = now ∧ fl' = fun j => if j = n then some (p, l) else fl j)
def PlayE : Int → Fls → List Ent → Int → Fls → Prop
 | now, fl, [], now', fl' => now' = now ∧ fl' = fl
 | now, fl, e :: es, now', fl' => ∃ n1 f1, StepE now fl e n1 f1 ∧ PlayE n1 f1 es now' fl'
theorem canon_kind (e : Ent) (hk : 1 ≤ e.kind ∧ e.kind ≤ 7) : (canon e).kind = e.kind := by
 unfold canon eStart eFill eEmpty eShift eRefit ePass eWhole
 repeat' split
 all_goals simp only
 all_goals omega
theorem ent_kind (now : Int) (c : Cmd) : 1 ≤ (entOf now c).kind ∧ (entOf now c).kind ≤ 6 := by
 unfold entOf
 simp only
 repeat' split
 all_goals omega
theorem chV_canon (e : Ent) (hk : 1 ≤ e.kind ∧ e.kind ≤ 6) : chV (canon e) = chV e := by
 unfold canon
 by_cases k1 : e.kind = 1
 ·rw [if_pos k1]; unfold chV; rw [if_pos k1]; rfl
 by_cases k2 : e.kind = 2
 ·rw [if_neg k1, if_pos k2]; unfold chV; rw [if_neg k1, if_pos k2]; rfl
 by_cases k3 : e.kind = 3
 ·rw [if_neg k1, if_neg k2, if_pos k3]; unfold chV; rw [if_neg k1, if_neg k2, if_pos k3]; rfl
 by_cases k4 : e.kind = 4
 ·rw [if_neg k1, if_neg k2, if_neg k3, if_pos k4]; unfold chV; rw [if_neg k1, if_neg k2, if_neg k3, if_pos k4]; rfl
 by_cases k5 : e.kind = 5
 ·rw [if_neg k1, if_neg k2, if_neg k3, if_neg k4, if_pos k5]; unfold chV; rw [if_neg k1, if_neg k2, if_neg k3, if_neg k4, if_pos k5]; rfl
 ·rw [if_neg k1, if_neg k2, if_neg k3, if_neg k4, if_neg k5, if_pos (by omega)]; unfold chV; rw [if_neg k1, if_neg k2, if_neg k3, if_neg k4, if_neg k5]; rfl
theorem canon_fl (now : Int) (c : Cmd) (h : c.kind ≠ 8) : (canon (entOf now c)).fl = c.flight := by
 have hk : (entOf now c).kind ≠ 6 := by
  unfold entOf
  simp only
  repeat' split
  all_goals omega
 unfold canon eStart eFill eEmpty eShift eRefit ePass eWhole
 repeat' split
 all_goals first | rfl | contradiction
theorem applyE_any {w : World} {ow : Nat → Nat} {kb lo : Nat} {now now' : Int} {pt : Nat → Option Nat} {fl fl' : Fls} (h : KeepX w ow kb now pt fl) (hn : 0 ≤ now ∧ now ≤ 4611686018427387000) {e : Ent} (hs : StepE now fl e now' fl') {v : Value} (hv : EntV w lo v (canon e)) :
  Calls Try.prog 50 #[.pointer (some ⟨kb, 0, none⟩), .agg #[.int .i64 (canon e).fl, v]] w fun r w' => r = .returned (.tuple #[]) ∧ KeptX w w' ow kb pt now' fl' := by
 rcases hs with ⟨c, e1, e2⟩ | ⟨e1, e2, e3, e4⟩ | ⟨n, p, l, e1, e2, e3, e4, e5, rfl, rfl⟩
 ·have hk := ent_kind now c
  rw [e1] at hv ⊢
  unfold EntV at hv
  rw [if_neg (by rw [canon_kind _ ⟨hk.1, by omega⟩]; omega)] at hv
  rw [hv, chV_canon _ hk]
  exact apply_cmd h hn c e2 _ (fun h8 => canon_fl now c h8)
 ·rw [e3]
  rw [e1] at hv ⊢
  unfold EntV at hv
  rw [if_neg (by simp [ePass])] at hv
  rw [hv]
  show Calls Try.prog 50 #[.pointer (some ⟨kb, 0, none⟩), .agg #[.int .i64 0, passV now']] w _
  refine apply_pass kb 0 now' w _ (fun W' hW' => (kpass_any (h.mod hW' (fun _ _ x => x)) now').mono (fun e w' ⟨r, k, m⟩ => ⟨r, ⟨ow, pt, ?_, fun _ _ => rfl, fun _ _ => rfl⟩, (hW'.mono (fun _ _ x => x.elim)).trans m⟩))
  have e : (fun n => (fl n).map (tickF now')) = fl := by
   funext n
   rw [e2 n]
   rfl
  rw [e] at k
  exact k
 ·rw [e1] at hv ⊢
  unfold EntV at hv
  rw [if_pos (show (eWhole (n : Int) p (l.filter fun s => s.st != 0)).kind = 7 from rfl)] at hv
  obtain ⟨a, c, rfl, h1, h2⟩ := hv
  have hl := Fli.wf.len_le e5
  have := apply_whole h n ⟨e2, e3⟩ e4 p e5.sized e5.limited (filter_ok e5) (by have := List.length_filter_le (fun s : Sea => s.st != 0) l; simp only at hl; omega) h1
  rw [putsL_all e5] at this
  exact this
set_option maxHeartbeats 4000000
def betP (n m s t : Nat) : Bool := decide (0 < n) && (decide (m = 0) || decide (s < t))
def foundV (i : Int) (s : Nat) (v : Value) (all : Bool) : Value := .agg #[.int .i64 i, .int .i64 s, v, .bool all]
theorem better_any (w : World) (i j : Int) (s t n m c d : Nat) (a b : Option Addr) (x y : Bool) :
  Calls Try.prog 72 #[foundV i s (.slice a n c) x, foundV j t (.slice b m d) y] w fun e w' => e = .returned (.bool (betP n m s t)) ∧ Mod No w w' := by
 have M0 := hide (((Mod.refl No w).alloc (.cells #[.int .i64 i, .int .i64 s, .slice a n c, .bool x] 155)).alloc (.cells #[.int .i64 j, .int .i64 t, .slice b m d, .bool y] 155))
 unfold foundV betP
 by_cases h1 : 0 < n
 case neg =>
  obtain rfl : n = 0 := by omega
  go_enter Try.func72, Try.ntmps72
  go_wp2
  go_ret
  exact ⟨rfl, unhide M0⟩
 have h1i : (0 : Int) < n := by omega
 have hd : decide (0 < n) = true := by simpa using h1
 rw [hd]
 clear hd
 by_cases h2 : m = 0
 ·subst h2
  go_enter Try.func72, Try.ntmps72
  go_wp2
  go_ret
  exact ⟨rfl, unhide M0⟩
 have h2i : ((m : Int) == 0) = false := by simp; omega
 have hd : decide (m = 0) = false := by simpa using h2
 rw [hd]
 clear hd
 by_cases h3 : s < t
 ·have h3i : (s : Int) < t := by omega
  have hd : decide (s < t) = true := by simpa using h3
  rw [hd]
  clear hd
  go_enter Try.func72, Try.ntmps72
  go_wp2
  go_ret
  exact ⟨rfl, unhide M0⟩
 ·have h3i : ¬ (s : Int) < t := by omega
  have hd : decide (s < t) = false := by simpa using h3
  rw [hd]
  clear hd
  go_enter Try.func72, Try.ntmps72
  go_wp2
  go_ret
  exact ⟨rfl, unhide M0⟩
theorem post_w {P : Program} {f : Func} {post : Ending → World → Prop} {ex : Exit} {a : Act} {w : World} (R : World → Prop) (h : R w) (k : ∀ w, R w → bodyPost P f post ex a w) : bodyPost P f post ex a w := k w h
theorem sfind_any {w : World} {S : Nat → Prop} {tb : Nat} {T : TP} (ht : TapeH w S tb T) (i : Nat) (hi : i < 4) (n : Nat) (all : Bool) (Q : Nat → Nat → Value → World → Prop)
  (hR : ∀ W v, Mod No w W → W.ownsRow 0 5 1 v (T.b i).length (u8s (T.b i)) → Calls Try.prog 92 #[v] W fun e w' => ∃ a c, e = .returned (.tuple #[.slice a n c, .bool all]) ∧ Q W.heap.size w'.heap.size (.slice a n c) w' ∧ Mod No W w')
  (hQ : ∀ l h v W W', Q l h v W → Mod (fun k => k < l ∨ h ≤ k) W W' → Q l h v W') (hQm : ∀ l l' h h' v W, l ≤ l' → h' ≤ h → Q l' h' v W → Q l h v W) :
  Calls Try.prog 71 #[.pointer (some ⟨tb, 0, none⟩), .int .i64 i] w fun e w' => ∃ a c, e = .returned (foundV i (T.b i).length (.slice a n c) all) ∧ Q w.heap.size w'.heap.size (.slice a n c) w' ∧ Mod No w w' := by
 have m0 : Mod No w (w.alloc (.cells #[.int .i64 0, .int .i64 0, .slice none 0 0, .bool false] 155)) := (Mod.refl _ _).alloc _
 have B0 := hide (Has.new w #[.int .i64 0, .int .i64 0, .slice none 0 0, .bool false] 155)
 have HR := hide (read_t (ht.mod0 m0) i hi)
 have M0 := hide m0
 have HQ := hide hQ
 have HQM := hide hQm
 have hsz0 : w.heap.size + 1 ≤ (w.alloc (.cells #[.int .i64 0, .int .i64 0, .slice none 0 0, .bool false] 155)).heap.size := by simp
 have HRR := hide hR
 have hlen := (ht.last i hi).2
 unfold foundV
 clear ht m0 hQ hR hQm
 generalize hL : (T.b i).length = L at *
 have HL := hide hL
 clear hL
 go_enter Try.func71, Try.ntmps71
 go_wp2_with fail
 refine (unhide HR).mono ?_
 rintro e w1 ⟨v1, rfl, ho1, hs1, m1⟩
 have M1 := hide ((unhide M0).trans m1)
 have HR2 := hide ((unhide HRR) w1 v1 (unhide M1) ho1)
 obtain ⟨a1, c1, rfl⟩ := slice_of_owns ho1
 have B1 := hide (m1.has (unhide B0) (fun x => x))
 have HZ1 := hide (Nat.le_trans hsz0 m1.size)
 clear ho1 hs1 m1 HR
 go_wp2_with fail
 refine (unhide HR2).mono ?_
 rintro e w2 ⟨a2, c2, rfl, q2, m2⟩
 have b2 := m2.has (unhide B1) (fun x => x)
 have d0 : w2.cell? ⟨w.heap.size, 0, none⟩ = some (.int .i64 0) := b2.cell 0
 have d1 : w2.cell? ⟨w.heap.size, 1, none⟩ = some (.int .i64 0) := b2.cell 1
 have d2 : w2.cell? ⟨w.heap.size, 2, none⟩ = some (.slice none 0 0) := b2.cell 2
 have d3 : w2.cell? ⟨w.heap.size, 3, none⟩ = some (.bool false) := b2.cell 3
 have df := b2.frozen
 have dl := b2.lt
 have B2 := hide b2
 have Q2 := hide q2
 have M2 := hide ((unhide M1).trans m2)
 clear q2 m2 HR2 b2
 go_wp2
 refine post_w (fun W => Has W w.heap.size #[.int .i64 i, .int .i64 L, .slice a2 n c2, .bool all] 155 ∧ Q w.heap.size W.heap.size (.slice a2 n c2) W ∧ Mod No w W) ?_ ?_
 ·have q := ((((unhide B2).set 0 (.int .i64 i)).set 1 (.int .i64 L)).set 2 (.slice a2 n c2)).set 3 (.bool all)
  have hp : ∀ (o : Nat), No (⟨w.heap.size, o, none⟩ : Addr).block ∨ w.heap.size ≤ (⟨w.heap.size, o, none⟩ : Addr).block := fun o => .inr (Nat.le_refl _)
  have hq : ∀ (o : Nat), (fun k => k < w1.heap.size ∨ w2.heap.size ≤ k) (⟨w.heap.size, o, none⟩ : Addr).block ∨ w2.heap.size ≤ (⟨w.heap.size, o, none⟩ : Addr).block := fun o => .inl (.inl (by show w.heap.size < w1.heap.size; have := unhide HZ1; omega))
  refine ⟨q, (unhide HQM) _ w1.heap.size _ w2.heap.size _ _ (by have := unhide HZ1; omega) (by simp) ((unhide HQ) _ _ _ _ _ (unhide Q2) ?_), ((((unhide M2).setCell (hp 0) _).setCell (hp 1) _).setCell (hp 2) _).setCell (hp 3) _⟩
  exact ((((Mod.refl _ w2).setCell (hq 0) _).setCell (hq 1) _).setCell (hq 2) _).setCell (hq 3) _
 ·intro w3 ⟨h3, q3, m3⟩
  have d0 : w3.cell? ⟨w.heap.size, 0, none⟩ = some (.int .i64 i) := h3.cell 0
  have d1 : w3.cell? ⟨w.heap.size, 1, none⟩ = some (.int .i64 L) := h3.cell 1
  have d2 : w3.cell? ⟨w.heap.size, 2, none⟩ = some (.slice a2 n c2) := h3.cell 2
  have d3 : w3.cell? ⟨w.heap.size, 3, none⟩ = some (.bool all) := h3.cell 3
  refine bodyPost_ret (by simp [results, Try.results71, go_sem, d0, d1, d2, d3]; try rfl) rfl ?_
  exact ⟨a2, c2, rfl, q3, m3⟩
end Go.Proofs.Ythhibagcpjeihaa
