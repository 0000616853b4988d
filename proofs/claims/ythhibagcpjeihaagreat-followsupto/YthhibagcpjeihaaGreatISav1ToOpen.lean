import Derived.Test.YthhibagcpjeihaaGreatIKSToOpn2
import Derived.Test.YthhibagcpjeihaaGreatISwap5ToTape
import Derived.Deep.DeepCutAuto
import Derived.Handy
namespace Go.Proofs.YthhibagcpjeihaaGreat
open Go.RowKit
open M
set_option linter.unusedVariables false
set_option linter.unusedSimpArgs false
set_option maxRecDepth 100000
set_option maxHeartbeats 4000000
theorem step_callx {P : Program} {ops : Array Oper} {o : Oper} {a : Act} {w : World} {K : Act → World → Prop} {Q : Exit → Act → World → Prop} {E : Prop}
  (hg : o.guard = none) (f : FuncId) (args : Array Operand) (tys : Array TypeId) (hop : o.op = Op.call { callee := Callee.value (Operand.func f), args := args, argTypes := tys })
  (vs : Array Value) (hvs : args.map a.eval = vs) (hcf : ∀ W, (callFunc f vs).run P W = .ok (.enter f vs) W) (R : Value → World → Prop) (hc : Calls P f vs w fun e w' => ∃ v, e = .returned v ∧ R v w')
  (hK : ∀ v w', R v w' → K (a.put o.dst v) w') : if Region.wanted o (yielded ops a.tmps) = true then Oper.wp P o a w K Q else E := by
 have hw : Region.wanted o (yielded ops a.tmps) = true := by simp [Region.wanted, hg]
 rw [if_pos hw]
 unfold Oper.wp execOp
 simp [go_sem, hop, hvs]
 rw [hcf]
 simp [go_sem]
 refine hc.mono ?_
 rintro e w' ⟨v, rfl, hr⟩
 exact hK _ _ hr
theorem chV_iface (e : Ent) : ∃ t u, chV e = .iface t u := by
 unfold chV startV fillV emptyV shiftV refitV passV
 repeat' split
 all_goals exact ⟨_, _, rfl⟩
theorem record_one {w : World} {now : Int} {e : Ent} {t : TypeId} {u : Value} (hv : chV e = .iface t u) (hf : CFit now e) (b cap : Nat) (hb : Has w b #[.int .i64 e.fl, .iface t u] 125) :
  Calls Tryz.prog 81 #[.int .i64 now, .slice (some ⟨b, 0, none⟩) 1 cap] w fun r w' => ∃ v, r = .returned v ∧ Recorded w w' v (recB now [e]) := by
 refine record_any now b 0 1 cap w [e] rfl (by omega) (fun _ => e.fl) (fun _ => t) (fun _ => u) (fun i hi => ?_) hb.lt (fun i hi => ?_) (fun i hi W hW wb xs hx hX => ?_)
 ·obtain rfl : i = 0 := by omega
  exact ⟨hb.cell 0, hb.cell 1⟩
 ·have h1 := entB_len hf
  have : i = 0 ∨ i = 1 := by omega
  rcases this with rfl | rfl
  ·simp [entsTo, entsB]
  ·simp only [entsTo, entsB, List.take_succ_cons, List.take_zero, List.append_nil]
   omega
 ·obtain rfl : i = 0 := by simp at hi; omega
  have h1 : timeAt now [e] 0 = now := rfl
  rw [h1] at hX ⊢
  rw [← hv]
  exact wentry_any hX (fun k hk => Nat.le_trans hW.size hk) (by omega) e hf
theorem save_shut {w : World} {kb : Nat} {now : Int} {pt : Nat → Option Nat} (hh : Has w kb (keepCells now pt) 121) (hp : pt 29 = none) (ht : tornB pt = false) (e : Ent) (hf : CFit now e) :
  Calls Tryz.prog 50 #[.pointer (some ⟨kb, 0, none⟩), .agg #[.int .i64 e.fl, chV e]] w fun r w' => r = .returned (.int .i64 17) ∧ Mod No w w' := by
 obtain ⟨t, u, hv⟩ := chV_iface e
 have m0 : Mod No w (w.alloc (.cells #[.int .i64 e.fl, .iface t u] 125)) := (Mod.refl _ _).alloc _
 have b0 := Has.new w #[.int .i64 e.fl, .iface t u] 125
 have h1 := m0.has hh (fun x => x)
 have HV := hide hv
 rw [hv]
 have H1 := hide h1
 have M0 := hide m0
 have B0 := hide b0
 have HP := hide hp
 have HTN := hide ht
 clear hh h1 m0 b0 hp hv ht
 go_enter Tryz.func50, Tryz.ntmps50
 go_upto_region 3 with fail
 generalize w.alloc (.cells #[.int .i64 e.fl, .iface t u] 125) = w1 at *
 have HT := hide (torn_any (unhide H1) false (by rw [keep_s2, unhide HTN]))
 have c0 : w1.cell? ⟨kb, 0, none⟩ = some (.int .i64 now) := (unhide H1).cell 0
 have lt0 := (unhide H1).lt
 have e0 : w1.cell? ⟨w.heap.size, 0, none⟩ = some (.int .i64 e.fl) := (unhide B0).cell 0
 have e1 : w1.cell? ⟨w.heap.size, 1, none⟩ = some (.iface t u) := (unhide B0).cell 1
 have le0 := (unhide B0).lt
 go_wp2_with fail
 refine (unhide HT).mono ?_
 rintro r w1' ⟨rfl, rfl⟩
 have BX := hide (Has.new w1' #[.int .i64 e.fl, .iface t u] 125)
 have MX := hide ((Mod.refl No w1').alloc (.cells #[.int .i64 e.fl, .iface t u] 125))
 have HR := hide fun W (hb : Has W w1'.heap.size #[.int .i64 e.fl, .iface t u] 125) => record_one (unhide HV) hf w1'.heap.size 1 hb
 have HA := hide fun W a n c (hM : Mod No w1' W) => sappend_shut (hM.has (unhide H1) (fun x => x)) (by rw [keep_s0, unhide HP]; rfl) a n c
 clear HT
 go_wp2_with fail
 go_region_law (first
  |(refine step_callx rfl 81 _ _ rfl #[.int .i64 now, .slice (some ⟨w1'.heap.size, 0, none⟩) 1 1] (by simp [Act.eval, Act.put]) (fun W => by kernel_rfl) _ ((unhide HR) _ (by first | with_reducible exact (unhide BX).drew | with_reducible exact (unhide BX))) ?_; intro v5 w5 hr5; obtain ⟨a5, s5, rfl⟩ := slice_of_owns hr5.row)
  |(refine step_call rfl 80 _ _ rfl #[.pointer (some ⟨kb, 30, none⟩), _] (by simp [Act.eval, Act.put]; try rfl) (fun W => by kernel_rfl) (.int .i64 17) (fun w' => w' = w5) ((unhide HA) w5 a5 (recB now [e]).length s5 ((unhide MX).drew.trans hr5.mod)) ?_; rintro w6 rfl))
 all_goals go_wp2
 all_goals go_ret
 all_goals exact ⟨rfl, (unhide M0).trans ((unhide MX).drew.trans hr5.mod)⟩
structure Saved (w w' : World) (ow : Nat → Nat) (kb : Nat) (now : Int) (pt : Nat → Option Nat) (fl : Nat → Option (Pla × List Sea)) (K' : KS) : Prop where
 ex : ∃ ow' pt', KeepT w' ow' kb now pt' fl K' ∧ (∀ k, k < w.heap.size → ow' k = ow k) ∧ ∀ j, j < 29 → pt' j = pt j
 mod : Mod (fun k => ow k ≠ 0) w w'
theorem save_live {w : World} {ow : Nat → Nat} {kb : Nat} {now : Int} {pt : Nat → Option Nat} {fl : Nat → Option (Pla × List Sea)} {K : KS} (h : KeepT w ow kb now pt fl K) (hl : K.live = true) (ht : K.torn = false) (hi : K.file < 2) (hlen : (K.T.b K.file).length + 42 ≤ 17592186044416) (e : Ent) (hf : CFit now e) :
  Calls Tryz.prog 50 #[.pointer (some ⟨kb, 0, none⟩), .agg #[.int .i64 e.fl, chV e]] w fun r w' => r = .returned (.int .i64 (layK K (recB now [e])).1) ∧ Saved w w' ow kb now pt fl (layK K (recB now [e])).2 := by
 obtain ⟨t, u, hv⟩ := chV_iface e
 have m0 : Mod No w (w.alloc (.cells #[.int .i64 e.fl, .iface t u] 125)) := (Mod.refl _ _).alloc _
 have b0 := Has.new w #[.int .i64 e.fl, .iface t u] 125
 have hs0 : w.heap.size ≤ (w.alloc (.cells #[.int .i64 e.fl, .iface t u] 125)).heap.size := m0.size
 have h1 := h.mod0 m0
 have hp := h.ptr
 rw [hl, if_pos rfl] at hp
 have HV := hide hv
 rw [hv]
 unfold layK
 rw [hl, if_neg (by simp)]
 simp only
 obtain ⟨L, hL⟩ : ∃ L, layP K.T K.file (recB now [e]) = L := ⟨_, rfl⟩
 rw [hL]
 have HLL := hide hL
 clear hL
 have H1 := hide h1
 have H := hide h
 have M0 := hide m0
 have B0 := hide b0
 have HP := hide hp
 have HL := hide hl
 have HTN := hide ht
 clear h h1 m0 b0 hp hv hl ht
 go_enter Tryz.func50, Tryz.ntmps50
 go_upto_region 3 with fail
 generalize w.alloc (.cells #[.int .i64 e.fl, .iface t u] 125) = w1 at *
 have HT := hide (torn_any (unhide H1).keep.has false (by rw [keep_s2, (unhide H1).torn, unhide HTN]))
 have c0 : w1.cell? ⟨kb, 0, none⟩ = some (.int .i64 now) := (unhide H1).keep.has.cell 0
 have lt0 := (unhide H1).keep.has.lt
 have e0 : w1.cell? ⟨w.heap.size, 0, none⟩ = some (.int .i64 e.fl) := (unhide B0).cell 0
 have e1 : w1.cell? ⟨w.heap.size, 1, none⟩ = some (.iface t u) := (unhide B0).cell 1
 have le0 := (unhide B0).lt
 go_wp2_with fail
 refine (unhide HT).mono ?_
 rintro r w1' ⟨rfl, rfl⟩
 have BX := hide (Has.new w1' #[.int .i64 e.fl, .iface t u] 125)
 have MX := hide ((Mod.refl No w1').alloc (.cells #[.int .i64 e.fl, .iface t u] 125))
 have HR := hide fun W (hb : Has W w1'.heap.size #[.int .i64 e.fl, .iface t u] 125) => record_one (unhide HV) hf w1'.heap.size 1 hb
 have HRB := hide (rec1_byte hf)
 have HRL := hide (rec1_len hf)
 have HA := hide fun W v (hM : Mod No w1' W) (hr : W.ownsRow 0 5 1 v (recB now [e]).length (u8s (recB now [e]))) (hn : ∀ k, v.ownBlock = some k → w1'.heap.size ≤ k) =>
  (show Calls Tryz.prog 80 #[.pointer (some ⟨kb, 30, none⟩), v] W fun r w' => r = .returned (.int .i64 L.1) ∧ Saved w w' ow kb now pt fl { K with T := L.2, live := L.1 != 16 } from by
   rw [← unhide HLL]
   obtain ⟨a, c, rfl⟩ := slice_of_owns hr
   have hW := (unhide H1).mod0 hM
   have tl := (unhide H1).tape.lt
   have ko : ow kb = 1 := (unhide H1).keep.mine
   refine (sappend_any (S := fun k => ow k = 30) hW.keep.has (by rw [keep_s0, unhide HP]; rfl) (by omega) hW.tape K.file hi (by rw [keep_s1, hW.file]) a c (recB now [e]) (reads_of_owns hr) (fun q => by have := hn _ q; omega) (unhide HRB) (by have := unhide HRL; omega)).mono ?_
   rintro r w' ⟨q1, q2, q3, q4⟩
   obtain ⟨p1, p2, p3⟩ := KeepT.laid (unhide H) (Nat.le_trans (unhide M0).size hM.size) q4.size (unhide HL) q2 q3 ((((unhide M0).trans hM).mono (fun _ _ x => x.elim)).trans q4)
   exact ⟨q1, ⟨_, _, p1, p2, fun j hj => ptOf_eq _ _ _ (by omega)⟩, p3⟩)
 clear HT
 go_wp2_with fail
 go_region_law (first
  |(refine step_callx rfl 81 _ _ rfl #[.int .i64 now, .slice (some ⟨w1'.heap.size, 0, none⟩) 1 1] (by simp [Act.eval, Act.put]) (fun W => by kernel_rfl) _ ((unhide HR) _ (by first | with_reducible exact (unhide BX).drew | with_reducible exact (unhide BX))) ?_; intro v5 w5 hr5; obtain ⟨a5, s5, rfl⟩ := slice_of_owns hr5.row)
  |(refine step_call rfl 80 _ _ rfl #[.pointer (some ⟨kb, 30, none⟩), _] (by simp [Act.eval, Act.put]; try rfl) (fun W => by kernel_rfl) (.int .i64 L.1) _ ((unhide HA) _ _ ((unhide MX).drew.trans hr5.mod) hr5.row (fun k hk => Nat.le_trans (unhide MX).size (hr5.new k hk))) ?_; intro w6 hs6))
 all_goals go_wp2
 all_goals go_ret
 all_goals exact ⟨rfl, hs6⟩
open Go.ChangeMaps (setBlock)
def entOf (now : Int) (c : Cmd) : Ent :=
 ⟨c.flight,
  if c.kind = 1 then 1 else if c.kind = 8 then 6 else if c.kind = 9 then 5 else if c.kind = 2 ∨ c.kind = 3 ∨ c.kind = 6 then 2 else if c.kind = 5 then 4 else 3,
  c.pla,
  if c.kind = 2 then ⟨c.ar, c.ac, 1, c.party, c.cls, c.time⟩ else if c.kind = 3 then ⟨c.ar, c.ac, 2, c.party, c.cls, 0⟩ else if c.kind = 6 then ⟨c.ar, c.ac, 3, 0, 0, 0⟩ else ⟨c.ar, c.ac, 0, 0, 0, 0⟩,
  c.tr, c.tc, now + c.time, []⟩
theorem chV_start {now : Int} {c : Cmd} (h : c.kind = 1) : chV (entOf now c) = startV c.pla := by
 unfold chV entOf
 simp only [h, if_true]
theorem chV_pass {now : Int} {c : Cmd} (h : c.kind = 8) : chV (entOf now c) = passV (now + c.time) := by
 unfold chV entOf
 simp [h]
theorem chV_seat {now : Int} {c : Cmd} (h : 2 ≤ c.kind ∧ c.kind ≤ 9 ∧ c.kind ≠ 8) : chV (entOf now c) = changeV c := by
 unfold chV entOf changeV
 have : c.kind = 2 ∨ c.kind = 3 ∨ c.kind = 4 ∨ c.kind = 5 ∨ c.kind = 6 ∨ c.kind = 7 ∨ c.kind = 9 := by omega
 rcases this with e | e | e | e | e | e | e <;> simp [e]
theorem fit_start {now : Int} {c : Cmd} (h : c.kind = 1) (hf : 1 ≤ c.flight ∧ c.flight ≤ 20) (h1 : c.pla.sized = true) (h2 : c.pla.limited = true) : CFit now (entOf now c) := by
 have hk : (entOf now c).kind = 1 := by unfold entOf; simp [h]
 simp only [Pla.sized, decide_eq_true_eq] at h1
 simp only [Pla.limited, decide_eq_true_eq] at h2
 refine ⟨by omega, fun _ => ⟨by show 0 ≤ c.flight; omega, by show c.flight < 32; omega⟩, fun _ => ⟨⟨by show 0 ≤ c.pla.rows; omega, by show c.pla.rows < 128; omega⟩, ⟨by show 0 ≤ c.pla.cols; omega, by show c.pla.cols < 128; omega⟩, ⟨by show 0 ≤ c.pla.front; omega, by show c.pla.front < 128; omega⟩, fun k => ?_⟩, fun e => by omega, fun e => by omega, fun e => by omega, fun e => by omega, fun e => by omega⟩
 show 0 ≤ c.pla.lim k ∧ c.pla.lim k < 16384
 match k with
 | 0 => simp only [Pla.lim]; omega
 | 1 => simp only [Pla.lim]; omega
 | 2 => simp only [Pla.lim]; omega
 | k + 3 => simp only [Pla.lim]; omega
theorem fit_pass {now : Int} {c : Cmd} (h : c.kind = 8) (ht : 1 ≤ c.time ∧ c.time ≤ 100) (hn : 0 ≤ now ∧ now ≤ 4611686018427387000) : CFit now (entOf now c) := by
 have hk : (entOf now c).kind = 6 := by unfold entOf; simp [h]
 exact ⟨by omega, fun e => absurd hk e, fun e => by omega, fun e => by omega, fun e => by omega, fun e => by omega, fun e => by omega, fun _ => ⟨hn.1, by show now ≤ now + c.time; omega, by show now + c.time ≤ 4611686018427387904; omega⟩⟩
theorem has_rng {p : Pla} {l : List Sea} (hwf : Wf p l) {r c : Int} (h : p.has r c = true) : (1 ≤ r ∧ r ≤ 20) ∧ (1 ≤ c ∧ c ≤ 6) := by
 have hb := Fli.wf.bounds hwf
 simp only [Pla.has, decide_eq_true_eq] at h
 simp only at hb
 omega
theorem fit_seat {now : Int} {p : Pla} {l : List Sea} {c : Cmd} (h : 2 ≤ c.kind ∧ c.kind ≤ 9 ∧ c.kind ≠ 8) (hf : 1 ≤ c.flight ∧ c.flight ≤ 20) (hwf : Wf p l) (hn : 0 ≤ now ∧ now ≤ 4611686018427387000) (he : seatErr p l c now = 0) : CFit now (entOf now c) := by
 have hfl : (entOf now c).kind ≠ 6 → 0 ≤ (entOf now c).fl ∧ (entOf now c).fl < 32 := fun _ => ⟨by show 0 ≤ c.flight; omega, by show c.flight < 32; omega⟩
 by_cases h9 : c.kind = 9
 ·have hk : (entOf now c).kind = 5 := by unfold entOf; simp [h9]
  unfold seatErr at he
  rw [if_pos h9] at he
  by_cases hq : c.pla.sized = true ∧ ¬ (c.pla.rows * c.pla.cols < (nFull l : Int))
  case neg => rw [if_neg hq] at he; exact absurd he (by omega)
  have h1 := hq.1
  simp only [Pla.sized, decide_eq_true_eq] at h1
  exact ⟨by omega, hfl, fun e => by omega, fun e => by omega, fun e => by omega, fun e => by omega, fun _ => ⟨⟨by show 0 ≤ c.pla.rows; omega, by show c.pla.rows < 128; omega⟩, ⟨by show 0 ≤ c.pla.cols; omega, by show c.pla.cols < 128; omega⟩, ⟨by show 0 ≤ c.pla.front; omega, by show c.pla.front < 128; omega⟩⟩, fun e => by omega⟩
 obtain ⟨_, hat, h5, h2, h3⟩ := seatErr_zero he h9
 have ra := has_rng hwf hat
 by_cases k2 : c.kind = 2
 ·have hk : (entOf now c).kind = 2 := by unfold entOf; simp [k2]
  have hs : (entOf now c).sea = ⟨c.ar, c.ac, 1, c.party, c.cls, c.time⟩ := by unfold entOf; simp [k2]
  have hb := buyer_ok (h2 k2).1
  have ht := h2 k2
  refine ⟨by omega, hfl, fun e => by omega, fun _ => ?_, fun e => by omega, fun e => by omega, fun e => by omega, fun e => by omega⟩
  rw [hs]
  exact ⟨ra.1, ra.2, by simp, by simp only; omega, by simp only; omega, fun _ => by simp only; omega, by omega⟩
 by_cases k3 : c.kind = 3
 ·have hk : (entOf now c).kind = 2 := by unfold entOf; simp [k3]
  have hs : (entOf now c).sea = ⟨c.ar, c.ac, 2, c.party, c.cls, 0⟩ := by unfold entOf; simp [k3]
  have hb := buyer_ok (h3 k3)
  refine ⟨by omega, hfl, fun e => by omega, fun _ => ?_, fun e => by omega, fun e => by omega, fun e => by omega, fun e => by omega⟩
  rw [hs]
  exact ⟨ra.1, ra.2, by simp, by simp only; omega, by simp only; omega, fun e => by simp at e, by omega⟩
 by_cases k6 : c.kind = 6
 ·have hk : (entOf now c).kind = 2 := by unfold entOf; simp [k6]
  have hs : (entOf now c).sea = ⟨c.ar, c.ac, 3, 0, 0, 0⟩ := by unfold entOf; simp [k6]
  refine ⟨by omega, hfl, fun e => by omega, fun _ => ?_, fun e => by omega, fun e => by omega, fun e => by omega, fun e => by omega⟩
  rw [hs]
  exact ⟨ra.1, ra.2, by simp, by simp, by simp, fun e => by simp at e, by omega⟩
 have hs : (entOf now c).sea = ⟨c.ar, c.ac, 0, 0, 0, 0⟩ := by unfold entOf; simp [k2, k3, k6]
 by_cases k5 : c.kind = 5
 ·have hk : (entOf now c).kind = 4 := by unfold entOf; simp [k5]
  have rt := has_rng hwf (h5 k5).1
  exact ⟨by omega, hfl, fun e => by omega, fun e => by omega, fun _ => by rw [hs]; exact ra, fun _ => rt, fun e => by omega, fun e => by omega⟩
 ·have hk : (entOf now c).kind = 3 := by
   have : c.kind = 4 ∨ c.kind = 7 := by omega
   unfold entOf
   rcases this with e | e <;> simp [e]
  exact ⟨by omega, hfl, fun e => by omega, fun e => by omega, fun _ => by rw [hs]; exact ra, fun e => by omega, fun e => by omega, fun e => by omega⟩
def doT (now : Int) (fl : Nat → Option (Pla × List Sea)) (K : KS) (c : Cmd) : Int × Int × (Nat → Option (Pla × List Sea)) × KS :=
 if (doK now fl c).1 ≠ 0 then ((doK now fl c).1, now, fl, K)
 else if (saveK K (wholeK now fl) (recB now [entOf now c])).1 = 0 then (0, (doK now fl c).2.1, (doK now fl c).2.2, (saveK K (wholeK now fl) (recB now [entOf now c])).2)
 else ((saveK K (wholeK now fl) (recB now [entOf now c])).1, now, fl, (saveK K (wholeK now fl) (recB now [entOf now c])).2)
structure DoneT (w w' : World) (ow : Nat → Nat) (kb : Nat) (pt : Nat → Option Nat) (now : Int) (fl : Nat → Option (Pla × List Sea)) (K : KS) : Prop where
 ex : ∃ ow' pt', KeepT w' ow' kb now pt' fl K ∧ (∀ k, k < w.heap.size → ow' k = ow k) ∧ ∀ i, 21 ≤ i → i < 29 → pt' i = pt i
 mod : Mod (fun k => ow k ≠ 0) w w'
theorem DoneT.same {w w' : World} {ow : Nat → Nat} {kb : Nat} {now : Int} {pt : Nat → Option Nat} {fl : Nat → Option (Pla × List Sea)} {K : KS} (h : KeepT w ow kb now pt fl K) (hm : Mod No w w') : DoneT w w' ow kb pt now fl K :=
 ⟨⟨ow, pt, h.mod0 hm, fun _ _ => rfl, fun _ _ _ => rfl⟩, hm.mono (fun _ _ x => x.elim)⟩
theorem DoneT.first {a w w' : World} {ow : Nat → Nat} {kb : Nat} {pt : Nat → Option Nat} {now : Int} {fl : Nat → Option (Pla × List Sea)} {K : KS} (h : DoneT w w' ow kb pt now fl K) (hm : Mod No a w) : DoneT a w' ow kb pt now fl K := by
 obtain ⟨⟨ow', pt', q, ho, hp⟩, m⟩ := h
 exact ⟨⟨ow', pt', q, fun k hk => ho k (Nat.lt_of_lt_of_le hk hm.size), hp⟩, (hm.mono (fun _ _ x => x.elim)).trans m⟩
theorem DoneT.applied {w w2 w' : World} {ow : Nat → Nat} {kb : Nat} {now now' : Int} {pt : Nat → Option Nat} {fl fl' : Nat → Option (Pla × List Sea)} {K' : KS} (hold : ∀ k, ow k ≠ 0 → k < w.heap.size) (hs : ∃ ow2 pt2, KeepT w2 ow2 kb now pt2 fl K' ∧ (∀ k, k < w.heap.size → ow2 k = ow k) ∧ (∀ j, j < 29 → pt2 j = pt j) ∧ KeptX w2 w' ow2 kb pt2 now' fl') (hm : Mod (fun k => ow k ≠ 0) w w2) : DoneT w w' ow kb pt now' fl' K' := by
 obtain ⟨ow2, pt2, h, ho, hp, ⟨⟨ow', pt', hx, ho', hp'⟩, m'⟩⟩ := hs
 have hsz := hm.size
 refine ⟨⟨ow', pt', ⟨hx, ?_, ?_, ?_, ?_⟩, fun k hk => by rw [ho' k (by omega), ho k hk], fun i h1 h2 => by rw [hp' i h1, hp i h2]⟩, hm.trans' m' (fun k hk hl => by
  have hk : ow2 k ≠ 0 ∧ ow2 k < 30 := hk
  rw [ho k hl] at hk
  exact hk.1)⟩
 ·rw [hp' 29 (by omega)]; exact h.ptr
 ·have := h.file
  unfold fileN at this ⊢
  rw [hp' 30 (by omega)]; exact this
 ·have := h.torn
  unfold tornB at this ⊢
  rw [hp' 31 (by omega)]; exact this
 ·refine (h.tape.mod m' (fun k hk hk' => by omega)).narrow.wide (fun k ⟨hk, hl⟩ => ?_)
  have := h.keep.old k (by omega)
  rw [ho' k this]
  exact hk
theorem do_t {w : World} {ow : Nat → Nat} {kb : Nat} {now : Int} {pt : Nat → Option Nat} {fl : Nat → Option (Pla × List Sea)} {K : KS} (h : KeepT w ow kb now pt fl K) (hn : 0 ≤ now ∧ now ≤ 4611686018427387000) (ht : K.torn = false) (hi : K.file < 2) (hlen : (K.T.b K.file).length + 42 ≤ 17592186044416) (c : Cmd) :
  Calls Tryz.prog 25 #[.pointer (some ⟨kb, 0, none⟩), .agg (cmdCells c)] w fun e w' =>
   e = .returned (.int .i64 (doT now fl K c).1) ∧ DoneT w w' ow kb pt (doT now fl K c).2.1 (doT now fl K c).2.2.1 (doT now fl K c).2.2.2 := by
 have hx := h.keep
 have no : ∀ x : Int, x ≠ 0 → (doK now fl c).1 = x → (∀ W, Mod No w W → Calls Tryz.prog 49 #[.pointer (some ⟨kb, 0, none⟩), .agg (cmdCells c)] W fun e w' => e = .returned (refuse x) ∧ Mod No W w') →
   Calls Tryz.prog 25 #[.pointer (some ⟨kb, 0, none⟩), .agg (cmdCells c)] w fun e w' => e = .returned (.int .i64 (doT now fl K c).1) ∧ DoneT w w' ow kb pt (doT now fl K c).2.1 (doT now fl K c).2.2.1 (doT now fl K c).2.2.2 := fun x hx0 hd hL => by
  unfold doT
  rw [hd, if_pos hx0]
  exact (do_refuse kb c x hx0 w hL).mono (fun e w' ⟨r, m⟩ => ⟨r, DoneT.same h m⟩)
 have yes : ∀ now' fl', (doK now fl c) = (0, now', fl') → CFit now (entOf now c) → (∀ W, Mod No w W → Calls Tryz.prog 49 #[.pointer (some ⟨kb, 0, none⟩), .agg (cmdCells c)] W fun e w' => e = .returned (grant (chV (entOf now c))) ∧ Mod No W w') →
   (∀ W ow2 pt2, KeepX W ow2 kb now pt2 fl → Calls Tryz.prog 44 #[.pointer (some ⟨kb, 0, none⟩), .agg #[.int .i64 c.flight, chV (entOf now c)]] W fun e w' => e = .returned (.tuple #[]) ∧ KeptX W w' ow2 kb pt2 now' fl') →
   Calls Tryz.prog 25 #[.pointer (some ⟨kb, 0, none⟩), .agg (cmdCells c)] w fun e w' => e = .returned (.int .i64 (doT now fl K c).1) ∧ DoneT w w' ow kb pt (doT now fl K c).2.1 (doT now fl K c).2.2.1 (doT now fl K c).2.2.2 := fun now' fl' hd hf hL hA => by
  obtain ⟨t, u, hv⟩ := chV_iface (entOf now c)
  have hS : ∀ W, Mod No w W → Calls Tryz.prog 50 #[.pointer (some ⟨kb, 0, none⟩), .agg #[.int .i64 c.flight, chV (entOf now c)]] W fun r w' => r = .returned (.int .i64 (saveK K (wholeK now fl) (recB now [entOf now c])).1) ∧ Saved W w' ow kb now pt fl (saveK K (wholeK now fl) (recB now [entOf now c])).2 := fun W hW => by
   have hk : saveK K (wholeK now fl) (recB now [entOf now c]) = layK K (recB now [entOf now c]) := by unfold saveK; rw [if_neg (by rw [ht]; simp)]
   rw [hk]
   by_cases hl : K.live = true
   ·exact save_live (h.mod0 hW) hl ht hi hlen (entOf now c) hf
   ·have hl' : K.live = false := by simpa using hl
    have hp := (h.mod0 hW).ptr
    rw [if_neg hl] at hp
    have hk2 : layK K (recB now [entOf now c]) = (17, K) := by unfold layK; rw [if_pos hl']
    rw [hk2]
    refine (save_shut (h.mod0 hW).keep.has hp (by rw [h.torn, ht]) (entOf now c) hf).mono ?_
    rintro r w' ⟨q1, q2⟩
    exact ⟨q1, ⟨_, _, (h.mod0 hW).mod0 q2, fun _ _ => rfl, fun _ _ => rfl⟩, q2.mono (fun _ _ x => x.elim)⟩
  unfold doT
  rw [hd, if_neg (by simp)]
  rw [hv] at hL hS hA
  by_cases hz : (saveK K (wholeK now fl) (recB now [entOf now c])).1 = 0
  ·rw [if_pos hz]
   rw [hz] at hS
   refine do_grant kb c t u w (fun w2 => ∃ ow2 pt2, KeepT w2 ow2 kb now pt2 fl (saveK K (wholeK now fl) (recB now [entOf now c])).2 ∧ (∀ k, k < w.heap.size → ow2 k = ow k) ∧ (∀ j, j < 29 → pt2 j = pt j) ∧ Mod (fun k => ow k ≠ 0) w w2) _ hL (fun W b hW hb hB => ?_) (fun W hR => ?_)
   ·refine (hS W hW).mono ?_
    rintro r w' ⟨q1, ⟨ow2, pt2, q2, q3, q4⟩, q5⟩
    have ob : ow b = 0 := by
     by_cases e : ow b = 0
     ·exact e
     ·have := hx.old b e; omega
    exact ⟨q1, ⟨ow2, pt2, q2, fun k hk => q3 k (Nat.lt_of_lt_of_le hk hW.size), q4, (hW.mono (fun _ _ x => x.elim)).trans q5⟩, q5.has hB (fun e => e ob)⟩
   ·obtain ⟨ow2, pt2, q2, q3, q4, q5⟩ := hR
    refine (hA W ow2 pt2 q2.keep).mono ?_
    rintro e w' ⟨r1, r2⟩
    exact ⟨r1, DoneT.applied hx.old ⟨ow2, pt2, q2, q3, q4, r2⟩ q5⟩
  ·rw [if_neg hz]
   refine do_stop kb c t u _ hz w _ hL (fun W hW => (hS W hW).mono ?_)
   rintro r w' ⟨q1, ⟨ow2, pt2, q2, q3, q4⟩, q5⟩
   exact ⟨q1, (⟨⟨ow2, pt2, q2, q3, fun i _ hi => q4 i hi⟩, q5⟩ : DoneT W w' ow kb pt now fl _).first hW⟩
 by_cases hbad : c.kind < 1 ∨ c.kind > 9
 ·exact no 1 (by omega) (by unfold doK; rw [if_pos hbad]) (fun W _ => klook_bad kb c hbad W)
 by_cases h8 : c.kind = 8
 ·have hN : ∀ W, Mod No w W → ∀ W', Mod No W W' → Calls Tryz.prog 32 #[.pointer (some ⟨kb, 0, none⟩)] W' fun e w' => e = .returned (.int .i64 now) ∧ w' = W' := fun W hW W' hW' => now_any (hx.mod (hW.trans hW') (fun _ _ x => x))
  by_cases ht : 1 ≤ c.time ∧ c.time ≤ 100
  ·refine yes _ _ (by unfold doK; rw [if_neg hbad, if_pos h8, if_pos ht]) (fit_pass h8 ht hn) (fun W hW => ?_) (fun W ow2 pt2 hk => ?_)
   ·rw [chV_pass h8]
    exact klook_tick kb c now _ _ h8 W (hN W hW) (fun W' => tickLook_yes c.time now W' ht.1 ht.2 hn)
   ·rw [chV_pass h8]
    exact apply_pass kb c.flight (now + c.time) W _ (fun W' hW' => (kpass_any (hk.mod hW' (fun _ _ x => x)) (now + c.time)).mono (fun e w' ⟨r, k, m⟩ => ⟨r, ⟨ow2, pt2, k, fun _ _ => rfl, fun _ _ => rfl⟩, (hW'.mono (fun _ _ x => x.elim)).trans m⟩))
  ·exact no 8 (by omega) (by unfold doK; rw [if_neg hbad, if_pos h8, if_neg ht]) (fun W hW => klook_tick kb c now _ _ h8 W (hN W hW) (fun W' => tickLook_out c.time now W' ht))
 by_cases hf : 1 ≤ c.flight ∧ c.flight ≤ 20
 case neg =>
  exact no 2 (by omega) (by unfold doK; rw [if_neg hbad, if_neg h8, if_pos hf]) (fun W _ => klook_num kb c (by omega) hf W)
 have hfn : ((c.flight.toNat : Nat) : Int) = c.flight := by omega
 have hF : ∀ W, Mod No w W → ∀ W', Mod No W W' → Calls Tryz.prog 59 #[.pointer (some ⟨kb, 0, none⟩), .int .i64 c.flight] W' fun e w' => e = .returned (pv (pt c.flight.toNat)) ∧ w' = W' := fun W hW W' hW' => by
  have := find_any (hx.mod (hW.trans hW') (fun _ _ x => x)) c.flight.toNat (by omega)
  rw [hfn] at this
  exact this
 cases hfl : fl c.flight.toNat with
 | none =>
  have hp := hx.gone _ (by omega) hfl
  rw [hp] at hF
  have hd0 : doK now fl c = if c.kind = 1 then (if c.pla.sized = true ∧ c.pla.limited = true then (0, now, fun j => if j = c.flight.toNat then some (c.pla.at 1, emptySeats c.pla) else fl j) else (4, now, fl)) else (2, now, fl) := by
   unfold doK
   rw [if_neg hbad, if_neg h8, if_neg (by simpa using hf), hfl]
  by_cases k1 : c.kind = 1
  ·rw [if_pos k1] at hd0
   by_cases hs : c.pla.sized = true ∧ c.pla.limited = true
   ·rw [if_pos hs] at hd0
    have hA : ∀ W, Calls Tryz.prog 76 #[plaV c.pla] W fun e w' => e = .returned (.tuple #[startV c.pla, .int .i64 0]) ∧ Mod No W w' := fun W => by
     have := lookAdd_walk c.pla W
     unfold addV at this
     rw [if_pos hs] at this
     exact this
    refine yes _ _ hd0 (fit_start k1 hf hs.1 hs.2) (fun W hW => ?_) (fun W ow2 pt2 hk => ?_)
    ·rw [chV_start k1]
     exact klook_add kb c _ _ k1 hf W (hF W hW) hA
    ·rw [chV_start k1]
     have := apply_start hk c.flight.toNat (by omega) hfl c.pla hs.1 hs.2
     rw [hfn] at this
     exact this
   ·rw [if_neg hs] at hd0
    have hA : ∀ W, Calls Tryz.prog 76 #[plaV c.pla] W fun e w' => e = .returned (.tuple #[.nilIface, .int .i64 4]) ∧ Mod No W w' := fun W => by
     have := lookAdd_walk c.pla W
     unfold addV at this
     rw [if_neg hs] at this
     exact this
    exact no 4 (by omega) (by rw [hd0]) (fun W hW => klook_add kb c _ _ k1 hf W (hF W hW) hA)
  ·rw [if_neg k1] at hd0
   exact no 2 (by omega) (by rw [hd0]) (fun W hW => klook_miss kb c (by omega) hf W (hF W hW))
 | some x =>
  obtain ⟨p, l⟩ := x
  obtain ⟨b, hp, hwf, hfh⟩ := hx.here _ p l (by omega) hfl
  rw [hp] at hF
  have hd0 : doK now fl c = if c.kind = 1 then (3, now, fl) else if seatErr p l c now = 0 then (0, now, fun j => if j = c.flight.toNat then some (planNew p c, seatNew p l c) else fl j) else (seatErr p l c now, now, fl) := by
   unfold doK
   rw [if_neg hbad, if_neg h8, if_neg (by simpa using hf), hfl]
  by_cases k1 : c.kind = 1
  ·rw [if_pos k1] at hd0
   exact no 3 (by omega) (by rw [hd0]) (fun W hW => klook_twice kb b c k1 hf W (hF W hW))
  ·rw [if_neg k1] at hd0
   have hL : ∀ W, Mod No w W → ∀ W', Mod No W W' → Calls Tryz.prog 77 #[.pointer (some ⟨b, 0, none⟩), .agg (cmdCells c), .int .i64 now] W' fun e w' => e = .returned (lookV p l c now) ∧ Mod No W' w' := fun W hW W' hW' => by
    obtain ⟨m, es, clock, q1, q2, q3, q4, q5, q6⟩ := hfh.mod0 (hW.trans hW')
    exact flook_any ⟨q1, q2, q3, q4⟩ hwf c now hn (by omega)
   unfold lookV at hL
   have hk2 : 2 ≤ c.kind ∧ c.kind ≤ 9 ∧ c.kind ≠ 8 := by omega
   by_cases hz : seatErr p l c now = 0
   ·rw [if_pos hz] at hL hd0
    refine yes _ _ hd0 (fit_seat hk2 hf hwf hn hz) (fun W hW => ?_) (fun W ow2 pt2 hk => ?_)
    ·rw [chV_seat hk2]
     exact klook_fl kb b c now _ _ _ (by omega) hf W (hW.has hx.has (fun x => x)) rfl (hF W hW) (hL W hW)
    ·rw [chV_seat hk2]
     by_cases h9 : c.kind = 9
     ·have := refit_keep hk c.flight.toNat (by omega) hfl c h9 hz
      rw [hfn] at this
      exact this
     have := apply_seat hk c.flight.toNat (by omega) hfl hn c (by omega) hz h9
     rw [hfn] at this
     refine this.mono ?_
     rintro e w' ⟨r, hk', m⟩
     have epn : planNew p c = p.next := by unfold planNew; rw [if_neg h9]
     rw [epn]
     exact ⟨r, ⟨ow2, pt2, hk', fun _ _ => rfl, fun _ _ => rfl⟩, m⟩
   ·rw [if_neg hz] at hL hd0
    exact no _ hz (by rw [hd0]) (fun W hW => klook_fl kb b c now _ _ _ (by omega) hf W (hW.has hx.has (fun x => x)) rfl (hF W hW) (hL W hW))
theorem read_zero (a : Option Addr) (c : Nat) (w : World) : Calls Tryz.prog 94 #[.slice a 0 c] w fun e w' => e = .returned (.tuple #[.slice none 0 0, .bool true]) ∧ Mod No w w' := by
 have M0 := hide ((Mod.refl No w).alloc (.cells #[.slice a 0 c, .int .i64 0, .bool false] 208))
 go_enter Tryz.func94, Tryz.ntmps94
 go_wp2_with fail
 go_loopw [2] (fun s wr => s = .slice none 0 0 ∧ wr = w.alloc (.cells #[.slice a 0 c, .int .i64 0, .bool false] 208)) (fun _ _ => 0)
 case atStart => exact ⟨rfl, rfl⟩
 case round =>
  obtain ⟨rfl, rfl⟩ := hrel
  go_wp2
  go_ret2
  exact ⟨rfl, unhide M0⟩
theorem sfind_nil {w : World} {S : Nat → Prop} {tb : Nat} {T : TP} (ht : TapeH w S tb T) (i : Nat) (hi : i < 4) (h : T.b i = []) :
  Calls Tryz.prog 69 #[.pointer (some ⟨tb, 0, none⟩), .int .i64 i] w fun e w' => ∃ a c, e = .returned (foundV i 0 (.slice a 0 c) true) ∧ (.slice a 0 c : Value) = .slice none 0 0 ∧ Mod No w w' := by
 have := sfind_any ht i hi 0 true (fun _ _ v _ => v = .slice none 0 0) (fun W v hW ho => by
  obtain ⟨a, c, rfl⟩ := slice_of_owns ho
  rw [h]
  refine (read_zero a c W).mono ?_
  rintro e w' ⟨rfl, hm⟩
  exact ⟨none, 0, rfl, rfl, hm⟩) (fun _ _ _ _ _ q _ => q) (fun _ _ _ _ _ _ _ _ q => q)
 rw [h] at this
 exact this
theorem betP_zero : betP 0 0 0 0 = false := by decide
theorem openP_zero (T : TP) (i : Nat) : openP T i 0 0 = (0, T) := by unfold openP; simp
theorem sopen_nil {w : World} {S : Nat → Prop} {tb : Nat} {T : TP} (ht : TapeH w S tb T) (hS : ∀ k, S k → k < w.heap.size) (h0 : T.b 0 = []) (h1 : T.b 1 = []) :
  Calls Tryz.prog 43 #[.pointer (some ⟨tb, 0, none⟩)] w fun e w' => e = .returned (.tuple #[.agg #[.pointer (some ⟨tb, 0, none⟩), .int .i64 0, .bool false], .slice none 0 0, .int .i64 0]) ∧ TapeH w' S tb T ∧ Mod S w w' := by
 refine (sopen_0 ht hS 0 0 0 0 true true (fun _ _ v _ => v = .slice none 0 0) (fun W hW => ?_) (fun W hW => ?_) (fun _ _ _ _ _ q _ => q) (fun _ _ _ _ _ _ _ _ q => q) betP_zero).mono ?_
 ·exact sfind_nil (ht.mod0 hW) 0 (by omega) h0
 ·exact sfind_nil (ht.mod0 hW) 1 (by omega) h1
 ·rintro e w' ⟨q1, q2, q3, _⟩
  rw [openP_zero] at q1 q3
  obtain ⟨a, c, he, hs⟩ := q3 rfl
  rw [hs] at he
  exact ⟨he, q1, q2⟩
def ptS (tb : Nat) : Nat → Option Nat := fun j => if j = 29 then some tb else none
def noFl : Nat → Option (Pla × List Sea) := fun _ => none
theorem open_low (tb : Nat) (n : Int) (cs : Array Value) (w : World) (h : Has w tb cs 108) (h8 : cs[8]? = some (.int .i64 n)) (hn : n < 200) :
  Calls Tryz.prog 20 #[.pointer (some ⟨tb, 0, none⟩)] w fun e w' => e = .returned (.tuple #[.pointer none, .int .i64 15]) ∧ w' = w := by
 have HR := hide (room_any tb n w cs h h8)
 clear h h8
 go_enter Tryz.func20, Tryz.ntmps20
 go_wp2_with fail
 refine (unhide HR).mono ?_
 rintro e w1 ⟨rfl, rfl⟩
 go_wp2
 go_ret2
 exact ⟨rfl, rfl⟩
structure OpenedX (w w' : World) (S : Nat → Prop) (kb tb : Nat) (T : TP) : Prop where
 has : Has w' kb (keepCells 0 (ptS tb)) 121
 new : w.heap.size ≤ kb
 tape : TapeH w' S tb T
 mod : Mod S w w'
theorem open_nil {w : World} {S : Nat → Prop} {tb : Nat} {T : TP} (ht : TapeH w S tb T) (hS : ∀ k, S k → k < w.heap.size) (h0 : T.b 0 = []) (h1 : T.b 1 = []) (hn : ¬ T.room < 200) :
  Calls Tryz.prog 20 #[.pointer (some ⟨tb, 0, none⟩)] w fun e w' => ∃ kb, e = .returned (.tuple #[.pointer (some ⟨kb, 0, none⟩), .int .i64 0]) ∧ OpenedX w w' S kb tb T := by
 obtain ⟨cs, hr1, hr2⟩ := ht.room
 have HR := hide (room_any tb T.room w cs hr1 hr2)
 have HO := hide (sopen_nil ht hS h0 h1)
 have HSS := hide hS
 clear ht hr1 hr2 hS
 go_enter Tryz.func20, Tryz.ntmps20
 go_wp2_with fail
 refine (unhide HR).mono ?_
 rintro e w1 ⟨rfl, rfl⟩
 go_wp2_with fail
 refine (unhide HO).mono ?_
 rintro e w2 ⟨rfl, t2, m2⟩
 have T2 := hide t2
 have M2 := hide m2
 clear t2 m2 HO HR
 go_wp2_with fail
 go_loopw [31] (fun s wr => s = .int .i64 0 ∧ Hid (OpenedX w1 wr S (w2.heap.size + 1) tb T)) (fun _ _ => 0)
 case atStart =>
  have m3 : Mod No w2 ((w2.alloc (.cells #[.pointer (some ⟨tb, 0, none⟩), .int .i64 0, .bool false] 110)).alloc (.cells (keepCells 0 (ptS tb)) 121)) := ((Mod.refl _ w2).alloc _).alloc _
  have hk := Has.new2' w2 (.cells #[.pointer (some ⟨tb, 0, none⟩), .int .i64 0, .bool false] 110) (keepCells 0 (ptS tb)) 121
  exact ⟨rfl, hide ⟨hk, Nat.le_succ_of_le (unhide M2).size, (unhide T2).mod0 m3, (unhide M2).trans (m3.mono (fun _ _ x => x.elim))⟩⟩
 case round =>
  obtain ⟨rfl, hX⟩ := hrel
  go_wp2
  go_ret2
  exact ⟨_, rfl, unhide hX⟩
theorem OpenedX.keep {w w' : World} {S : Nat → Prop} {kb tb : Nat} {T : TP} (h : OpenedX w w' S kb tb T) (hS : ∀ k, S k → k < w.heap.size) (ow : Nat → Nat) (hk : ow kb = 1) (ht : ∀ k, S k → ow k = 30) (ho : ∀ k, ow k ≠ 0 → k = kb ∨ S k) : KeepT w' ow kb 0 (ptS tb) noFl ⟨tb, 0, false, true, T⟩ := by
 refine ⟨⟨h.has, hk, fun k hk => ?_, fun n hn _ => ?_, fun n p l hn hf => by cases hf⟩, rfl, rfl, rfl, h.tape.wide ht⟩
 ·rcases ho k hk with e | e
  ·rw [e]; exact h.has.lt
  ·exact Nat.lt_of_lt_of_le (hS k e) h.mod.size
 ·unfold ptS
  exact if_neg (by omega)
set_option maxHeartbeats 2000000
theorem KeepH.mod {w w' : World} {ow : Nat → Nat} {kb : Nat} {now : Int} {fl : Nat → Option (Pla × List Sea)} {S : Nat → Prop} (h : KeepH w ow kb now fl) (hm : Mod S w w') (hs : ∀ k, ow k ≠ 0 → ¬ S k) : KeepH w' ow kb now fl := by
 obtain ⟨pt, h⟩ := h
 exact ⟨pt, h.mod hm hs⟩
def leftK (fl : Nat → Option (Pla × List Sea)) (n c : Int) : Int × Int :=
 if ¬ (1 ≤ n ∧ n ≤ 20) then (0, 2)
 else match fl n.toNat with
  | none => (0, 2)
  | some x => if ¬ (0 ≤ c ∧ c < 4) then (0, 6) else (min (M.leftOf x.1 x.2 c.toNat) 9, 0)
theorem left_any {w : World} {ow : Nat → Nat} {kb : Nat} {now : Int} {fl : Nat → Option (Pla × List Sea)} (h : KeepH w ow kb now fl) (n c : Int) :
  Calls Tryz.prog 33 #[.pointer (some ⟨kb, 0, none⟩), .int .i64 n, .int .i64 c] w fun e w' => e = .returned (.tuple #[.int .i64 (leftK fl n c).1, .int .i64 (leftK fl n c).2]) ∧ Mod No w w' := by
 obtain ⟨pt, h⟩ := h
 unfold leftK
 by_cases hn : 1 ≤ n ∧ n ≤ 20
 case neg =>
  rw [if_pos hn]
  exact left_none kb n c w (find_no kb n hn w)
 rw [if_neg (by simpa using hn)]
 have hfn : ((n.toNat : Nat) : Int) = n := by omega
 have hF := find_any h n.toNat (by omega)
 rw [hfn] at hF
 cases hfl : fl n.toNat with
 | none =>
  rw [h.gone _ (by omega) hfl] at hF
  exact left_none kb n c w hF
 | some x =>
  obtain ⟨p, l⟩ := x
  obtain ⟨b, hp, hwf, hfh⟩ := h.here _ p l (by omega) hfl
  rw [hp] at hF
  simp only
  by_cases hc : 0 ≤ c ∧ c < 4
  case neg =>
   rw [if_pos hc]
   exact left_class kb b n c hc w hF
  rw [if_neg (by simpa using hc)]
  obtain ⟨m, es, clock, q1, _⟩ := hfh
  have hcn : ((c.toNat : Nat) : Int) = c := by omega
  have := left_walk kb b n c.toNat (by omega) (min (cE p l 0) 9) (min (cE p l 1) 9) (min (cE p l 2) 9) (min (cE p l 3) 9) w hF (fleft_walk _ _ _ _ _ _ _ _ _ _ _ _ _ _ _ _ _ _ _ _ _ _ _ _ _ _ _ q1)
  rw [hcn] at this
  refine this.mono ?_
  rintro e w' ⟨rfl, hm⟩
  refine ⟨?_, hm⟩
  have : c.toNat = 0 ∨ c.toNat = 1 ∨ c.toNat = 2 ∨ c.toNat = 3 := by omega
  rcases this with e | e | e | e <;> rw [e] <;> rfl
end Go.Proofs.YthhibagcpjeihaaGreat
