import Derived.Test.YthhibagcpjeihaaLRp3ToKeep1
import Derived.Test.YthhibagcpjeihaaLWr6ToEnt2
import Derived.Test.YthhibagcpjeihaaLRd5ToRd6
import Derived.Deep.DeepCutAuto
namespace Go.Proofs.Ythhibagcpjeihaa
open Go.RowKit
open M
set_option linter.unusedVariables false
set_option linter.unusedSimpArgs false
set_option maxRecDepth 100000
structure KS where
 tb : Nat
 file : Nat
 torn : Bool
 live : Bool
 T : TP
def flE (n : Nat) (x : Pla × List Sea) : Ent :=
 ⟨n, if x.1.ep = 1 then 1 else 7, x.1, noSea, 0, 0, 0, x.2.filter fun s => s.st != 0⟩
def wholeEs (now : Int) (fl : Nat → Option (Pla × List Sea)) : List Ent :=
 (if 0 < now then [⟨0, 6, ⟨0, 0, 0, 0, 0, 0, 0, 0⟩, noSea, 0, 0, now, []⟩] else []) ++ (List.range 21).filterMap fun n => (fl n).map (flE n)
def wholeK (now : Int) (fl : Nat → Option (Pla × List Sea)) : List Int := if wholeEs now fl = [] then [] else recB 0 (wholeEs now fl)
def layK (K : KS) (r : List Int) : Int × KS :=
 if K.live = false then (17, K) else ((layP K.T K.file r).1, { K with T := (layP K.T K.file r).2, live := (layP K.T K.file r).1 != 16 })
def replaceK (K : KS) (r : List Int) : Int × KS :=
 if K.live = false then (17, K)
 else if K.T.room < (K.T.used : Int) + r.length then (15, K)
 else
  let W := if r = [] then (true, K.T) else writeP K.T (1 - K.file) r
  if W.1 = false then (16, { K with T := W.2, live := false })
  else
   let C := clearP W.2 K.file
   if C.1 = false then (16, { K with T := C.2, live := false }) else (0, { K with T := C.2, file := 1 - K.file, torn := false })
def saveK (K : KS) (whole r : List Int) : Int × KS :=
 if K.torn = true then (if (replaceK K whole).1 = 0 then layK (replaceK K whole).2 r else replaceK K whole) else layK K r
structure KeepT (w : World) (ow : Nat → Nat) (kb : Nat) (now : Int) (pt : Nat → Option Nat) (fl : Nat → Option (Pla × List Sea)) (K : KS) : Prop where
 keep : KeepX w ow kb now pt fl
 ptr : pt 29 = if K.live = true then some K.tb else none
 file : fileN pt = K.file
 torn : tornB pt = K.torn
 tape : TapeH w (fun k => ow k = 30) K.tb K.T
theorem KeepT.mod {w w' : World} {ow : Nat → Nat} {kb : Nat} {now : Int} {pt : Nat → Option Nat} {fl : Nat → Option (Pla × List Sea)} {K : KS} {S : Nat → Prop} (h : KeepT w ow kb now pt fl K) (hm : Mod S w w') (hs : ∀ k, ow k ≠ 0 → ¬ S k) : KeepT w' ow kb now pt fl K := by
 have hx := h.keep
 refine ⟨⟨hm.has hx.has (hs _ (by rw [hx.mine]; omega)), hx.mine, fun k hk => Nat.lt_of_lt_of_le (hx.old k hk) hm.size, hx.gone, fun n p l hn hf => ?_⟩, h.ptr, h.file, h.torn, h.tape.mod hm (fun k hk => hs k (by omega))⟩
 obtain ⟨b, h1, h2, h3⟩ := hx.here n p l hn hf
 exact ⟨b, h1, h2, h3.mod hm (fun k hk => hs k (by omega))⟩
theorem KeepT.mod0 {w w' : World} {ow : Nat → Nat} {kb : Nat} {now : Int} {pt : Nat → Option Nat} {fl : Nat → Option (Pla × List Sea)} {K : KS} (h : KeepT w ow kb now pt fl K) (hm : Mod No w w') : KeepT w' ow kb now pt fl K := h.mod hm (fun _ _ x => x)
theorem keep_s0 (now : Int) (pt : Nat → Option Nat) : (keepCells now pt)[30]? = some (pv (pt 29)) := rfl
theorem keep_s1 (now : Int) (pt : Nat → Option Nat) : (keepCells now pt)[31]? = some (.int .i64 (fileN pt)) := rfl
theorem keep_s2 (now : Int) (pt : Nat → Option Nat) : (keepCells now pt)[32]? = some (.bool (tornB pt)) := rfl
def clrP (pt : Nat → Option Nat) : Nat → Option Nat := fun j => if j = 29 then none else pt j
theorem keep_clr (now : Int) (pt : Nat → Option Nat) : (keepCells now pt).setIfInBounds 30 (.pointer none) = keepCells now (clrP pt) := rfl
def ptOf (pt : Nat → Option Nat) (e : Int) : Nat → Option Nat := if e = 16 then clrP pt else pt
theorem ptOf_eq (pt : Nat → Option Nat) (e : Int) (j : Nat) (hj : j ≠ 29) : ptOf pt e j = pt j := by
 unfold ptOf clrP
 split
 ·exact if_neg hj
 ·rfl
def owT (ow : Nat → Nat) (n m : Nat) : Nat → Nat := fun k => if k < n then ow k else if k < m then 30 else 0
theorem KeepX.ow {w : World} {ow ow' : Nat → Nat} {kb : Nat} {now : Int} {pt : Nat → Option Nat} {fl : Nat → Option (Pla × List Sea)} (h : KeepX w ow kb now pt fl) (n : Nat) (hn : ∀ k, k < n → ow' k = ow k) (hl : ∀ k, ow k ≠ 0 → k < n) (ho : ∀ k, ow' k ≠ 0 → k < w.heap.size) : KeepX w ow' kb now pt fl := by
 refine ⟨h.has, ?_, ho, h.gone, fun m p l hm hf => ?_⟩
 ·rw [hn kb (hl kb (by rw [h.mine]; omega))]; exact h.mine
 ·obtain ⟨b, h1, h2, h3⟩ := h.here m p l hm hf
  exact ⟨b, h1, h2, h3.wide (fun k hk => by rw [hn k (hl k (by omega))]; exact hk)⟩
theorem KeepT.laid {w w' : World} {ow : Nat → Nat} {kb : Nat} {now : Int} {pt : Nat → Option Nat} {fl : Nat → Option (Pla × List Sea)} {K : KS} {n : Nat} {e : Int} {T' : TP} (h : KeepT w ow kb now pt fl K) (hn : w.heap.size ≤ n) (hw : w'.heap.size ≥ n) (hlive : K.live = true)
  (ht : TapeH w' (fun k => ow k = 30 ∨ n ≤ k) K.tb T') (hh : Has w' kb (if e = 16 then (keepCells now pt).setIfInBounds 30 (.pointer none) else keepCells now pt) 117) (hm : Mod (fun k => ow k = 30 ∨ k = kb) w w') :
  KeepT w' (owT ow n w'.heap.size) kb now (ptOf pt e) fl { K with T := T', live := e != 16 } ∧ (∀ k, k < w.heap.size → owT ow n w'.heap.size k = ow k) ∧ Mod (fun k => ow k ≠ 0) w w' := by
 have hx := h.keep
 have hold : ∀ k, ow k ≠ 0 → k < n := fun k hk => Nat.lt_of_lt_of_le (hx.old k hk) hn
 have hk' : keepCells now (ptOf pt e) = (if e = 16 then (keepCells now pt).setIfInBounds 30 (.pointer none) else keepCells now pt) := by
  unfold ptOf
  split
  ·rw [keep_clr]
  ·rfl
 refine ⟨⟨?_, ?_, ?_, ?_, ?_⟩, fun k hk => if_pos (by omega), hm.mono (fun k _ q => by
  rcases q with q | q
  ·show ow k ≠ 0; omega
  ·show ow k ≠ 0; rw [q, hx.mine]; omega)⟩
 ·have hx' : KeepX w' ow kb now (ptOf pt e) fl := by
   refine ⟨by rw [hk']; exact hh, hx.mine, fun k hk => Nat.lt_of_lt_of_le (hx.old k hk) hm.size, fun j hj hf => by rw [ptOf_eq pt e j (by omega)]; exact hx.gone j hj hf, fun j p l hj hf => ?_⟩
   obtain ⟨b, h1, h2, h3⟩ := hx.here j p l hj hf
   refine ⟨b, by rw [ptOf_eq pt e j (by omega)]; exact h1, h2, h3.mod hm (fun k hk q => ?_)⟩
   rcases q with q | q
   ·omega
   ·rw [q, hx.mine] at hk; omega
  refine hx'.ow n (fun k hk => if_pos hk) hold (fun k hk => ?_)
  unfold owT at hk
  split at hk
  ·omega
  ·split at hk
   ·assumption
   ·exact absurd rfl hk
 ·unfold ptOf clrP
  by_cases he : e = 16
  ·rw [if_pos he, if_pos rfl]
   simp [he]
  ·rw [if_neg he, h.ptr, if_pos hlive]
   simp [he]
 ·have := h.file
  unfold fileN at this ⊢
  rw [ptOf_eq pt e 30 (by omega)]
  exact this
 ·have := h.torn
  unfold tornB at this ⊢
  rw [ptOf_eq pt e 31 (by omega)]
  exact this
 ·refine ht.narrow.wide (fun k ⟨hk, hl⟩ => ?_)
  show owT ow n w'.heap.size k = 30
  unfold owT
  rcases hk with hk | hk
  ·rw [if_pos (hold k (by omega))]; exact hk
  ·rw [if_neg (by omega), if_pos hl]
set_option maxHeartbeats 4000000
theorem step_callx {P : Program} {ops : Array Oper} {o : Oper} {a : Act} {w : World} {K : Act → World → Prop} {Q : Exit → Act → World → Prop} {E : Prop}
  (hg : o.guard = none) (f : FuncId) (args : Array Operand) (tys : Array TypeId) (hop : o.op = Op.call { callee := Callee.value (Operand.func f), args := args, argTypes := tys })
  (vs : Array Value) (hvs : args.map a.eval = vs) (hcf : ∀ W, (callFunc f vs).run P W = .ok (.enter f vs) W) (R : Value → World → Prop) (hc : Calls P f vs w fun e w' => ∃ v, e = .returned v ∧ R v w')
  (hK : ∀ v w', R v w' → K (a.put o.dst v) w') : if Region.wanted o (yielded ops a.tmps) = true then Oper.wp P o a w K Q else E := by
 have hw : Region.wanted o (yielded ops a.tmps) = true := by simp [Region.wanted, hg]
 rw [if_pos hw]
 unfold Oper.wp execOp
 simp [go_sem, hop, hvs]
 rw [hcf]
 simp [go_sem]
 refine hc.mono ?_
 rintro e w' ⟨v, rfl, hr⟩
 exact hK _ _ hr
theorem chV_iface (e : Ent) : ∃ t u, chV e = .iface t u := by
 unfold chV startV fillV emptyV shiftV refitV passV
 repeat' split
 all_goals exact ⟨_, _, rfl⟩
theorem record_one {w : World} {now : Int} {e : Ent} {t : TypeId} {u : Value} (hv : chV e = .iface t u) (hf : CFit now e) (b cap : Nat) (hb : Has w b #[.int .i64 e.fl, .iface t u] 124) :
  Calls Try.prog 64 #[.int .i64 now, .slice (some ⟨b, 0, none⟩) 1 cap] w fun r w' => ∃ v, r = .returned v ∧ Recorded w w' v (recB now [e]) := by
 refine record_any now b 0 1 cap w [e] rfl (by omega) (fun _ => e.fl) (fun _ => t) (fun _ => u) (fun i hi => ?_) hb.lt (fun i hi => ?_) (fun i hi W hW wb xs hx hX => ?_)
 ·obtain rfl : i = 0 := by omega
  exact ⟨hb.cell 0, hb.cell 1⟩
 ·have h1 := entB_len hf
  have : i = 0 ∨ i = 1 := by omega
  rcases this with rfl | rfl
  ·simp [entsTo, entsB]
  ·simp only [entsTo, entsB, List.take_succ_cons, List.take_zero, List.append_nil]
   omega
 ·obtain rfl : i = 0 := by simp at hi; omega
  have h1 : timeAt now [e] 0 = now := rfl
  rw [h1] at hX ⊢
  rw [← hv]
  exact wentry_any hX (fun k hk => Nat.le_trans hW.size hk) (by omega) e hf
theorem save_shut {w : World} {kb : Nat} {now : Int} {pt : Nat → Option Nat} (hh : Has w kb (keepCells now pt) 117) (hp : pt 29 = none) (ht : tornB pt = false) (e : Ent) (hf : CFit now e) :
  Calls Try.prog 49 #[.pointer (some ⟨kb, 0, none⟩), .agg #[.int .i64 e.fl, chV e]] w fun r w' => r = .returned (.int .i64 17) ∧ Mod No w w' := by
 obtain ⟨t, u, hv⟩ := chV_iface e
 have m0 : Mod No w (w.alloc (.cells #[.int .i64 e.fl, .iface t u] 124)) := (Mod.refl _ _).alloc _
 have b0 := Has.new w #[.int .i64 e.fl, .iface t u] 124
 have h1 := m0.has hh (fun x => x)
 have HV := hide hv
 rw [hv]
 have H1 := hide h1
 have M0 := hide m0
 have B0 := hide b0
 have HP := hide hp
 have HTN := hide ht
 clear hh h1 m0 b0 hp hv ht
 go_enter Try.func49, Try.ntmps49
 go_upto_region 3 with fail
 generalize w.alloc (.cells #[.int .i64 e.fl, .iface t u] 124) = w1 at *
 have HT := hide (torn_any (unhide H1) false (by rw [keep_s2, unhide HTN]))
 have c0 : w1.cell? ⟨kb, 0, none⟩ = some (.int .i64 now) := (unhide H1).cell 0
 have lt0 := (unhide H1).lt
 have e0 : w1.cell? ⟨w.heap.size, 0, none⟩ = some (.int .i64 e.fl) := (unhide B0).cell 0
 have e1 : w1.cell? ⟨w.heap.size, 1, none⟩ = some (.iface t u) := (unhide B0).cell 1
 have le0 := (unhide B0).lt
 go_wp2_with fail
 refine (unhide HT).mono ?_
 rintro r w1' ⟨rfl, rfl⟩
 have BX := hide (Has.new w1' #[.int .i64 e.fl, .iface t u] 124)
 have MX := hide ((Mod.refl No w1').alloc (.cells #[.int .i64 e.fl, .iface t u] 124))
 have HR := hide fun W (hb : Has W w1'.heap.size #[.int .i64 e.fl, .iface t u] 124) => record_one (unhide HV) hf w1'.heap.size 1 hb
 have HA := hide fun W a n c (hM : Mod No w1' W) => sappend_shut (hM.has (unhide H1) (fun x => x)) (by rw [keep_s0, unhide HP]; rfl) a n c
 clear HT
 go_wp2_with fail
 go_region_law (first
  |(refine step_callx rfl 64 _ _ rfl #[.int .i64 now, .slice (some ⟨w1'.heap.size, 0, none⟩) 1 1] (by simp [Act.eval, Act.put]) (fun W => by kernel_rfl) _ ((unhide HR) _ (by first | with_reducible exact (unhide BX).drew | with_reducible exact (unhide BX))) ?_; intro v5 w5 hr5; obtain ⟨a5, s5, rfl⟩ := slice_of_owns hr5.row)
  |(refine step_call rfl 63 _ _ rfl #[.pointer (some ⟨kb, 30, none⟩), _] (by simp [Act.eval, Act.put]; try rfl) (fun W => by kernel_rfl) (.int .i64 17) (fun w' => w' = w5) ((unhide HA) w5 a5 (recB now [e]).length s5 ((unhide MX).drew.trans hr5.mod)) ?_; rintro w6 rfl))
 all_goals go_wp2
 all_goals go_ret
 all_goals exact ⟨rfl, (unhide M0).trans ((unhide MX).drew.trans hr5.mod)⟩
structure Saved (w w' : World) (ow : Nat → Nat) (kb : Nat) (now : Int) (pt : Nat → Option Nat) (fl : Nat → Option (Pla × List Sea)) (K' : KS) : Prop where
 ex : ∃ ow' pt', KeepT w' ow' kb now pt' fl K' ∧ (∀ k, k < w.heap.size → ow' k = ow k) ∧ ∀ j, j < 29 → pt' j = pt j
 mod : Mod (fun k => ow k ≠ 0) w w'
theorem save_live {w : World} {ow : Nat → Nat} {kb : Nat} {now : Int} {pt : Nat → Option Nat} {fl : Nat → Option (Pla × List Sea)} {K : KS} (h : KeepT w ow kb now pt fl K) (hl : K.live = true) (ht : K.torn = false) (hi : K.file < 2) (hlen : (K.T.b K.file).length + 42 ≤ 17592186044416) (e : Ent) (hf : CFit now e) :
  Calls Try.prog 49 #[.pointer (some ⟨kb, 0, none⟩), .agg #[.int .i64 e.fl, chV e]] w fun r w' => r = .returned (.int .i64 (layK K (recB now [e])).1) ∧ Saved w w' ow kb now pt fl (layK K (recB now [e])).2 := by
 obtain ⟨t, u, hv⟩ := chV_iface e
 have m0 : Mod No w (w.alloc (.cells #[.int .i64 e.fl, .iface t u] 124)) := (Mod.refl _ _).alloc _
 have b0 := Has.new w #[.int .i64 e.fl, .iface t u] 124
 have hs0 : w.heap.size ≤ (w.alloc (.cells #[.int .i64 e.fl, .iface t u] 124)).heap.size := m0.size
 have h1 := h.mod0 m0
 have hp := h.ptr
 rw [hl, if_pos rfl] at hp
 have HV := hide hv
 rw [hv]
 unfold layK
 rw [hl, if_neg (by simp)]
 simp only
 obtain ⟨L, hL⟩ : ∃ L, layP K.T K.file (recB now [e]) = L := ⟨_, rfl⟩
 rw [hL]
 have HLL := hide hL
 clear hL
 have H1 := hide h1
 have H := hide h
 have M0 := hide m0
 have B0 := hide b0
 have HP := hide hp
 have HL := hide hl
 have HTN := hide ht
 clear h h1 m0 b0 hp hv hl ht
 go_enter Try.func49, Try.ntmps49
 go_upto_region 3 with fail
 generalize w.alloc (.cells #[.int .i64 e.fl, .iface t u] 124) = w1 at *
 have HT := hide (torn_any (unhide H1).keep.has false (by rw [keep_s2, (unhide H1).torn, unhide HTN]))
 have c0 : w1.cell? ⟨kb, 0, none⟩ = some (.int .i64 now) := (unhide H1).keep.has.cell 0
 have lt0 := (unhide H1).keep.has.lt
 have e0 : w1.cell? ⟨w.heap.size, 0, none⟩ = some (.int .i64 e.fl) := (unhide B0).cell 0
 have e1 : w1.cell? ⟨w.heap.size, 1, none⟩ = some (.iface t u) := (unhide B0).cell 1
 have le0 := (unhide B0).lt
 go_wp2_with fail
 refine (unhide HT).mono ?_
 rintro r w1' ⟨rfl, rfl⟩
 have BX := hide (Has.new w1' #[.int .i64 e.fl, .iface t u] 124)
 have MX := hide ((Mod.refl No w1').alloc (.cells #[.int .i64 e.fl, .iface t u] 124))
 have HR := hide fun W (hb : Has W w1'.heap.size #[.int .i64 e.fl, .iface t u] 124) => record_one (unhide HV) hf w1'.heap.size 1 hb
 have HRB := hide (rec1_byte hf)
 have HRL := hide (rec1_len hf)
 have HA := hide fun W v (hM : Mod No w1' W) (hr : W.ownsRow 0 5 1 v (recB now [e]).length (u8s (recB now [e]))) (hn : ∀ k, v.ownBlock = some k → w1'.heap.size ≤ k) =>
  (show Calls Try.prog 63 #[.pointer (some ⟨kb, 30, none⟩), v] W fun r w' => r = .returned (.int .i64 L.1) ∧ Saved w w' ow kb now pt fl { K with T := L.2, live := L.1 != 16 } from by
   rw [← unhide HLL]
   obtain ⟨a, c, rfl⟩ := slice_of_owns hr
   have hW := (unhide H1).mod0 hM
   have tl := (unhide H1).tape.lt
   have ko : ow kb = 1 := (unhide H1).keep.mine
   refine (sappend_any (S := fun k => ow k = 30) hW.keep.has (by rw [keep_s0, unhide HP]; rfl) (by omega) hW.tape K.file hi (by rw [keep_s1, hW.file]) a c (recB now [e]) (reads_of_owns hr) (fun q => by have := hn _ q; omega) (unhide HRB) (by have := unhide HRL; omega)).mono ?_
   rintro r w' ⟨q1, q2, q3, q4⟩
   obtain ⟨p1, p2, p3⟩ := KeepT.laid (unhide H) (Nat.le_trans (unhide M0).size hM.size) q4.size (unhide HL) q2 q3 ((((unhide M0).trans hM).mono (fun _ _ x => x.elim)).trans q4)
   exact ⟨q1, ⟨_, _, p1, p2, fun j hj => ptOf_eq _ _ _ (by omega)⟩, p3⟩)
 clear HT
 go_wp2_with fail
 go_region_law (first
  |(refine step_callx rfl 64 _ _ rfl #[.int .i64 now, .slice (some ⟨w1'.heap.size, 0, none⟩) 1 1] (by simp [Act.eval, Act.put]) (fun W => by kernel_rfl) _ ((unhide HR) _ (by first | with_reducible exact (unhide BX).drew | with_reducible exact (unhide BX))) ?_; intro v5 w5 hr5; obtain ⟨a5, s5, rfl⟩ := slice_of_owns hr5.row)
  |(refine step_call rfl 63 _ _ rfl #[.pointer (some ⟨kb, 30, none⟩), _] (by simp [Act.eval, Act.put]; try rfl) (fun W => by kernel_rfl) (.int .i64 L.1) _ ((unhide HA) _ _ ((unhide MX).drew.trans hr5.mod) hr5.row (fun k hk => Nat.le_trans (unhide MX).size (hr5.new k hk))) ?_; intro w6 hs6))
 all_goals go_wp2
 all_goals go_ret
 all_goals exact ⟨rfl, hs6⟩
structure AtC {γ : Type} (w : World) (rb gb : Nat) (now : Int) (T : Option (γ × List Int)) (c : List Int → Option (γ × List Int)) (l : List Int) (t : Bool) : Prop where
 rd : RdX w rb gb l now t
 yes : t = false → T = c l
 no : t = true → T = none
theorem AtC.next {γ α : Type} {w w2 : World} {rb gb : Nat} {now : Int} {T : Option (γ × List Int)} {p : List Int → Option (α × List Int)} {q : α → List Int → Option (γ × List Int)} {l : List Int} {t : Bool} (h : AtC w rb gb now T (fun r => bindP (p r) q) l t) {m : α} (k : RdQ w2 rb gb (p l) now t (fun x => x = m)) :
  ∃ l2 t2, AtC w2 rb gb now T (fun r => q m r) l2 t2 ∧ (t2 = false → p l = some (m, l2) ∧ t = false) := by
 cases t with
 | false =>
  cases hp : p l with
  | none =>
   rw [hp] at k
   obtain ⟨r, k⟩ := k
   exact ⟨r, true, ⟨k, fun e => by simp at e, fun _ => by rw [h.yes rfl]; show bindP (p l) q = none; rw [hp]; rfl⟩, fun e => by simp at e⟩
  | some x =>
   obtain ⟨x, r⟩ := x
   rw [hp] at k
   obtain ⟨rfl, k⟩ := k
   exact ⟨r, false, ⟨k, fun _ => by rw [h.yes rfl]; show bindP (p l) q = q x r; rw [hp]; rfl, fun e => by simp at e⟩, fun _ => ⟨rfl, rfl⟩⟩
 | true =>
  obtain ⟨r, k⟩ := k.torn
  exact ⟨r, true, ⟨k, fun e => by simp at e, fun _ => h.no rfl⟩, fun e => by simp at e⟩
theorem AtC.fin {γ : Type} {w : World} {rb gb : Nat} {now : Int} {T : Option (γ × List Int)} {y : γ} {l : List Int} {t : Bool} (h : AtC w rb gb now T (fun r => some (y, r)) l t) : RdQ w rb gb T now false (fun x => x = y) := by
 cases t with
 | false => rw [h.yes rfl]; exact ⟨rfl, h.rd⟩
 | true => rw [h.no rfl]; exact ⟨l, h.rd⟩
theorem AtC.mod {γ : Type} {w w' : World} {rb gb : Nat} {now : Int} {T : Option (γ × List Int)} {c : List Int → Option (γ × List Int)} {l : List Int} {t : Bool} {S : Nat → Prop} (h : AtC w rb gb now T c l t) (hm : Mod S w w') (h1 : ¬ S rb) (h2 : ¬ S gb) : AtC w' rb gb now T c l t :=
 ⟨h.rd.mod hm h1 h2, h.yes, h.no⟩
theorem AtC.mod0 {γ : Type} {w w' : World} {rb gb : Nat} {now : Int} {T : Option (γ × List Int)} {c : List Int → Option (γ × List Int)} {l : List Int} {t : Bool} (h : AtC w rb gb now T c l t) (hm : Mod No w w') : AtC w' rb gb now T c l t := h.mod hm (fun x => x) (fun x => x)
theorem RdX.start {γ : Type} {w : World} {rb gb : Nat} {l : List Int} {now : Int} (h : RdX w rb gb l now false) (p : List Int → Option (γ × List Int)) : AtC w rb gb now (p l) p l false := ⟨h, fun _ => rfl, fun e => by simp at e⟩
theorem numP_sh {l : List Int} {x : Int} {r : List Int} (h : numP l 0 0 = some (x, r)) : r.length < l.length := (numP_len l 0 0 h).1
theorem placeP_sh {l : List Int} {x : Int × Int} {r : List Int} (h : placeP l = some (x, r)) : r.length < l.length := by
 unfold placeP at h
 rcases h1 : numP l 0 0 with _ | ⟨n, r1⟩
 ·rw [h1] at h; cases h
 ·rw [h1, bindP_some] at h
  injection h with h
  injection h with _ h
  subst h
  exact numP_sh h1
theorem LocP.le {α : Type} {p : List Int → Option (α × List Int)} (h : LocP p) {l : List Int} {x : α} {r : List Int} (e : p l = some (x, r)) : r.length ≤ l.length := by
 obtain ⟨c, rfl, _⟩ := h l x r e
 simp
theorem fillP_sh {now : Int} {l : List Int} {s : Sea} {r : List Int} (h : fillP now l = some (s, r)) : r.length < l.length := by
 unfold fillP at h
 rcases h1 : placeP l with _ | ⟨p, r1⟩
 ·rw [h1] at h; cases h
 ·rw [h1, bindP_some] at h
  have a := placeP_sh h1
  have b := LocP.le (p := fun r => bindP (numP r 0 0) fun n r => bindP (if n.tdiv 4 = 3 then some (0, r) else numP r 0 0) fun pa r => bindP (if n.tdiv 4 = 1 then numP r 0 0 else some (0, r)) fun u r => some ((⟨p.1, p.2, n.tdiv 4, pa, n.tmod 4, if n.tdiv 4 = 1 then wrap64 (now + u) else 0⟩ : Sea), r)) (numP_L.bind fun n => ((LocP.ret 0).ite numP_L).bind fun pa => (numP_L.ite (LocP.ret 0)).bind fun u => LocP.ret _) h
  omega
theorem infoFill : (Try.prog.info? 180).map (fun i => (i.zero, i.size, i.bytes)) = some (some (.agg #[.int .i64 0, .int .i64 0, .int .i64 0, .int .i64 0, .int .i64 0, .int .i64 0]), 6, 48) := by kernel_rfl
theorem reads_fill (w : World) (s : Sea) : Reads (w.alloc (.cells #[.int .i64 s.row, .int .i64 s.col, .int .i64 s.st, .int .i64 s.pa, .int .i64 s.cl, .int .i64 s.un] 180)) (.slice (some ⟨w.heap.size, 0, none⟩) 1 1) 1 (fillL s) :=
 .inr ⟨⟨w.heap.size, 0, none⟩, 1, rfl, fun j u hu => by
  have hN := Has.new w #[.int .i64 s.row, .int .i64 s.col, .int .i64 s.st, .int .i64 s.pa, .int .i64 s.cl, .int .i64 s.un] 180
  rw [Addr.add_mid, Nat.zero_add, hN.cell, ← Array.getElem?_toList]
  exact hu⟩
def wholeL (p : Pla) (v : Value) : List Value := planeL p ++ [v, .int .i64 p.ep]
structure WhI (w wr : World) (rb gb cb : Nat) (p : Pla) (v : Value) (acc : List Sea) (L k : Nat) (l : List Int) (t : Bool) (now : Int) (T : Option ((Pla × List Sea) × List Int)) : Prop where
 box : Has wr cb (wholeL p v).toArray 177
 res : Has wr w.heap.size #[.int .i64 0, .int .i64 0, .int .i64 0, .int .i64 0, .int .i64 0, .int .i64 0, .int .i64 0, .slice none 0 0, .int .i64 0] 177
 row : wr.ownsRow 0 180 6 v acc.length (acc.flatMap fillL)
 new : ∀ j, v.ownBlock = some j → w.heap.size < j ∧ j ≠ cb
 mod : Mod (· = rb) w wr
 at_ : AtC wr rb gb now T (fun r => bindP (fillsP now k acc r) fun ss r => some ((p, ss), r)) l t
 len : acc.length ≤ L + 1 ∧ (t = false → acc.length + l.length ≤ L)
theorem WhI.still {w wr wx : World} {rb gb cb : Nat} {p : Pla} {v : Value} {acc : List Sea} {L k : Nat} {l : List Int} {t : Bool} {now : Int} {T : Option ((Pla × List Sea) × List Int)} (h : WhI w wr rb gb cb p v acc L k l t now T) (hm : Mod No wr wx) : WhI w wx rb gb cb p v acc L k l t now T :=
 ⟨hm.has h.box (fun x => x), hm.has h.res (fun x => x), hm.owns h.row (fun _ _ x => x), h.new, h.mod.trans (hm.mono fun _ _ x => x.elim), h.at_.mod0 hm, h.len⟩
def FillR (w w' : World) (rb gb : Nat) (l : List Int) (t : Bool) (now : Int) (v : Value) : Prop := ∃ s, v = .agg #[.int .i64 s.row, .int .i64 s.col, .int .i64 s.st, .int .i64 s.pa, .int .i64 s.cl, .int .i64 s.un] ∧ RdR w w' rb gb (fillP now l) now t (fun x => x = s)
theorem WhI.next {w wr w5 w6 : World} {rb gb cb : Nat} {p : Pla} {v v' : Value} {acc : List Sea} {L k : Nat} {l : List Int} {now : Int} {T : Option ((Pla × List Sea) × List Int)} (h : WhI w wr rb gb cb p v acc L (k + 1) l false now T) (hrg : rb < w.heap.size ∧ gb < w.heap.size ∧ w.heap.size < cb) {s : Sea} (hr : RdR wr w5 rb gb (fillP now l) now false (fun x => x = s))
  (o : Obj) (ho : w6.ownsRow 0 180 6 v' (acc.length + 1) ((acc.flatMap fillL) ++ fillL s)) (hg : (w5.alloc o).grownBy w6 v.ownBlock) (hs : Stays (w5.alloc o) v v') :
  ∃ l2 t2, WhI w (w6.setCell ⟨cb, 7, none⟩ v') rb gb cb p v' (acc ++ [s]) L k l2 t2 now T := by
 obtain ⟨g1, g2, g3⟩ := hrg
 obtain ⟨h1, h2, h3, h4, h5, h6, h7⟩ := h
 have hc := h1.lt
 have hw := h5.size
 have m5 := hr.1
 have m6 : Mod (fun j => v.ownBlock = some j) w5 w6 := ((Mod.refl _ w5).alloc o).grown hg (fun j hj => .inl hj)
 have m7 : Mod (fun j => v.ownBlock = some j ∨ j = cb) w5 (w6.setCell ⟨cb, 7, none⟩ v') := (m6.mono (fun _ _ x => .inl x)).setCell (p := ⟨cb, 7, none⟩) (.inl (.inr rfl)) _
 have hn : ∀ j, j ≤ w.heap.size → ¬ (v.ownBlock = some j ∨ j = cb) := fun j hj => by
  rintro (e | e)
  ·have := (h4 j e).1; omega
  ·omega
 have hnew : ∀ j, v'.ownBlock = some j → w.heap.size < j ∧ j ≠ cb := fun j hj => by
  rcases hs j hj with q | q
  ·exact h4 j q
  ·have := m5.size
   rw [World.size_alloc] at q
   omega
 have hk : AtC wr rb gb now T (fun r => bindP (fillP now r) fun s r => bindP (fillsP now k (acc ++ [s]) r) fun ss r => some ((p, ss), r)) l false := ⟨h6.rd, fun e => by
  rw [h6.yes e]
  show bindP (bindP (fillP now l) fun s r => fillsP now k (acc ++ [s]) r) _ = _
  rcases fillP now l with _ | ⟨x, r⟩ <;> rfl, h6.no⟩
 obtain ⟨l2, t2, a1, a2⟩ := hk.next hr.2
 refine ⟨l2, t2, ?_, ?_, ?_, hnew, (h5.trans m5).trans' m7 (fun j hj hl => absurd hj (hn j (by omega))), a1.mod m7 (hn rb (by omega)) (hn gb (by omega)), ?_⟩
 ·have hb : Has w6 cb (wholeL p v).toArray 177 := m6.has (m5.has h1 (by show ¬ cb = rb; omega)) (fun e => (h4 cb e).2 rfl)
  exact hb.set 7 v'
 ·exact m7.has (m5.has h2 (by show ¬ w.heap.size = rb; omega)) (hn _ (Nat.le_refl _))
 ·have e : (acc ++ [s]).flatMap fillL = acc.flatMap fillL ++ fillL s := by rw [List.flatMap_append]; simp
  rw [e, List.length_append]
  exact owns_setCell_ne ho (a := ⟨cb, 7, none⟩) (fun e => (hnew cb (by simpa using e)).2 rfl) _
 ·have l1 := h7.2 rfl
  have : acc.length + 1 ≤ L + 1 := by omega
  refine ⟨by simp; omega, fun e => ?_⟩
  have := fillP_sh (a2 e).1
  simp
  omega
theorem whole_end {W : World} {sb : Nat} {x0 x1 x2 x3 x4 x5 x6 x7 x8 : Value} (h : Has W sb #[.int .i64 0, .int .i64 0, .int .i64 0, .int .i64 0, .int .i64 0, .int .i64 0, .int .i64 0, .slice none 0 0, .int .i64 0] 177) :
  Mod (fun k => k = sb) W (((((((((W.setCell ⟨sb, 0, none⟩ (x0)).setCell ⟨sb, 1, none⟩ (x1)).setCell ⟨sb, 2, none⟩ (x2)).setCell ⟨sb, 3, none⟩ (x3)).setCell ⟨sb, 4, none⟩ (x4)).setCell ⟨sb, 5, none⟩ (x5)).setCell ⟨sb, 6, none⟩ (x6)).setCell ⟨sb, 7, none⟩ (x7)).setCell ⟨sb, 8, none⟩ (x8)) ∧ (((((((((W.setCell ⟨sb, 0, none⟩ (x0)).setCell ⟨sb, 1, none⟩ (x1)).setCell ⟨sb, 2, none⟩ (x2)).setCell ⟨sb, 3, none⟩ (x3)).setCell ⟨sb, 4, none⟩ (x4)).setCell ⟨sb, 5, none⟩ (x5)).setCell ⟨sb, 6, none⟩ (x6)).setCell ⟨sb, 7, none⟩ (x7)).setCell ⟨sb, 8, none⟩ (x8)).cell? ⟨sb, 0, none⟩ = some (x0) ∧ (((((((((W.setCell ⟨sb, 0, none⟩ (x0)).setCell ⟨sb, 1, none⟩ (x1)).setCell ⟨sb, 2, none⟩ (x2)).setCell ⟨sb, 3, none⟩ (x3)).setCell ⟨sb, 4, none⟩ (x4)).setCell ⟨sb, 5, none⟩ (x5)).setCell ⟨sb, 6, none⟩ (x6)).setCell ⟨sb, 7, none⟩ (x7)).setCell ⟨sb, 8, none⟩ (x8)).cell? ⟨sb, 1, none⟩ = some (x1) ∧ (((((((((W.setCell ⟨sb, 0, none⟩ (x0)).setCell ⟨sb, 1, none⟩ (x1)).setCell ⟨sb, 2, none⟩ (x2)).setCell ⟨sb, 3, none⟩ (x3)).setCell ⟨sb, 4, none⟩ (x4)).setCell ⟨sb, 5, none⟩ (x5)).setCell ⟨sb, 6, none⟩ (x6)).setCell ⟨sb, 7, none⟩ (x7)).setCell ⟨sb, 8, none⟩ (x8)).cell? ⟨sb, 2, none⟩ = some (x2) ∧ (((((((((W.setCell ⟨sb, 0, none⟩ (x0)).setCell ⟨sb, 1, none⟩ (x1)).setCell ⟨sb, 2, none⟩ (x2)).setCell ⟨sb, 3, none⟩ (x3)).setCell ⟨sb, 4, none⟩ (x4)).setCell ⟨sb, 5, none⟩ (x5)).setCell ⟨sb, 6, none⟩ (x6)).setCell ⟨sb, 7, none⟩ (x7)).setCell ⟨sb, 8, none⟩ (x8)).cell? ⟨sb, 3, none⟩ = some (x3) ∧ (((((((((W.setCell ⟨sb, 0, none⟩ (x0)).setCell ⟨sb, 1, none⟩ (x1)).setCell ⟨sb, 2, none⟩ (x2)).setCell ⟨sb, 3, none⟩ (x3)).setCell ⟨sb, 4, none⟩ (x4)).setCell ⟨sb, 5, none⟩ (x5)).setCell ⟨sb, 6, none⟩ (x6)).setCell ⟨sb, 7, none⟩ (x7)).setCell ⟨sb, 8, none⟩ (x8)).cell? ⟨sb, 4, none⟩ = some (x4) ∧ (((((((((W.setCell ⟨sb, 0, none⟩ (x0)).setCell ⟨sb, 1, none⟩ (x1)).setCell ⟨sb, 2, none⟩ (x2)).setCell ⟨sb, 3, none⟩ (x3)).setCell ⟨sb, 4, none⟩ (x4)).setCell ⟨sb, 5, none⟩ (x5)).setCell ⟨sb, 6, none⟩ (x6)).setCell ⟨sb, 7, none⟩ (x7)).setCell ⟨sb, 8, none⟩ (x8)).cell? ⟨sb, 5, none⟩ = some (x5) ∧ (((((((((W.setCell ⟨sb, 0, none⟩ (x0)).setCell ⟨sb, 1, none⟩ (x1)).setCell ⟨sb, 2, none⟩ (x2)).setCell ⟨sb, 3, none⟩ (x3)).setCell ⟨sb, 4, none⟩ (x4)).setCell ⟨sb, 5, none⟩ (x5)).setCell ⟨sb, 6, none⟩ (x6)).setCell ⟨sb, 7, none⟩ (x7)).setCell ⟨sb, 8, none⟩ (x8)).cell? ⟨sb, 6, none⟩ = some (x6) ∧ (((((((((W.setCell ⟨sb, 0, none⟩ (x0)).setCell ⟨sb, 1, none⟩ (x1)).setCell ⟨sb, 2, none⟩ (x2)).setCell ⟨sb, 3, none⟩ (x3)).setCell ⟨sb, 4, none⟩ (x4)).setCell ⟨sb, 5, none⟩ (x5)).setCell ⟨sb, 6, none⟩ (x6)).setCell ⟨sb, 7, none⟩ (x7)).setCell ⟨sb, 8, none⟩ (x8)).cell? ⟨sb, 7, none⟩ = some (x7) ∧ (((((((((W.setCell ⟨sb, 0, none⟩ (x0)).setCell ⟨sb, 1, none⟩ (x1)).setCell ⟨sb, 2, none⟩ (x2)).setCell ⟨sb, 3, none⟩ (x3)).setCell ⟨sb, 4, none⟩ (x4)).setCell ⟨sb, 5, none⟩ (x5)).setCell ⟨sb, 6, none⟩ (x6)).setCell ⟨sb, 7, none⟩ (x7)).setCell ⟨sb, 8, none⟩ (x8)).cell? ⟨sb, 8, none⟩ = some (x8) := by
 have b1 : Has (W.setCell ⟨sb, 0, none⟩ (x0)) sb #[x0, .int .i64 0, .int .i64 0, .int .i64 0, .int .i64 0, .int .i64 0, .int .i64 0, .slice none 0 0, .int .i64 0] 177 := h.set 0 (x0)
 have b2 : Has ((W.setCell ⟨sb, 0, none⟩ (x0)).setCell ⟨sb, 1, none⟩ (x1)) sb #[x0, x1, .int .i64 0, .int .i64 0, .int .i64 0, .int .i64 0, .int .i64 0, .slice none 0 0, .int .i64 0] 177 := b1.set 1 (x1)
 have b3 : Has (((W.setCell ⟨sb, 0, none⟩ (x0)).setCell ⟨sb, 1, none⟩ (x1)).setCell ⟨sb, 2, none⟩ (x2)) sb #[x0, x1, x2, .int .i64 0, .int .i64 0, .int .i64 0, .int .i64 0, .slice none 0 0, .int .i64 0] 177 := b2.set 2 (x2)
 have b4 : Has ((((W.setCell ⟨sb, 0, none⟩ (x0)).setCell ⟨sb, 1, none⟩ (x1)).setCell ⟨sb, 2, none⟩ (x2)).setCell ⟨sb, 3, none⟩ (x3)) sb #[x0, x1, x2, x3, .int .i64 0, .int .i64 0, .int .i64 0, .slice none 0 0, .int .i64 0] 177 := b3.set 3 (x3)
 have b5 : Has (((((W.setCell ⟨sb, 0, none⟩ (x0)).setCell ⟨sb, 1, none⟩ (x1)).setCell ⟨sb, 2, none⟩ (x2)).setCell ⟨sb, 3, none⟩ (x3)).setCell ⟨sb, 4, none⟩ (x4)) sb #[x0, x1, x2, x3, x4, .int .i64 0, .int .i64 0, .slice none 0 0, .int .i64 0] 177 := b4.set 4 (x4)
 have b6 : Has ((((((W.setCell ⟨sb, 0, none⟩ (x0)).setCell ⟨sb, 1, none⟩ (x1)).setCell ⟨sb, 2, none⟩ (x2)).setCell ⟨sb, 3, none⟩ (x3)).setCell ⟨sb, 4, none⟩ (x4)).setCell ⟨sb, 5, none⟩ (x5)) sb #[x0, x1, x2, x3, x4, x5, .int .i64 0, .slice none 0 0, .int .i64 0] 177 := b5.set 5 (x5)
 have b7 : Has (((((((W.setCell ⟨sb, 0, none⟩ (x0)).setCell ⟨sb, 1, none⟩ (x1)).setCell ⟨sb, 2, none⟩ (x2)).setCell ⟨sb, 3, none⟩ (x3)).setCell ⟨sb, 4, none⟩ (x4)).setCell ⟨sb, 5, none⟩ (x5)).setCell ⟨sb, 6, none⟩ (x6)) sb #[x0, x1, x2, x3, x4, x5, x6, .slice none 0 0, .int .i64 0] 177 := b6.set 6 (x6)
 have b8 : Has ((((((((W.setCell ⟨sb, 0, none⟩ (x0)).setCell ⟨sb, 1, none⟩ (x1)).setCell ⟨sb, 2, none⟩ (x2)).setCell ⟨sb, 3, none⟩ (x3)).setCell ⟨sb, 4, none⟩ (x4)).setCell ⟨sb, 5, none⟩ (x5)).setCell ⟨sb, 6, none⟩ (x6)).setCell ⟨sb, 7, none⟩ (x7)) sb #[x0, x1, x2, x3, x4, x5, x6, x7, .int .i64 0] 177 := b7.set 7 (x7)
 have b9 : Has (((((((((W.setCell ⟨sb, 0, none⟩ (x0)).setCell ⟨sb, 1, none⟩ (x1)).setCell ⟨sb, 2, none⟩ (x2)).setCell ⟨sb, 3, none⟩ (x3)).setCell ⟨sb, 4, none⟩ (x4)).setCell ⟨sb, 5, none⟩ (x5)).setCell ⟨sb, 6, none⟩ (x6)).setCell ⟨sb, 7, none⟩ (x7)).setCell ⟨sb, 8, none⟩ (x8)) sb #[x0, x1, x2, x3, x4, x5, x6, x7, x8] 177 := b8.set 8 (x8)
 refine ⟨((((((((((Mod.refl (fun k => k = sb) W).setCell (p := ⟨sb, 0, none⟩) (.inl rfl) _).setCell (p := ⟨sb, 1, none⟩) (.inl rfl) _).setCell (p := ⟨sb, 2, none⟩) (.inl rfl) _).setCell (p := ⟨sb, 3, none⟩) (.inl rfl) _).setCell (p := ⟨sb, 4, none⟩) (.inl rfl) _).setCell (p := ⟨sb, 5, none⟩) (.inl rfl) _).setCell (p := ⟨sb, 6, none⟩) (.inl rfl) _).setCell (p := ⟨sb, 7, none⟩) (.inl rfl) _).setCell (p := ⟨sb, 8, none⟩) (.inl rfl) _), b9.cell 0, b9.cell 1, b9.cell 2, b9.cell 3, b9.cell 4, b9.cell 5, b9.cell 6, b9.cell 7, b9.cell 8⟩
theorem rwhole_any {w : World} {rb gb : Nat} {l : List Int} {now : Int} (h : RdX w rb gb l now false) :
  Calls Try.prog 114 #[.pointer (some ⟨rb, 0, none⟩)] w fun e w' => ∃ p ss v, e = .returned (.agg (wholeL p v).toArray) ∧ w'.ownsRow 0 180 6 v ss.length (ss.flatMap fillL) ∧ (∀ j, v.ownBlock = some j → w.heap.size ≤ j) ∧
   Mod (· = rb) w w' ∧ RdQ w' rb gb (wholeP now l) now false (fun x => x = (p, ss)) := by
 have hrl := h.ne_box
 have hgl := h.lt
 have hll := h.len
 have hne : w.heap.size ≠ rb := by omega
 have hgb : w.heap.size ≠ gb := by omega
 have m0 : Mod No w (w.alloc (.cells #[.int .i64 0, .int .i64 0, .int .i64 0, .int .i64 0, .int .i64 0, .int .i64 0, .int .i64 0, .slice none 0 0, .int .i64 0] 177)) := (Mod.refl _ _).alloc _
 have a0 : AtC (w.alloc (.cells #[.int .i64 0, .int .i64 0, .int .i64 0, .int .i64 0, .int .i64 0, .int .i64 0, .int .i64 0, .slice none 0 0, .int .i64 0] 177)) rb gb now (wholeP now l) (fun r => bindP (planeP r) fun p r => bindP (numP r 0 0) fun ep r => bindP (numP r 0 0) fun n r => bindP (fillsP now n.toNat [] r) fun ss r => some ((p.at ep, ss), r)) l false := (h.start (wholeP now)).mod0 m0
 have A0 := hide a0
 have M0 := hide m0
 have B0 := hide (Has.new w #[.int .i64 0, .int .i64 0, .int .i64 0, .int .i64 0, .int .i64 0, .int .i64 0, .int .i64 0, .slice none 0 0, .int .i64 0] 177)
 have hz0 : w.heap.size + 1 ≤ (w.alloc (.cells #[.int .i64 0, .int .i64 0, .int .i64 0, .int .i64 0, .int .i64 0, .int .i64 0, .int .i64 0, .slice none 0 0, .int .i64 0] 177)).heap.size := by simp
 have HZ0 := hide hz0
 clear h m0 a0 hz0
 generalize hT : wholeP now l = T at *
 have HT := hide hT
 clear hT
 go_enter Try.func114, Try.ntmps114
 go_wp2_with fail
 refine (rplane_any (unhide A0).rd).mono ?_
 rintro e w1 ⟨p, rfl, fp, hp⟩
 obtain ⟨l1, t1, a1, e1⟩ := (unhide A0).next hp.2
 have A1 := hide a1
 have E1 := hide e1
 have M1 := hide (((unhide M0).mono (S' := (· = rb)) fun _ _ x => x.elim).trans hp.1)
 have B1 := hide (hp.1.has (unhide B0) hne)
 have HZ1 := hide (Nat.le_trans (unhide HZ0) hp.1.size)
 clear hp a1 e1 A0 M0 B0 fp HZ0
 unfold planeL
 go_wp2_with fail
 refine (rnum_any (unhide A1).rd).mono ?_
 rintro e w2 ⟨ep, rfl, fe, he⟩
 obtain ⟨l2, t2, a2, e2⟩ := (unhide A1).next he.2
 have m2 : Mod No w2 (w2.alloc (.cells #[.int .i64 p.rows, .int .i64 p.cols, .int .i64 p.front, .int .i64 p.l0, .int .i64 p.l1, .int .i64 p.l2, .int .i64 p.l3, .slice none 0 0, .int .i64 ep] 177)) := (Mod.refl _ _).alloc _
 have A2 := hide (a2.mod0 m2)
 have E2 := hide e2
 have M2 := hide (((unhide M1).trans he.1).trans (m2.mono (S' := (· = rb)) fun _ _ x => x.elim))
 have B2 := hide (m2.has (he.1.has (unhide B1) hne) (fun x => x))
 have C2 := hide (Has.new w2 #[.int .i64 p.rows, .int .i64 p.cols, .int .i64 p.front, .int .i64 p.l0, .int .i64 p.l1, .int .i64 p.l2, .int .i64 p.l3, .slice none 0 0, .int .i64 ep] 177)
 have HZ2 := hide (Nat.le_trans (unhide HZ1) he.1.size)
 clear he a2 e2 A1 M1 B1 fe HZ1 m2
 go_wp2_with fail
 generalize hcb : w2.heap.size = cb at *
 have hcb1 : w.heap.size < cb := by have := unhide HZ2; omega
 refine (rnum_any (unhide A2).rd).mono ?_
 rintro e w3 ⟨n, rfl, fn, hn⟩
 obtain ⟨l3, t3, a3, e3⟩ := (unhide A2).next hn.2
 have I3 : WhI w w3 rb gb cb (p.at ep) (.slice none 0 0) [] l.length n.toNat l3 t3 now T := by
  refine ⟨hn.1.has (unhide C2) (by show ¬ cb = rb; omega), hn.1.has (unhide B2) hne, World.ownsRow_nil _ _ _ _, fun j hj => by simp [Value.ownBlock] at hj, (unhide M2).trans hn.1, a3, by simp, fun e => ?_⟩
  have q3 := e3 e
  have q2 := (unhide E2) q3.2
  have q1 := (unhide E1) q2.2
  have r3 := numP_sh q3.1
  have r2 := numP_sh q2.1
  have r1 := planeP_L.le q1.1
  simp
  omega
 have I3 := hide I3
 clear hn a3 e3 A2 M2 B2 C2 HZ2 E2 E1
 go_wp2_with fail
 go_loopw [4] (fun s wr => ∃ (n : Int) (v : Value) (acc : List Sea) (l' : List Int) (t' : Bool), s = .int .i64 n ∧ n ≤ 9223372036854775807 ∧ Hid (WhI w wr rb gb cb (p.at ep) v acc l.length n.toNat l' t' now T)) (fun s _ => (intOf s).toNat)
 case atStart => exact ⟨n, _, _, _, _, rfl, fn.2, I3⟩
 case round =>
  obtain ⟨n', v, acc, l', t', rfl, hn', I4⟩ := hrel
  clear I3
  obtain ⟨aa, cc, hrh, hrc, hrj⟩ := (unhide I4).at_.rd.has
  have et : wr.cell? ⟨rb, 2, none⟩ = some (.bool t') := hrh.cell 2
  have erl := hrh.lt
  clear hrh hrc hrj
  by_cases hpos : 0 < n' ∧ t' = false
  ·obtain ⟨hn0, rfl⟩ := hpos
   have hgt : n' > 0 := hn0
   obtain ⟨k, hk⟩ : ∃ k, n'.toNat = k + 1 := ⟨n'.toNat - 1, by omega⟩
   rw [hk] at I4
   have I4 := hide (unhide I4)
   have hw1 : IntKind.i64.wrap (n' - 1) = n' - 1 := by rw [IntKind.wrap_i64]; omega
   obtain ⟨a, c, rfl⟩ := slice_of_owns (unhide I4).row
   have b7 : wr.cell? ⟨cb, 7, none⟩ = some (.slice a acc.length c) := (unhide I4).box.cell 7
   have bf := (unhide I4).box.frozen
   have bl := (unhide I4).box.lt
   have I4d := hide ((unhide I4).still (Mod.refl No wr).drew)
   have HF := hide (show Calls Try.prog 111 #[.pointer (some ⟨rb, 0, none⟩)] wr.drew fun e w' => ∃ v, e = .returned v ∧ FillR wr.drew w' rb gb l' false now v from (rfill_any (unhide I4d).at_.rd).mono (fun e w' ⟨s, h1, h2, h3⟩ => ⟨_, h1, s, rfl, h3⟩))
   have hal : acc.length ≤ 1099511627776 := by have := (unhide I4).len.2 rfl; omega
   have HG := hide (show rb < w.heap.size ∧ gb < w.heap.size ∧ w.heap.size < cb from ⟨hrl, hgl, hcb1⟩)
   have NB := hide (fun k (e : (Value.slice a acc.length c).ownBlock = some k) => (unhide I4).new k e)
   have hcr : ¬ cb = rb := by omega
   have hnr : ∀ k, (Value.slice a acc.length c).ownBlock = some k → ¬ k = rb := fun k e e2 => by have := ((unhide I4).new k e).1; omega
   have NR := hide hnr
   have NCB := hide (show Option.some cb ≠ (Value.slice a acc.length c).ownBlock from fun e => ((unhide I4).new cb e.symm).2 rfl)
   obtain ⟨iF, q0, q1, q2, q3⟩ := info_parts infoFill
   clear I4 hnr
   go_upto_region 5 with fail
   go_region_law (first
    |(refine step_callx rfl 111 _ _ rfl #[.pointer (some ⟨rb, 0, none⟩)] (by simp [Act.eval, Act.put]) (fun W => by kernel_rfl) _ (unhide HF) ?_; intro v5 w5 h5; obtain ⟨s5, rfl, r5⟩ := h5; have R5 := hide r5; have X5 := hide (r5.1.has (unhide I4d).box hcr); have O5 := hide (r5.1.owns (unhide I4d).row (unhide NR)); have pc5 : w5.cell? ⟨cb, 7, none⟩ = some (.slice a acc.length c) := (unhide X5).cell 7; have pf5 := (unhide X5).frozen; have pl5 := (unhide X5).lt; clear r5)
    |(refine step_append_row rfl (.tmp 24) (.tmp 27) 175 rfl 180 iF _ 6 48 Try.underlying175 q0 q1 q2 q3 rfl (by decide) (.slice a acc.length c) acc.length _ (by simp [Act.eval, Act.put]) (by exact (((Mod.refl No w5).alloc _).owns (unhide O5) (fun _ _ x => x))) (.slice (some ⟨w5.heap.size, 0, none⟩) 1 1) 1 (fillL s5) (by simp [Act.eval, Act.put]) (by exact reads_fill w5 s5) rfl (by intro u hu; simp [fillL] at hu; rcases hu with rfl | rfl | rfl | rfl | rfl | rfl <;> rfl) (by unfold maxLen; omega) (by omega) ?_; intro v' w6 ho6 hg6 hs6; obtain ⟨a6, c6, rfl⟩ := slice_of_owns ho6; have X6 := hide (Has.grown (((Mod.refl No w5).alloc _).has (unhide X5) (fun x => x)) hg6 (unhide NCB)); have pc6 : w6.cell? ⟨cb, 7, none⟩ = some (.slice a acc.length c) := (unhide X6).cell 7; have pf6 := (unhide X6).frozen; have pl6 := (unhide X6).lt))
   all_goals go_wp2_with fail
   all_goals
    obtain ⟨l9, t9, i9⟩ := (unhide I4d).next (unhide HG) (unhide R5) _ ho6 hg6 hs6
    refine ⟨⟨n' - 1, .slice a6 (acc.length + 1) c6, acc ++ [s5], l9, t9, rfl, by omega, hide ?_⟩, by simp [intOf]; omega⟩
    rw [show (n' - 1).toNat = k by omega]
    exact i9
  ·obtain ⟨a, c, rfl⟩ := slice_of_owns (unhide I4).row
   have e0 : wr.cell? ⟨cb, 0, none⟩ = some (.int .i64 p.rows) := (unhide I4).box.cell 0
   have e1 : wr.cell? ⟨cb, 1, none⟩ = some (.int .i64 p.cols) := (unhide I4).box.cell 1
   have e2 : wr.cell? ⟨cb, 2, none⟩ = some (.int .i64 p.front) := (unhide I4).box.cell 2
   have e3 : wr.cell? ⟨cb, 3, none⟩ = some (.int .i64 p.l0) := (unhide I4).box.cell 3
   have e4 : wr.cell? ⟨cb, 4, none⟩ = some (.int .i64 p.l1) := (unhide I4).box.cell 4
   have e5 : wr.cell? ⟨cb, 5, none⟩ = some (.int .i64 p.l2) := (unhide I4).box.cell 5
   have e6 : wr.cell? ⟨cb, 6, none⟩ = some (.int .i64 p.l3) := (unhide I4).box.cell 6
   have e7 : wr.cell? ⟨cb, 7, none⟩ = some (.slice a acc.length c) := (unhide I4).box.cell 7
   have e8 : wr.cell? ⟨cb, 8, none⟩ = some (.int .i64 ep) := (unhide I4).box.cell 8
   have z0 : wr.cell? ⟨w.heap.size, 0, none⟩ = some (.int .i64 0) := (unhide I4).res.cell 0
   have z1 : wr.cell? ⟨w.heap.size, 1, none⟩ = some (.int .i64 0) := (unhide I4).res.cell 1
   have z2 : wr.cell? ⟨w.heap.size, 2, none⟩ = some (.int .i64 0) := (unhide I4).res.cell 2
   have z3 : wr.cell? ⟨w.heap.size, 3, none⟩ = some (.int .i64 0) := (unhide I4).res.cell 3
   have z4 : wr.cell? ⟨w.heap.size, 4, none⟩ = some (.int .i64 0) := (unhide I4).res.cell 4
   have z5 : wr.cell? ⟨w.heap.size, 5, none⟩ = some (.int .i64 0) := (unhide I4).res.cell 5
   have z6 : wr.cell? ⟨w.heap.size, 6, none⟩ = some (.int .i64 0) := (unhide I4).res.cell 6
   have z7 : wr.cell? ⟨w.heap.size, 7, none⟩ = some (.slice none 0 0) := (unhide I4).res.cell 7
   have z8 : wr.cell? ⟨w.heap.size, 8, none⟩ = some (.int .i64 0) := (unhide I4).res.cell 8
   have zf := (unhide I4).res.frozen
   have zl := (unhide I4).res.lt
   have bl := (unhide I4).box.lt
   have FE := hide (whole_end (x0 := .int .i64 p.rows) (x1 := .int .i64 p.cols) (x2 := .int .i64 p.front) (x3 := .int .i64 p.l0) (x4 := .int .i64 p.l1) (x5 := .int .i64 p.l2) (x6 := .int .i64 p.l3) (x7 := .slice a acc.length c) (x8 := .int .i64 ep) (unhide I4).res)
   have NR := hide (show ¬ rb = w.heap.size ∧ ¬ gb = w.heap.size from ⟨by omega, by omega⟩)
   have HE := hide (show n'.toNat = 0 ∨ t' = true from by
    cases t' with
    | true => exact .inr rfl
    | false => exact .inl (by have := hpos; simp at this; omega))
   have NB := hide (fun k (e : (Value.slice a acc.length c).ownBlock = some k) => (unhide I4).new k e)
   have hex : ¬ n' > 0 ∨ (n' > 0 ∧ t' = true) := by
    by_cases h0 : n' > 0
    ·refine .inr ⟨h0, ?_⟩
     cases t' with
     | true => rfl
     | false => exact absurd ⟨h0, rfl⟩ hpos
    ·exact .inl h0
   clear hpos
   have CLOSE := hide (show ∀ W, W = (((((((((wr.setCell ⟨w.heap.size, 0, none⟩ (.int .i64 p.rows)).setCell ⟨w.heap.size, 1, none⟩ (.int .i64 p.cols)).setCell ⟨w.heap.size, 2, none⟩ (.int .i64 p.front)).setCell ⟨w.heap.size, 3, none⟩ (.int .i64 p.l0)).setCell ⟨w.heap.size, 4, none⟩ (.int .i64 p.l1)).setCell ⟨w.heap.size, 5, none⟩ (.int .i64 p.l2)).setCell ⟨w.heap.size, 6, none⟩ (.int .i64 p.l3)).setCell ⟨w.heap.size, 7, none⟩ (.slice a acc.length c)).setCell ⟨w.heap.size, 8, none⟩ (.int .i64 ep)) → ∃ q ss v, Ending.returned (.agg #[.int .i64 p.rows, .int .i64 p.cols, .int .i64 p.front, .int .i64 p.l0, .int .i64 p.l1, .int .i64 p.l2, .int .i64 p.l3, .slice a acc.length c, .int .i64 ep]) = .returned (.agg (wholeL q v).toArray) ∧ W.ownsRow 0 180 6 v ss.length (ss.flatMap fillL) ∧ (∀ j, v.ownBlock = some j → w.heap.size ≤ j) ∧ Mod (· = rb) w W ∧ RdQ W rb gb T now false (fun x => x = (q, ss)) from by
    rintro W rfl
    have m9 := (unhide FE).1
    refine ⟨p.at ep, acc, .slice a acc.length c, rfl, m9.owns (unhide I4).row (fun k e => by have := (unhide NB) k e; omega), fun k e => by have := (unhide NB) k e; omega, (unhide I4).mod.trans' m9 (fun k hk hl => by omega), ?_⟩
    have ha := (unhide I4).at_.mod m9 (unhide NR).1 (unhide NR).2
    refine AtC.fin (l := l') (t := t') ⟨ha.rd, fun e => ?_, ha.no⟩
    rcases unhide HE with q | q
    ·have := ha.yes e
     rw [q] at this
     exact this
    ·rw [q] at e; simp at e)
   rcases hex with h0 | ⟨h0, rfl⟩
   all_goals
    go_wp2_with fail
    obtain ⟨m9, d0, d1, d2, d3, d4, d5, d6, d7, d8⟩ := unhide FE
    refine bodyPost_ret (by simp [results, Try.results114, go_sem, d0, d1, d2, d3, d4, d5, d6, d7, d8]; try rfl) rfl ?_
    exact (unhide CLOSE) _ rfl
end Go.Proofs.Ythhibagcpjeihaa
