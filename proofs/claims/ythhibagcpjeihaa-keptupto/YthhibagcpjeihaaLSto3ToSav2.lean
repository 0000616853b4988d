import Derived.Test.YthhibagcpjeihaaLOpenToWw1
import Derived.Test.YthhibagcpjeihaaLWw2ToKwh
import Derived.Deep.RegionHeld3
namespace Go.Proofs.Ythhibagcpjeihaa
open Go.RowKit
open M
set_option linter.unusedVariables false
set_option linter.unusedSimpArgs false
set_option maxRecDepth 100000
set_option maxHeartbeats 4000000
theorem step_callg {P : Program} {ops : Array Oper} {o : Oper} {a : Act} {w : World} {K : Act → World → Prop} {Q : Exit → Act → World → Prop} {E : Prop}
  (hw : Region.wanted o (yielded ops a.tmps) = true) (f : FuncId) (args : Array Operand) (tys : Array TypeId) (hop : o.op = Op.call { callee := Callee.value (Operand.func f), args := args, argTypes := tys })
  (vs : Array Value) (hvs : args.map a.eval = vs) (hcf : ∀ W, (callFunc f vs).run P W = .ok (.enter f vs) W) (R : Value → World → Prop) (hc : Calls P f vs w fun e w' => ∃ v, e = .returned v ∧ R v w')
  (hK : ∀ v w', R v w' → K (a.put o.dst v) w') : if Region.wanted o (yielded ops a.tmps) = true then Oper.wp P o a w K Q else E := by
 rw [if_pos hw]
 unfold Oper.wp execOp
 simp [go_sem, hop, hvs]
 rw [hcf]
 simp [go_sem]
 refine hc.mono ?_
 rintro e w' ⟨v, rfl, hr⟩
 exact hK _ _ hr
theorem sreplace_shut {w : World} {kb : Nat} {cs : Array Value} (hk : Has w kb cs 117) (c30 : cs[30]? = some (.pointer none)) (xa : Option Addr) (n c : Nat) :
  Calls Try.prog 62 #[.pointer (some ⟨kb, 30, none⟩), .slice xa n c] w fun e w' => e = .returned (.int .i64 17) ∧ w' = w := by
 have HA := hide (ask_shut hk c30 (n : Int))
 clear hk c30
 go_enter Try.func62, Try.ntmps62
 go_wp2_with fail
 refine (unhide HA).mono ?_
 rintro e w1 ⟨rfl, rfl⟩
 go_wp2
 go_ret
 exact ⟨rfl, rfl⟩
theorem shorten_shut {w : World} {kb : Nat} {cs : Array Value} (hk : Has w kb cs 117) (c30 : cs[30]? = some (.pointer none)) (xa : Option Addr) (n c : Nat) :
  Calls Try.prog 55 #[.pointer (some ⟨kb, 30, none⟩), .slice xa n c] w fun e w' => e = .returned (.int .i64 17) ∧ Mod No w w' := by
 have d0 := hk.cell 30
 rw [c30] at d0
 have dl := hk.lt
 have HR := hide fun W (hm : Mod No w W) => (sreplace_shut (hm.has hk (fun x => x)) c30 xa n c)
 clear hk
 go_enter Try.func55, Try.ntmps55
 go_wp2_with fail
 go_quiet (fail)
 go_wp2_with fail
 refine ((unhide HR) _ ((Mod.refl No w).drewN _)).mono ?_
 rintro e w1 ⟨rfl, rfl⟩
 go_wp2
 go_ret
 exact ⟨rfl, (Mod.refl No w).drewN _⟩
theorem shorten_same {w : World} {S : Nat → Prop} {kb tb : Nat} {T : TP} {cs : Array Value} (hk : Has w kb cs 117) (c30 : cs[30]? = some (.pointer (some ⟨tb, 0, none⟩))) (ht : TapeH w S tb T) (i : Nat) (hi : i < 2) (c31 : cs[31]? = some (.int .i64 i)) (xa : Option Addr) (n c : Nat) (hs : (T.b i).length ≤ n) :
  Calls Try.prog 55 #[.pointer (some ⟨kb, 30, none⟩), .slice xa n c] w fun e w' => e = .returned (.int .i64 0) ∧ Mod No w w' := by
 have d0 := hk.cell 30
 rw [c30] at d0
 have d1 := hk.cell 31
 rw [c31] at d1
 have dl := hk.lt
 have HR := hide fun W (hm : Mod No w W) => (show Calls Try.prog 40 #[.pointer (some ⟨tb, 0, none⟩), .int .i64 i] W fun e w' => ∃ v, e = .returned v ∧ ∃ a cc, v = .slice a (T.b i).length cc ∧ Mod No W w' from (read_t (ht.mod0 hm) i (by omega)).mono (fun e w' ⟨v, h1, h2, h3, h4⟩ => by
  obtain ⟨a, cc, rfl⟩ := slice_of_owns h2
  exact ⟨_, h1, a, cc, rfl, h4⟩))
 have HS5 := hide fun w3 (m : Mod No w.drew w3) => (show w3.cell? ⟨kb, 30, none⟩ = some (.pointer (some ⟨tb, 0, none⟩)) ∧ w3.cell? ⟨kb, 31, none⟩ = some (.int .i64 i) from ⟨((m.has hk.drew (fun x => x)).cell 30).trans c30, ((m.has hk.drew (fun x => x)).cell 31).trans c31⟩)
 have hle : ((T.b i).length : Int) ≤ (n : Int) := by omega
 generalize (T.b i).length = m at *
 clear hk ht hs
 go_enter Try.func55, Try.ntmps55
 go_wp2_with fail
 go_region_held3 (fun w' => w'.cell? ⟨kb, 30, none⟩ = some (.pointer (some ⟨tb, 0, none⟩)) ∧ w'.cell? ⟨kb, 31, none⟩ = some (.int .i64 i)) (first | with_reducible assumption | go_keep) (first
  |(refine step_callg (by first | rfl | simp [Region.wanted, yielded]) 40 _ _ rfl #[.pointer (some ⟨tb, 0, none⟩), .int .i64 i] (by simp [Act.eval, Act.put]) (fun W => by kernel_rfl) _ ((unhide HR) _ (Mod.refl No w).drew) ?_; rintro v5 w3 ⟨a, cc, rfl, m3⟩; have s5 := (unhide HS5) w3 m3; obtain ⟨s50, s51⟩ := id s5))
 all_goals go_wp2_with fail
 all_goals go_ret
 all_goals exact ⟨rfl, (Mod.refl No w).drew.trans m3⟩
theorem shorten_long {w : World} {S : Nat → Prop} {kb tb : Nat} {T : TP} {cs : Array Value} (hk : Has w kb cs 117) (c30 : cs[30]? = some (.pointer (some ⟨tb, 0, none⟩))) (hkS : ¬ S kb) (ht : TapeH w S tb T) (i : Nat) (hi : i < 2) (c31 : cs[31]? = some (.int .i64 i)) (tn : Bool) (c32 : cs[32]? = some (.bool tn))
  (xa : Option Addr) (c : Nat) (r : List Int) (hx : Reads w (.slice xa r.length c) r.length (u8s r)) (hxb : (Value.slice xa r.length c).ownBlock ≠ some tb) (hr : ∀ x ∈ r, 0 ≤ x ∧ x < 256) (hl : (T.b (1 - i)).length + r.length ≤ 17592186044416) (hs : ¬ (T.b i).length ≤ r.length) :
  Calls Try.prog 55 #[.pointer (some ⟨kb, 30, none⟩), .slice xa r.length c] w fun e w' => e = .returned (.int .i64 (repP T i r).1) ∧ Repd w w' S kb tb i cs (repP T i r) := by
 have d0 := hk.cell 30
 rw [c30] at d0
 have d1 := hk.cell 31
 rw [c31] at d1
 have dl := hk.lt
 have HR := hide fun W (hm : Mod No w W) => (show Calls Try.prog 40 #[.pointer (some ⟨tb, 0, none⟩), .int .i64 i] W fun e w' => ∃ v, e = .returned v ∧ ∃ a cc, v = .slice a (T.b i).length cc ∧ Mod No W w' from (read_t (ht.mod0 hm) i (by omega)).mono (fun e w' ⟨v, h1, h2, h3, h4⟩ => by
  obtain ⟨a, cc, rfl⟩ := slice_of_owns h2
  exact ⟨_, h1, a, cc, rfl, h4⟩))
 have HP := hide fun W (hm : Mod No w W) => (show Calls Try.prog 62 #[.pointer (some ⟨kb, 30, none⟩), .slice xa r.length c] W fun e w' => e = .returned (.int .i64 (repP T i r).1) ∧ Repd w w' S kb tb i cs (repP T i r) from
  (sreplace_any (hm.has hk (fun x => x)) c30 hkS (ht.mod0 hm) i hi c31 tn c32 xa c r (hx.mod hm (fun _ _ x => x)) hxb hr hl).mono (fun e w' ⟨q1, q2⟩ => ⟨q1, q2.tape.wide (fun k q => q.imp id (fun q => Nat.le_trans hm.size q)), q2.has, (hm.mono (fun _ _ x => x.elim)).trans q2.mod⟩))
 have HS5 := hide fun w3 (m : Mod No w.drew w3) => (show w3.cell? ⟨kb, 30, none⟩ = some (.pointer (some ⟨tb, 0, none⟩)) ∧ w3.cell? ⟨kb, 31, none⟩ = some (.int .i64 i) from ⟨((m.has hk.drew (fun x => x)).cell 30).trans c30, ((m.has hk.drew (fun x => x)).cell 31).trans c31⟩)
 have hle : ¬ ((T.b i).length : Int) ≤ (r.length : Int) := by omega
 generalize repP T i r = R at *
 generalize (T.b i).length = m at *
 generalize r.length = n at *
 clear hk ht hs hx hxb hr hl
 go_enter Try.func55, Try.ntmps55
 go_wp2_with fail
 go_region_held3 (fun w' => w'.cell? ⟨kb, 30, none⟩ = some (.pointer (some ⟨tb, 0, none⟩)) ∧ w'.cell? ⟨kb, 31, none⟩ = some (.int .i64 i)) (first | with_reducible assumption | go_keep) (first
  |(refine step_callg (by first | rfl | simp [Region.wanted, yielded]) 40 _ _ rfl #[.pointer (some ⟨tb, 0, none⟩), .int .i64 i] (by simp [Act.eval, Act.put]) (fun W => by kernel_rfl) _ ((unhide HR) _ (Mod.refl No w).drew) ?_; rintro v5 w3 ⟨a, cc, rfl, m3⟩; have s5 := (unhide HS5) w3 m3; obtain ⟨s50, s51⟩ := id s5; have M3 := hide ((Mod.refl No w).drew.trans m3); clear m3))
 all_goals go_wp2_with fail
 all_goals refine ((unhide HP) _ (unhide M3)).mono ?_
 all_goals rintro e w4 ⟨rfl, q⟩
 all_goals have Q := hide q
 all_goals clear q
 all_goals go_wp2
 all_goals go_ret
 all_goals exact ⟨rfl, unhide Q⟩
def ptR (pt : Nat → Option Nat) (e : Int) (i : Nat) : Nat → Option Nat :=
 if e = 16 then clrP pt else if e = 0 then (fun j => if j = 30 then (if i = 0 then some 0 else none) else if j = 31 then none else pt j) else pt
theorem ptR_eq (pt : Nat → Option Nat) (e : Int) (i j : Nat) (hj : j < 29) : ptR pt e i j = pt j := by
 unfold ptR clrP
 repeat' split
 all_goals first | rfl | omega | skip
 all_goals simp only
 all_goals rw [if_neg (by omega)]
 all_goals first | rfl | rw [if_neg (by omega)]
theorem repC_keep (now : Int) (pt : Nat → Option Nat) (e : Int) (i : Nat) (hi : i < 2) : repC e i (keepCells now pt) = keepCells now (ptR pt e i) := by
 unfold repC ptR
 split
 ·rw [keep_clr]
 ·split
  ·have : i = 0 ∨ i = 1 := by omega
   rcases this with rfl | rfl <;> rfl
  ·rfl
def repK (K : KS) (R : Int × TP) : KS := { K with T := R.2, live := R.1 != 16, file := if R.1 = 0 then 1 - K.file else K.file, torn := if R.1 = 0 then false else K.torn }
theorem replaceK_eq {K : KS} {r : List Int} (h : K.live = true) : replaceK K r = ((repP K.T K.file r).1, repK K (repP K.T K.file r)) := by
 unfold replaceK repP repK
 rw [if_neg (by simp [h])]
 by_cases h1 : K.T.room < (K.T.used : Int) + r.length
 ·rw [if_pos h1, if_pos h1]
  obtain ⟨tb, f, t, l, T⟩ := K
  simp only at h
  subst h
  rfl
 rw [if_neg h1, if_neg h1]
 simp only
 generalize (if r = [] then (true, K.T) else writeP K.T (1 - K.file) r) = W
 obtain ⟨wb, T1⟩ := W
 cases wb with
 | false => rfl
 | true =>
  have e1 : ¬ ((true, T1) : Bool × TP).1 = false := by simp
  rw [if_neg e1]
  simp only [if_neg e1]
  generalize clearP T1 K.file = C
  obtain ⟨cb, T2⟩ := C
  cases cb with
  | false => rfl
  | true =>
   obtain ⟨tb, f, t, l, T⟩ := K
   simp only at h
   subst h
   rfl
theorem KeepT.replaced {w0 w w' : World} {ow : Nat → Nat} {kb : Nat} {now : Int} {pt : Nat → Option Nat} {fl : Nat → Option (Pla × List Sea)} {K : KS} {R : Int × TP} (h : KeepT w0 ow kb now pt fl K) (hlive : K.live = true) (hm0 : Mod No w0 w) (hi : K.file < 2) (hr : Repd w w' (fun k => ow k = 30) kb K.tb K.file (keepCells now pt) R) :
  KeepT w' (owT ow w.heap.size w'.heap.size) kb now (ptR pt R.1 K.file) fl (repK K R) ∧ (∀ k, k < w0.heap.size → owT ow w.heap.size w'.heap.size k = ow k) ∧ Mod (fun k => ow k ≠ 0) w0 w' := by
 obtain ⟨ht, hh, hm⟩ := hr
 have hx := h.keep
 have hn := hm0.size
 have hsz := hm.size
 have hold : ∀ k, ow k ≠ 0 → k < w.heap.size := fun k hk => Nat.lt_of_lt_of_le (hx.old k hk) hn
 have hmm : Mod (fun k => ow k = 30 ∨ k = kb) w0 w' := (hm0.mono (fun _ _ x => x.elim)).trans hm
 rw [repC_keep now pt R.1 K.file hi] at hh
 refine ⟨⟨?_, ?_, ?_, ?_, ?_⟩, fun k hk => if_pos (by omega), hmm.mono (fun k _ q => by
  rcases q with q | q
  ·show ow k ≠ 0; omega
  ·show ow k ≠ 0; rw [q, hx.mine]; omega)⟩
 ·have hx' : KeepX w' ow kb now (ptR pt R.1 K.file) fl := by
   refine ⟨hh, hx.mine, fun k hk => Nat.lt_of_lt_of_le (hx.old k hk) hmm.size, fun j hj hf => by rw [ptR_eq pt _ _ j (by omega)]; exact hx.gone j hj hf, fun j p l hj hf => ?_⟩
   obtain ⟨b, h1, h2, h3⟩ := hx.here j p l hj hf
   refine ⟨b, by rw [ptR_eq pt _ _ j (by omega)]; exact h1, h2, h3.mod hmm (fun k hk q => ?_)⟩
   rcases q with q | q
   ·omega
   ·rw [q, hx.mine] at hk; omega
  refine hx'.ow w.heap.size (fun k hk => if_pos hk) hold (fun k hk => ?_)
  unfold owT at hk
  split at hk
  ·omega
  ·split at hk
   ·assumption
   ·exact absurd rfl hk
 ·have hp := h.ptr
  rw [if_pos hlive] at hp
  unfold ptR clrP repK
  by_cases he : R.1 = 16
  ·rw [if_pos he]
   simp [he]
  ·rw [if_neg he]
   by_cases h0 : R.1 = 0
   ·rw [if_pos h0]
    simp [h0, hp]
   ·rw [if_neg h0]
    simp [he, hp]
 ·have := h.file
  unfold fileN ptR clrP repK at *
  by_cases he : R.1 = 16
  ·rw [if_pos he]
   simp [he]
   exact this
  ·rw [if_neg he]
   by_cases h0 : R.1 = 0
   ·rw [if_pos h0]
    have hc : K.file = 0 ∨ K.file = 1 := by omega
    rcases hc with hc | hc <;> simp [h0, hc]
   ·rw [if_neg h0]
    simp [h0]
    exact this
 ·have := h.torn
  unfold tornB ptR clrP repK at *
  by_cases he : R.1 = 16
  ·rw [if_pos he]
   simp [he]
   exact this
  ·rw [if_neg he]
   by_cases h0 : R.1 = 0
   ·rw [if_pos h0]
    simp [h0]
   ·rw [if_neg h0]
    simp [h0]
    exact this
 ·refine ht.narrow.wide (fun k ⟨hk, hl⟩ => ?_)
  show owT ow w.heap.size w'.heap.size k = 30
  unfold owT
  rcases hk with hk | hk
  ·rw [if_pos (hold k (by omega))]; exact hk
  ·rw [if_neg (by omega), if_pos hl]
structure PutT (T T' : TP) (i : Nat) (xs : List Int) (l : Nat) : Prop where
 b : ∀ j, T'.b j = if j = i then xs else T.b j
 last : ∀ j, T'.last j = if j = i then l else T.last j
 room : T'.room = T.room
theorem PutT.put (T : TP) (i : Nat) (xs : List Int) (l : Nat) (f : Int) : PutT T (T.put i xs l f) i xs l := ⟨fun _ => rfl, fun _ => rfl, rfl⟩
theorem PutT.trans {T T1 T2 : TP} {i : Nat} {xs ys : List Int} {l m : Nat} (h : PutT T T1 i xs l) (h2 : PutT T1 T2 i ys m) : PutT T T2 i ys m := by
 refine ⟨fun j => ?_, fun j => ?_, h2.room.trans h.room⟩
 ·rw [h2.b, h.b]; split <;> rfl
 ·rw [h2.last, h.last]; split <;> rfl
theorem writeP_yes {T : TP} {i : Nat} {r : List Int} (h : (writeP T i r).1 = true) : PutT T (writeP T i r).2 i (T.b i ++ r) (T.b i ++ r).length ∧ (T.used : Int) + r.length ≤ T.room ∧ T.fuse ≠ 0 := by
 unfold writeP appendP syncP at *
 by_cases h1 : T.room < (T.used : Int) + r.length ∨ T.fuse = 0
 ·simp only [if_pos h1] at h
  simp at h
 ·simp only [if_neg h1] at h ⊢
  rw [if_pos (by simp)] at h ⊢
  by_cases h2 : (T.put i (T.b i ++ r) (T.last i) (burnt T.fuse)).fuse = 0
  ·rw [if_pos h2] at h; simp at h
  ·rw [if_neg h2] at h ⊢
   have h3 : ¬ T.room < (T.used : Int) + r.length := fun e => h1 (.inl e)
   have e : (T.put i (T.b i ++ r) (T.last i) (burnt T.fuse)).b i = T.b i ++ r := if_pos rfl
   refine ⟨?_, by omega, fun e => h1 (.inr e)⟩
   simp only
   rw [e]
   exact (PutT.put T i (T.b i ++ r) (T.last i) (burnt T.fuse)).trans (PutT.put _ i _ _ _)
theorem writeP_no {T : TP} {i : Nat} {r : List Int} (h : (writeP T i r).1 = false) (hr : (T.used : Int) + r.length ≤ T.room) : (writeP T i r).2.fuse = 0 ∧ ((writeP T i r).2 = T ∨ PutT T (writeP T i r).2 i (T.b i ++ r) (T.last i)) := by
 unfold writeP appendP syncP at *
 by_cases h1 : T.room < (T.used : Int) + r.length ∨ T.fuse = 0
 ·have hf : T.fuse = 0 := by rcases h1 with q | q; omega; exact q
  simp only [if_pos h1] at h ⊢
  rw [if_neg (by simp)]
  exact ⟨hf, .inl rfl⟩
 ·simp only [if_neg h1] at h ⊢
  rw [if_pos (by simp)] at h ⊢
  by_cases h2 : (T.put i (T.b i ++ r) (T.last i) (burnt T.fuse)).fuse = 0
  ·rw [if_pos h2] at h ⊢
   exact ⟨h2, .inr (PutT.put _ _ _ _ _)⟩
  ·rw [if_neg h2] at h; simp at h
theorem clearP_yes {T : TP} {i : Nat} (h : (clearP T i).1 = true) : PutT T (clearP T i).2 i [] 0 := by
 unfold clearP at *
 by_cases h1 : T.fuse = 0
 ·rw [if_pos h1] at h; simp at h
 ·rw [if_neg h1]; exact PutT.put _ _ _ _ _
theorem clearP_no {T : TP} {i : Nat} (h : (clearP T i).1 = false) : (clearP T i).2 = T ∧ T.fuse = 0 := by
 unfold clearP at *
 by_cases h1 : T.fuse = 0
 ·rw [if_pos h1]; exact ⟨rfl, h1⟩
 ·rw [if_neg h1] at h; simp at h
theorem syncP_yes {T : TP} {i : Nat} (h : (syncP T i).1 = true) : PutT T (syncP T i).2 i (T.b i) (T.b i).length := by
 unfold syncP at *
 by_cases h1 : T.fuse = 0
 ·rw [if_pos h1] at h; simp at h
 ·rw [if_neg h1]; exact PutT.put _ _ _ _ _
theorem syncP_no {T : TP} {i : Nat} (h : (syncP T i).1 = false) : (syncP T i).2 = T ∧ T.fuse = 0 := by
 unfold syncP at *
 by_cases h1 : T.fuse = 0
 ·rw [if_pos h1]; exact ⟨rfl, h1⟩
 ·rw [if_neg h1] at h; simp at h
theorem layP_cases (T : TP) (i : Nat) (r : List Int) :
  ((layP T i r).1 = 0 ∧ PutT T (layP T i r).2 i (T.b i ++ r) (T.b i ++ r).length) ∨
  ((layP T i r).1 = 15 ∧ (layP T i r).2 = T ∧ T.room < (T.used : Int) + r.length) ∨
  ((layP T i r).1 = 16 ∧ (layP T i r).2.fuse = 0 ∧ ((layP T i r).2 = T ∨ PutT T (layP T i r).2 i (T.b i ++ r) (T.last i))) := by
 unfold layP
 by_cases h1 : T.room < (T.used : Int) + r.length
 ·rw [if_pos h1]; exact .inr (.inl ⟨rfl, rfl, h1⟩)
 ·rw [if_neg h1]
  by_cases h2 : (writeP T i r).1 = true
  ·rw [if_pos h2]; exact .inl ⟨rfl, (writeP_yes h2).1⟩
  ·rw [if_neg h2]
   have h2 : (writeP T i r).1 = false := by simpa using h2
   exact .inr (.inr ⟨rfl, writeP_no h2 (by omega)⟩)
theorem repP_cases (T : TP) {i : Nat} (hi : i < 2) (r : List Int) :
  ((repP T i r).1 = 0 ∧ (∀ j, (repP T i r).2.b j = if j = i then [] else if j = 1 - i then T.b (1 - i) ++ r else T.b j) ∧ (∀ j, (repP T i r).2.last j = if j = i then 0 else if j = 1 - i then (if r = [] then T.last (1 - i) else (T.b (1 - i) ++ r).length) else T.last j) ∧ (repP T i r).2.room = T.room) ∨
  ((repP T i r).1 = 15 ∧ (repP T i r).2 = T ∧ T.room < (T.used : Int) + r.length) ∨
  ((repP T i r).1 = 16 ∧ (repP T i r).2.fuse = 0 ∧ ((repP T i r).2 = T ∨ (r ≠ [] ∧ ∃ l, PutT T (repP T i r).2 (1 - i) (T.b (1 - i) ++ r) l))) := by
 unfold repP
 by_cases h1 : T.room < (T.used : Int) + r.length
 ·rw [if_pos h1]; exact .inr (.inl ⟨rfl, rfl, h1⟩)
 rw [if_neg h1]
 simp only
 by_cases hr : r = []
 ·subst hr
  simp only [if_true]
  rw [if_neg (by simp)]
  by_cases h2 : (clearP T i).1 = false
  ·rw [if_pos h2]
   have := clearP_no h2
   exact .inr (.inr ⟨rfl, by simp only; rw [this.1]; exact this.2, .inl this.1⟩)
  ·rw [if_neg h2]
   have h3 := clearP_yes (by simpa using h2 : (clearP T i).1 = true)
   refine .inl ⟨rfl, fun j => ?_, fun j => ?_, h3.room⟩
   ·simp only
    rw [h3.b]
    by_cases e : j = i
    ·rw [if_pos e, if_pos e]
    ·rw [if_neg e, if_neg e]
     split
     ·rename_i e; rw [e]; simp
     ·rfl
   ·simp only
    rw [h3.last]
    by_cases e : j = i
    ·rw [if_pos e, if_pos e]
    ·rw [if_neg e, if_neg e]
     split
     ·rename_i e; rw [e]
     ·rfl
 ·rw [if_neg hr]
  by_cases hw : (writeP T (1 - i) r).1 = false
  ·rw [if_pos hw]
   have h3 := writeP_no hw (by omega)
   exact .inr (.inr ⟨rfl, h3.1, h3.2.imp id (fun q => ⟨hr, _, q⟩)⟩)
  ·rw [if_neg hw]
   have h3 := (writeP_yes (by simpa using hw : (writeP T (1 - i) r).1 = true)).1
   by_cases h2 : (clearP (writeP T (1 - i) r).2 i).1 = false
   ·rw [if_pos h2]
    have h4 := clearP_no h2
    refine .inr (.inr ⟨rfl, by simp only; rw [h4.1]; exact h4.2, .inr ⟨hr, (T.b (1 - i) ++ r).length, ?_⟩⟩)
    simp only
    rw [h4.1]
    exact h3
   ·rw [if_neg h2]
    have h4 := clearP_yes (by simpa using h2 : (clearP (writeP T (1 - i) r).2 i).1 = true)
    refine .inl ⟨rfl, fun j => ?_, fun j => ?_, h4.room.trans h3.room⟩
    ·simp only
     rw [h4.b, h3.b]
    ·simp only
     rw [h4.last, h3.last, if_neg hr]
theorem save_shutT {w : World} {ow : Nat → Nat} {kb : Nat} {now : Int} {pt : Nat → Option Nat} {fl : Fls} {K : KS} (h : KeepT w ow kb now pt fl K) (hl : K.live = false) (ht : K.torn = true) (h0 : fl 0 = none) (hf : EsFit 0 (wholeEs now fl)) (e : Ent) (hv' : ∃ t u, chV e = .iface t u) :
  Calls Try.prog 49 #[.pointer (some ⟨kb, 0, none⟩), .agg #[.int .i64 e.fl, chV e]] w fun r w' => r = .returned (.int .i64 17) ∧ Mod No w w' := by
 obtain ⟨t, u, hv⟩ := hv'
 have m0 : Mod No w (w.alloc (.cells #[.int .i64 e.fl, .iface t u] 124)) := (Mod.refl _ _).alloc _
 have h1 := h.mod0 m0
 have hp := h.ptr
 rw [hl, if_neg (by simp)] at hp
 rw [hv]
 have H1 := hide h1
 have M0 := hide m0
 have HP := hide hp
 have HTN := hide ht
 clear h h1 m0 hp hv hl ht
 go_enter Try.func49, Try.ntmps49
 go_upto_region 3 with fail
 generalize w.alloc (.cells #[.int .i64 e.fl, .iface t u] 124) = w1 at *
 have HT := hide (torn_any (unhide H1).keep.has true (by rw [keep_s2, (unhide H1).torn, unhide HTN]))
 have lt0 := (unhide H1).keep.has.lt
 go_wp2_with fail
 refine (unhide HT).mono ?_
 rintro r w1' ⟨rfl, rfl⟩
 have HW := hide (kwhole_any ((unhide H1).keep.mod (Mod.refl No w1').drew (fun _ _ x => x)) h0 hf)
 have HA := hide fun W a n c (hM : Mod No w1' W) => sreplace_shut (hM.has (unhide H1).keep.has (fun x => x)) (by rw [keep_s0, unhide HP]; rfl) a n c
 clear HT
 go_wp2_with fail
 go_region_law (first
  |(refine step_callx rfl 56 _ _ rfl #[.pointer (some ⟨kb, 0, none⟩)] (by simp [Act.eval, Act.put]) (fun W => by kernel_rfl) _ (unhide HW) ?_; intro v5 w5 hr5; obtain ⟨a5, s5, rfl⟩ := slice_of_owns hr5.row)
  |(refine step_call rfl 62 _ _ rfl #[.pointer (some ⟨kb, 30, none⟩), _] (by simp [Act.eval, Act.put]; try rfl) (fun W => by kernel_rfl) (.int .i64 17) (fun w' => w' = w5) ((unhide HA) w5 a5 (wholeK now fl).length s5 ((Mod.refl No w1').drew.trans hr5.mod)) ?_; rintro w6 rfl))
 all_goals go_wp2
 all_goals go_ret
 all_goals exact ⟨rfl, (unhide M0).trans ((Mod.refl No w1').drew.trans hr5.mod)⟩
structure RepKd (w W w' : World) (ow : Nat → Nat) (kb : Nat) (now : Int) (pt : Nat → Option Nat) (fl : Fls) (K' : KS) : Prop where
 ex : ∃ ow' pt', KeepT w' ow' kb now pt' fl K' ∧ (∀ k, k < w.heap.size → ow' k = ow k) ∧ ∀ j, j < 29 → pt' j = pt j
 mod : Mod (fun k => ow k ≠ 0) w w'
 mod2 : Mod (fun k => ow k ≠ 0) W w'
theorem RepKd.saved {w W w' : World} {ow : Nat → Nat} {kb : Nat} {now : Int} {pt : Nat → Option Nat} {fl : Fls} {K' : KS} (h : RepKd w W w' ow kb now pt fl K') : Saved w w' ow kb now pt fl K' := ⟨h.ex, h.mod⟩
structure RoomW (now : Int) (fl : Fls) (K : KS) : Prop where
 zero : fl 0 = none
 fit : EsFit 0 (wholeEs now fl)
 byte : ∀ x ∈ wholeK now fl, 0 ≤ x ∧ x < 256
 file : K.file < 2
 len : (K.T.b (1 - K.file)).length + (wholeK now fl).length ≤ 8796093022208
theorem krep_any {w0 w W : World} {ow : Nat → Nat} {kb : Nat} {now : Int} {pt : Nat → Option Nat} {fl : Fls} {K : KS} (h : KeepT w0 ow kb now pt fl K) (hl : K.live = true) (hR : RoomW now fl K) (hm : Mod No w0 w) (hW : Mod No w W) {v : Value} (hr : W.ownsRow 0 5 1 v (wholeK now fl).length (u8s (wholeK now fl))) (hn : ∀ k, v.ownBlock = some k → w.heap.size ≤ k) :
  Calls Try.prog 62 #[.pointer (some ⟨kb, 30, none⟩), v] W fun r w' => r = .returned (.int .i64 (repP K.T K.file (wholeK now fl)).1) ∧ RepKd w0 W w' ow kb now pt fl (repK K (repP K.T K.file (wholeK now fl))) := by
 obtain ⟨a, c, rfl⟩ := slice_of_owns hr
 have hm2 := hm.trans hW
 have h2 := h.mod0 hm2
 have tl := h.tape.lt
 have ko : ow kb = 1 := h.keep.mine
 have hp := h.ptr
 rw [if_pos hl] at hp
 have hsz := hm.size
 refine (sreplace_any (S := fun k => ow k = 30) h2.keep.has (by rw [keep_s0, hp]; rfl) (by omega) h2.tape K.file hR.file (by rw [keep_s1, h2.file]) K.torn (by rw [keep_s2, h2.torn]) a c (wholeK now fl) (reads_of_owns hr) (fun q => by have := hn _ q; omega) hR.byte (by have := hR.len; omega)).mono ?_
 rintro r w' ⟨q1, q2⟩
 obtain ⟨p1, p2, p3⟩ := KeepT.replaced h hl hm2 hR.file q2
 exact ⟨q1, ⟨_, _, p1, p2, fun j hj => ptR_eq _ _ _ _ (by omega)⟩, p3, q2.mod.mono (fun k _ e => by
  rcases e with e | e
  ·show ow k ≠ 0; omega
  ·show ow k ≠ 0; rw [e, ko]; omega)⟩
theorem save_torn {w : World} {ow : Nat → Nat} {kb : Nat} {now : Int} {pt : Nat → Option Nat} {fl : Fls} {K : KS} (h : KeepT w ow kb now pt fl K) (hl : K.live = true) (ht : K.torn = true) (hR : RoomW now fl K) (e : Ent) (hf : CFit now e) :
  Calls Try.prog 49 #[.pointer (some ⟨kb, 0, none⟩), .agg #[.int .i64 e.fl, chV e]] w fun r w' => r = .returned (.int .i64 (saveK K (wholeK now fl) (recB now [e])).1) ∧ Saved w w' ow kb now pt fl (saveK K (wholeK now fl) (recB now [e])).2 := by
 obtain ⟨t, u, hv⟩ := chV_iface e
 have m0 : Mod No w (w.alloc (.cells #[.int .i64 e.fl, .iface t u] 124)) := (Mod.refl _ _).alloc _
 have b0 := Has.new w #[.int .i64 e.fl, .iface t u] 124
 have hs0 : w.heap.size + 1 ≤ (w.alloc (.cells #[.int .i64 e.fl, .iface t u] 124)).heap.size := by simp
 have hobz : ow w.heap.size = 0 := by
  by_cases q : ow w.heap.size = 0
  ·exact q
  ·have := h.keep.old _ q; omega
 have h1 := h.mod0 m0
 have HV := hide hv
 rw [hv]
 unfold saveK
 rw [if_pos ht, replaceK_eq hl]
 simp only
 obtain ⟨R, hRR⟩ : ∃ R, repP K.T K.file (wholeK now fl) = R := ⟨_, rfl⟩
 have HRP := hide fun (w1 W : World) v (hm : Mod No w w1) (hW : Mod No w1 W) hr hn => krep_any h hl hR (w := w1) (W := W) (v := v) hm hW hr hn
 rw [hRR] at HRP ⊢
 have hle : R.1 = 0 → (repK K R).live = true ∧ (repK K R).torn = false ∧ (repK K R).file < 2 ∧ ((repK K R).T.b (repK K R).file).length + 42 ≤ 17592186044416 := fun h0 => by
  have hfl := hR.file
  have hln := hR.len
  unfold repK
  refine ⟨by simp [h0], by simp [h0], by simp only [if_pos h0]; omega, ?_⟩
  simp only [if_pos h0]
  rcases repP_cases K.T hfl (wholeK now fl) with ⟨_, q, _⟩ | ⟨q, _⟩ | ⟨q, _⟩
  ·rw [hRR] at q
   rw [q, if_neg (by omega), if_pos rfl, List.length_append]
   omega
  ·rw [hRR] at q; omega
  ·rw [hRR] at q; omega
 have HLE := hide hle
 have H1 := hide h1
 have H := hide h
 have M0 := hide m0
 have B0 := hide b0
 have HTN := hide ht
 have HZ := hide hs0
 have HOB := hide hobz
 have HRW := hide hR
 have hold := hide h.keep.old
 clear h h1 m0 b0 hv ht hRR hle hs0 hobz
 by_cases hz : R.1 = 0
 ·rw [if_pos hz]
  obtain ⟨l1, l2, l3, l4⟩ := (unhide HLE) hz
  rw [hz] at HRP
  generalize repK K R = K1 at *
  unfold layK
  rw [l1, if_neg (by simp)]
  simp only
  obtain ⟨L, hL⟩ : ∃ L, layP K1.T K1.file (recB now [e]) = L := ⟨_, rfl⟩
  rw [hL]
  have HLL := hide hL
  have HL := hide l1
  have HL2 := hide l2
  clear hL l1 l2 HLE
  go_enter Try.func49, Try.ntmps49
  go_upto_region 3 with fail
  generalize w.alloc (.cells #[.int .i64 e.fl, .iface t u] 124) = w1 at *
  have HT := hide (torn_any (unhide H1).keep.has true (by rw [keep_s2, (unhide H1).torn, unhide HTN]))
  have lt0 := (unhide H1).keep.has.lt
  go_wp2_with fail
  refine (unhide HT).mono ?_
  rintro r w1' ⟨rfl, rfl⟩
  have HW := hide (kwhole_any ((unhide H1).keep.mod (Mod.refl No w1').drew (fun _ _ x => x)) (unhide HRW).zero (unhide HRW).fit)
  have HA := hide fun W v (hM : Mod No w1' W) hr hn => (unhide HRP) w1' W v (unhide M0) hM hr hn
  clear HT HRP
  go_wp2_with fail
  go_region_law (first
   |(refine step_callx rfl 56 _ _ rfl #[.pointer (some ⟨kb, 0, none⟩)] (by simp [Act.eval, Act.put]) (fun W => by kernel_rfl) _ (unhide HW) ?_; intro v5 w5 hr5; obtain ⟨a5, s5, rfl⟩ := slice_of_owns hr5.row)
   |(refine step_call rfl 62 _ _ rfl #[.pointer (some ⟨kb, 30, none⟩), _] (by simp [Act.eval, Act.put]; try rfl) (fun W => by kernel_rfl) (.int .i64 0) _ ((unhide HA) w5 _ ((Mod.refl No w1').drew.trans hr5.mod) hr5.row hr5.new) ?_; intro w6 hs6))
  all_goals
   obtain ⟨⟨ow6, pt6, k6, o6, p6⟩, m6, n6⟩ := hs6
   have b6 := n6.has (hr5.mod.has (unhide B0).drew (fun x => x)) (fun q => q (unhide HOB))
   have c0 : w6.cell? ⟨kb, 0, none⟩ = some (.int .i64 now) := k6.keep.has.cell 0
   have lt6 := k6.keep.has.lt
   have e0 : w6.cell? ⟨w.heap.size, 0, none⟩ = some (.int .i64 e.fl) := b6.cell 0
   have e1 : w6.cell? ⟨w.heap.size, 1, none⟩ = some (.iface t u) := b6.cell 1
   have le6 := b6.lt
   have hp := k6.ptr
   rw [unhide HL, if_pos rfl] at hp
   have HP := hide hp
   have K6 := hide k6
   have O6 := hide o6
   have P6 := hide p6
   have M6 := hide m6
   have BX := hide (Has.new w6 #[.int .i64 e.fl, .iface t u] 124)
   have MX := hide ((Mod.refl No w6).alloc (.cells #[.int .i64 e.fl, .iface t u] 124))
   have HR := hide fun W (hb : Has W w6.heap.size #[.int .i64 e.fl, .iface t u] 124) => record_one (unhide HV) hf w6.heap.size 1 hb
   have HRB := hide (rec1_byte hf)
   have HRL := hide (rec1_len hf)
   have HAP := hide fun W v (hM : Mod No w6 W) (hr : W.ownsRow 0 5 1 v (recB now [e]).length (u8s (recB now [e]))) (hn : ∀ k, v.ownBlock = some k → w6.heap.size ≤ k) =>
    (show Calls Try.prog 63 #[.pointer (some ⟨kb, 30, none⟩), v] W fun r w' => r = .returned (.int .i64 L.1) ∧ Saved w w' ow kb now pt fl { K1 with T := L.2, live := L.1 != 16 } from by
     rw [← unhide HLL]
     obtain ⟨a, c, rfl⟩ := slice_of_owns hr
     have hW := (unhide K6).mod0 hM
     have tl := (unhide K6).tape.lt
     have ko : ow6 kb = 1 := (unhide K6).keep.mine
     refine (sappend_any (S := fun k => ow6 k = 30) hW.keep.has (by rw [keep_s0, unhide HP]; rfl) (by omega) hW.tape K1.file l3 (by rw [keep_s1, hW.file]) a c (recB now [e]) (reads_of_owns hr) (fun q => by have := hn _ q; omega) (unhide HRB) (by have := unhide HRL; omega)).mono ?_
     rintro r w' ⟨q1, q2, q3, q4⟩
     obtain ⟨r1, r2, r3⟩ := KeepT.laid (unhide K6) hM.size q4.size (unhide HL) q2 q3 ((hM.mono (fun _ _ x => x.elim)).trans q4)
     exact ⟨q1, ⟨_, _, r1, fun k hk => (r2 k (Nat.lt_of_lt_of_le hk (unhide M6).size)).trans ((unhide O6) k hk), fun j hj => (ptOf_eq _ _ _ (by omega)).trans ((unhide P6) j hj)⟩, (unhide M6).trans' r3 (fun k hk hl => by
      have hk : ow6 k ≠ 0 := hk
      rw [(unhide O6) k hl] at hk
      exact hk)⟩)
   clear b6 k6 o6 p6 m6 n6 hp HW HA hr5
   go_wp2_with fail
   go_region_law (first
    |(refine step_callx rfl 64 _ _ rfl #[.int .i64 now, .slice (some ⟨w6.heap.size, 0, none⟩) 1 1] (by simp [Act.eval, Act.put]) (fun W => by kernel_rfl) _ ((unhide HR) _ (by first | with_reducible exact (unhide BX).drew | with_reducible exact (unhide BX))) ?_; intro v7 w7 hr7; obtain ⟨a7, s7, rfl⟩ := slice_of_owns hr7.row)
    |(refine step_call rfl 63 _ _ rfl #[.pointer (some ⟨kb, 30, none⟩), _] (by simp [Act.eval, Act.put]; try rfl) (fun W => by kernel_rfl) (.int .i64 L.1) _ ((unhide HAP) _ _ ((unhide MX).drew.trans hr7.mod) hr7.row (fun k hk => Nat.le_trans (unhide MX).size (hr7.new k hk))) ?_; intro w8 hs8))
   all_goals go_wp2
   all_goals go_ret
   all_goals exact ⟨rfl, hs8⟩
 ·rw [if_neg hz]
  generalize repK K R = K1 at *
  go_enter Try.func49, Try.ntmps49
  go_upto_region 3 with fail
  generalize w.alloc (.cells #[.int .i64 e.fl, .iface t u] 124) = w1 at *
  have HT := hide (torn_any (unhide H1).keep.has true (by rw [keep_s2, (unhide H1).torn, unhide HTN]))
  have lt0 := (unhide H1).keep.has.lt
  go_wp2_with fail
  refine (unhide HT).mono ?_
  rintro r w1' ⟨rfl, rfl⟩
  have HW := hide (kwhole_any ((unhide H1).keep.mod (Mod.refl No w1').drew (fun _ _ x => x)) (unhide HRW).zero (unhide HRW).fit)
  have HA := hide fun W v (hM : Mod No w1' W) hr hn => (unhide HRP) w1' W v (unhide M0) hM hr hn
  have hz2 : (R.1 != 0) = true := by simpa using hz
  clear HT HRP
  go_wp2_with fail
  go_region_law (first
   |(refine step_callx rfl 56 _ _ rfl #[.pointer (some ⟨kb, 0, none⟩)] (by simp [Act.eval, Act.put]) (fun W => by kernel_rfl) _ (unhide HW) ?_; intro v5 w5 hr5; obtain ⟨a5, s5, rfl⟩ := slice_of_owns hr5.row)
   |(refine step_call rfl 62 _ _ rfl #[.pointer (some ⟨kb, 30, none⟩), _] (by simp [Act.eval, Act.put]; try rfl) (fun W => by kernel_rfl) (.int .i64 R.1) _ ((unhide HA) w5 _ ((Mod.refl No w1').drew.trans hr5.mod) hr5.row hr5.new) ?_; intro w6 hs6))
  all_goals go_wp2
  all_goals go_ret
  all_goals exact ⟨rfl, hs6.saved⟩
end Go.Proofs.Ythhibagcpjeihaa
