import Derived.Test.YthhibagcpjeihaaGreatILaw31ToArgsG
import Derived.Test.YthhibagcpjeihaaGreatIBaseToMaps
import Derived.Deep.MidRow
import Derived.Deep.DeepCutAuto
import Derived.Test.YthhibagcpjeihaaGreatIPg2ToWr4
import Derived.Test.YthhibagcpjeihaaGreatISwap2ToSwap4
import Derived.Test.YthhibagcpjeihaaGreatIRef36ToLaw5
namespace Go.Proofs.YthhibagcpjeihaaGreat
open Go.RowKit
set_option linter.unusedVariables false
set_option linter.unusedSimpArgs false
set_option maxRecDepth 100000
structure OpS (S : Array Value) : Prop where
 size : S.size = 25
 ints : ∀ i, i < 23 → ∀ v, S[i]? = some v → I64 v
 c23 : ∀ v, S[23]? = some v → v.oneCell' = true
 c24 : ∀ v, S[24]? = some v → v.oneCell' = true
def Ops (w : World) (a : Option Addr) (n : Nat) : Prop := ∀ i, i < n → ∃ b off S, a = some ⟨b, off, none⟩ ∧ OpS S ∧ w.rangeAt b (off + i * 25) S.toList
theorem mod_cell0 {w w' : World} (h : Mod No w w') {a : Addr} {v : Value} (hc : w.cell? a = some v) : w'.cell? a = some v := by
 have hl := World.block_lt_of_cell? w a hc
 unfold World.cell? at hc ⊢
 rw [h.block _ hl (fun x => x)]
 exact hc
theorem mod_range0 {w w' : World} (h : Mod No w w') {b o : Nat} {l : List Value} (hr : w.rangeAt b o l) : w'.rangeAt b o l := fun j v hv => mod_cell0 h (hr j v hv)
theorem Ops.mod {w w' : World} {a : Option Addr} {n : Nat} (h : Ops w a n) (hm : Mod No w w') : Ops w' a n := fun i hi => by
 obtain ⟨b, off, S, h1, h2, h3⟩ := h i hi
 exact ⟨b, off, S, h1, h2, mod_range0 hm h3⟩
theorem OpS.one {S : Array Value} (h : OpS S) : ∀ (i : Nat) (v : Value), S[i]? = some v → v.oneCell' = true := fun i v hv => by
 have hi : i < 25 := by
  have := (Array.getElem?_eq_some_iff.1 hv).1
  rw [h.size] at this
  exact this
 by_cases h1 : i < 23
 ·obtain ⟨x, rfl, _⟩ := h.ints i h1 v hv
  rfl
 ·by_cases h2 : i = 23
  ·subst h2; exact h.c23 v hv
  ·obtain rfl : i = 24 := by omega
   exact h.c24 v hv
theorem OpS.all {S : Array Value} (h : OpS S) : S.all (·.oneCell') = true := by
 rw [Array.all_eq_true]
 intro i hi
 exact h.one i _ (Array.getElem?_eq_getElem hi)
theorem OpS.lits {S : Array Value} (h : OpS S) : ∃ (x0 x1 x2 x3 x4 x5 x6 x7 x8 x9 x10 x11 x12 x13 x14 x15 x16 x17 x18 x19 x20 x21 x22 : Int) (v23 v24 : Value),
  S = #[.int .i64 x0, .int .i64 x1, .int .i64 x2, .int .i64 x3, .int .i64 x4, .int .i64 x5, .int .i64 x6, .int .i64 x7, .int .i64 x8, .int .i64 x9, .int .i64 x10, .int .i64 x11, .int .i64 x12, .int .i64 x13, .int .i64 x14, .int .i64 x15, .int .i64 x16, .int .i64 x17, .int .i64 x18, .int .i64 x19, .int .i64 x20, .int .i64 x21, .int .i64 x22, v23, v24] ∧
  (-9223372036854775808 ≤ x1 ∧ x1 ≤ 9223372036854775807) ∧ (-9223372036854775808 ≤ x12 ∧ x12 ≤ 9223372036854775807) := by
 have hs := h.size
 have hx : ∀ i, i < 23 → ∃ x : Int, S[i]? = some (.int .i64 x) ∧ -9223372036854775808 ≤ x ∧ x ≤ 9223372036854775807 := fun i hi => by
  have e : S[i]? = some (S[i]'(by omega)) := Array.getElem?_eq_getElem (by omega)
  obtain ⟨x, hx, hr⟩ := h.ints i hi _ e
  exact ⟨x, by rw [e, hx], hr⟩
 have hv : ∀ i, i < 25 → ∃ v, S[i]? = some v := fun i hi => ⟨_, Array.getElem?_eq_getElem (by omega)⟩
 obtain ⟨x0, q0, r0⟩ := hx 0 (by omega)
 obtain ⟨x1, q1, r1⟩ := hx 1 (by omega)
 obtain ⟨x2, q2, r2⟩ := hx 2 (by omega)
 obtain ⟨x3, q3, r3⟩ := hx 3 (by omega)
 obtain ⟨x4, q4, r4⟩ := hx 4 (by omega)
 obtain ⟨x5, q5, r5⟩ := hx 5 (by omega)
 obtain ⟨x6, q6, r6⟩ := hx 6 (by omega)
 obtain ⟨x7, q7, r7⟩ := hx 7 (by omega)
 obtain ⟨x8, q8, r8⟩ := hx 8 (by omega)
 obtain ⟨x9, q9, r9⟩ := hx 9 (by omega)
 obtain ⟨x10, q10, r10⟩ := hx 10 (by omega)
 obtain ⟨x11, q11, r11⟩ := hx 11 (by omega)
 obtain ⟨x12, q12, r12⟩ := hx 12 (by omega)
 obtain ⟨x13, q13, r13⟩ := hx 13 (by omega)
 obtain ⟨x14, q14, r14⟩ := hx 14 (by omega)
 obtain ⟨x15, q15, r15⟩ := hx 15 (by omega)
 obtain ⟨x16, q16, r16⟩ := hx 16 (by omega)
 obtain ⟨x17, q17, r17⟩ := hx 17 (by omega)
 obtain ⟨x18, q18, r18⟩ := hx 18 (by omega)
 obtain ⟨x19, q19, r19⟩ := hx 19 (by omega)
 obtain ⟨x20, q20, r20⟩ := hx 20 (by omega)
 obtain ⟨x21, q21, r21⟩ := hx 21 (by omega)
 obtain ⟨x22, q22, r22⟩ := hx 22 (by omega)
 obtain ⟨v23, q23⟩ := hv 23 (by omega)
 obtain ⟨v24, q24⟩ := hv 24 (by omega)
 refine ⟨x0, x1, x2, x3, x4, x5, x6, x7, x8, x9, x10, x11, x12, x13, x14, x15, x16, x17, x18, x19, x20, x21, x22, v23, v24, ?_, r1, r12⟩
 refine Array.ext (by rw [hs]; rfl) (fun i h1 h2 => ?_)
 have hi : i < 25 := by omega
 rw [hs] at h1
 have : i = 0 ∨ i = 1 ∨ i = 2 ∨ i = 3 ∨ i = 4 ∨ i = 5 ∨ i = 6 ∨ i = 7 ∨ i = 8 ∨ i = 9 ∨ i = 10 ∨ i = 11 ∨ i = 12 ∨ i = 13 ∨ i = 14 ∨ i = 15 ∨ i = 16 ∨ i = 17 ∨ i = 18 ∨ i = 19 ∨ i = 20 ∨ i = 21 ∨ i = 22 ∨ i = 23 ∨ i = 24 := by omega
 rcases this with rfl | rfl | rfl | rfl | rfl | rfl | rfl | rfl | rfl | rfl | rfl | rfl | rfl | rfl | rfl | rfl | rfl | rfl | rfl | rfl | rfl | rfl | rfl | rfl | rfl
 ·rw [Array.getElem?_eq_getElem (by omega)] at q0; exact Option.some.inj q0
 ·rw [Array.getElem?_eq_getElem (by omega)] at q1; exact Option.some.inj q1
 ·rw [Array.getElem?_eq_getElem (by omega)] at q2; exact Option.some.inj q2
 ·rw [Array.getElem?_eq_getElem (by omega)] at q3; exact Option.some.inj q3
 ·rw [Array.getElem?_eq_getElem (by omega)] at q4; exact Option.some.inj q4
 ·rw [Array.getElem?_eq_getElem (by omega)] at q5; exact Option.some.inj q5
 ·rw [Array.getElem?_eq_getElem (by omega)] at q6; exact Option.some.inj q6
 ·rw [Array.getElem?_eq_getElem (by omega)] at q7; exact Option.some.inj q7
 ·rw [Array.getElem?_eq_getElem (by omega)] at q8; exact Option.some.inj q8
 ·rw [Array.getElem?_eq_getElem (by omega)] at q9; exact Option.some.inj q9
 ·rw [Array.getElem?_eq_getElem (by omega)] at q10; exact Option.some.inj q10
 ·rw [Array.getElem?_eq_getElem (by omega)] at q11; exact Option.some.inj q11
 ·rw [Array.getElem?_eq_getElem (by omega)] at q12; exact Option.some.inj q12
 ·rw [Array.getElem?_eq_getElem (by omega)] at q13; exact Option.some.inj q13
 ·rw [Array.getElem?_eq_getElem (by omega)] at q14; exact Option.some.inj q14
 ·rw [Array.getElem?_eq_getElem (by omega)] at q15; exact Option.some.inj q15
 ·rw [Array.getElem?_eq_getElem (by omega)] at q16; exact Option.some.inj q16
 ·rw [Array.getElem?_eq_getElem (by omega)] at q17; exact Option.some.inj q17
 ·rw [Array.getElem?_eq_getElem (by omega)] at q18; exact Option.some.inj q18
 ·rw [Array.getElem?_eq_getElem (by omega)] at q19; exact Option.some.inj q19
 ·rw [Array.getElem?_eq_getElem (by omega)] at q20; exact Option.some.inj q20
 ·rw [Array.getElem?_eq_getElem (by omega)] at q21; exact Option.some.inj q21
 ·rw [Array.getElem?_eq_getElem (by omega)] at q22; exact Option.some.inj q22
 ·rw [Array.getElem?_eq_getElem (by omega)] at q23; exact Option.some.inj q23
 ·rw [Array.getElem?_eq_getElem (by omega)] at q24; exact Option.some.inj q24
section
variable {H : Type} {enc : TypeId × Value → H} {w : World} {base : Nat} {spare : Nat → Bool} {held : Bool}
theorem allI43 : AllI enc w base spare held 43 3 := allI_struct Tryz.underlying43 3 (by kernel_rfl) fun i hi => by
 have : i = 0 ∨ i = 1 ∨ i = 2 := by omega
 rcases this with rfl | rfl | rfl
 ·exact ⟨0, _, 2, rfl, by decide, by decide, allI30⟩
 ·exact ⟨0, _, 2, rfl, by decide, by decide, allI30⟩
 ·exact ⟨1, _, 1, rfl, by decide, by decide, allI3⟩
theorem cellsOp : Tryz.prog.cellsOf 45 = 25 := by kernel_rfl
theorem op_ints {fuel : Nat} {cs : List Value} {x : DataW H × List MemPlace} (h : DataW.trod enc Tryz.prog w base spare held fuel 45 cs = some x) : cs.length = 25 ∧ ∀ i, i < 23 → ∀ v, cs[i]? = some v → I64 v := by
 have cov := fun (i : Nat) (hi : i < 23) => show ∃ (j : Nat) (f : Field) (k : Nat), (#[⟨ "Kind", 3, 0, false, "", "", 0⟩, ⟨ "A", 3, 1, false, "", "", 8⟩, ⟨ "B", 3, 2, false, "", "", 16⟩, ⟨ "C", 3, 3, false, "", "", 24⟩, ⟨ "Do", 41, 4, false, "", "", 32⟩, ⟨ "From", 43, 20, false, "", "", 160⟩, ⟨ "Keep", 25, 23, false, "", "", 184⟩, ⟨ "Spoil", 5, 24, false, "", "", 208⟩] : Array Field)[j]? = some f ∧ f.offset ≤ i ∧ i < f.offset + k ∧ AllI enc w base spare held f.type k from by
  by_cases h : i < 4
  ·have : i = 0 ∨ i = 1 ∨ i = 2 ∨ i = 3 := by omega
   rcases this with rfl | rfl | rfl | rfl
   ·exact ⟨0, _, 1, rfl, by decide, by decide, allI3⟩
   ·exact ⟨1, _, 1, rfl, by decide, by decide, allI3⟩
   ·exact ⟨2, _, 1, rfl, by decide, by decide, allI3⟩
   ·exact ⟨3, _, 1, rfl, by decide, by decide, allI3⟩
  ·by_cases h' : i < 20
   ·exact ⟨4, _, 16, rfl, (by show 4 ≤ i; omega), (by show i < 4 + 16; omega), allI44⟩
   ·exact ⟨5, _, 3, rfl, (by show 20 ≤ i; omega), (by show i < 20 + 3; omega), allI43⟩
 refine ⟨?_, fun i hi => (ints_struct Tryz.underlying45 h i (cov i hi)).2⟩
 have := (ints_struct Tryz.underlying45 h 0 (cov 0 (by omega))).1
 rw [cellsOp] at this
 exact this
theorem op_last {fuel : Nat} {cs : List Value} {x : DataW H × List MemPlace} (h : DataW.trod enc Tryz.prog w base spare held fuel 45 cs = some x) : (∀ v, cs[23]? = some v → v.oneCell' = true) ∧ ∀ v, cs[24]? = some v → v.oneCell' = true := by
 obtain ⟨xs, n, _, _, hl, hx, hf⟩ := DataW.trod_struct Tryz.underlying45 h
 have hsz : xs.length = 8 := hx
 have k6 := hf 6 _ rfl
 have k7 := hf 7 _ rfl
 rw [List.getElem?_eq_getElem (by omega)] at k6 k7
 have e6 : Tryz.prog.cellsOf 25 = 1 := by kernel_rfl
 have e7 : Tryz.prog.cellsOf 5 = 1 := by kernel_rfl
 constructor
 ·intro v hv
  have hd : ((cs.drop 23).take 1) = [v] := by
   have h23 : 23 < cs.length := (List.getElem?_eq_some_iff.1 hv).1
   rw [List.drop_eq_getElem_cons h23]
   rw [List.getElem?_eq_getElem h23] at hv
   simp [Option.some.inj hv]
  have k6 : DataW.trod enc Tryz.prog w base spare held n 25 ((cs.drop 23).take (Tryz.prog.cellsOf 25)) = some (xs[6]) := k6
  rw [e6, hd] at k6
  rcases DataW.trod_slice Tryz.underlying25 k6 with ⟨hv, _⟩ | ⟨a, len, cap, elems, rest, n', _, hv, _⟩
  ·simp [Value.cells] at hv
   rw [hv]; rfl
  ·simp [Value.cells] at hv
   rw [hv]; rfl
 ·intro v hv
  have hd : ((cs.drop 24).take 1) = [v] := by
   have h24 : 24 < cs.length := (List.getElem?_eq_some_iff.1 hv).1
   rw [List.drop_eq_getElem_cons h24]
   rw [List.getElem?_eq_getElem h24] at hv
   simp [Option.some.inj hv]
  have k7 : DataW.trod enc Tryz.prog w base spare held n 5 ((cs.drop 24).take (Tryz.prog.cellsOf 5)) = some (xs[7]) := k7
  rw [e7, hd] at k7
  obtain ⟨m, hm, _, _⟩ := DataW.trod_int Tryz.underlying5 k7
  simp at hm
  rw [hm]; rfl
end
section
variable {H : Type} {enc : TypeId × Value → H} {w : World} {spare : Nat → Bool} {held : Bool}
theorem one_cell0 {v x : Value} (hv : v.cells.toList = [x]) (hs : ∃ a len cap, v = .slice a len cap) : v = x := by
 obtain ⟨a, len, cap, rfl⟩ := hs
 simpa [Value.cells] using hv
theorem open_ops {v : Value} {d : DataW H} {ps : List MemPlace} (hs : ∃ a len cap, v = .slice a len cap) (h : DataW.Trod enc Tryz.prog w 0 spare held 22 v d ps) :
  ∃ a n cap, v = .slice a n cap ∧ Ops w a n ∧ (d = .nil ∧ n = 0 ∨ ∃ es sp, d = .slice es sp ∧ es.length = n) := by
 obtain ⟨fuel, h⟩ := h
 rcases DataW.trod_slice Tryz.underlying22 h with ⟨hv, hx⟩ | ⟨a, len, cap, elems, rest, n, _, hv, hx, hb, hl, hm, hlen, hel, hsp, hns⟩
 ·refine ⟨none, 0, 0, ?_, fun i hi => absurd hi (Nat.not_lt_zero _), .inl ⟨congrArg Prod.fst hx, rfl⟩⟩
  exact one_cell0 hv hs
 ·refine ⟨some a, len, cap, one_cell0 hv hs, fun i hi => ?_, .inr ⟨_, _, congrArg Prod.fst hx, by simpa using hlen⟩⟩
  have key := hel i hi
  rw [List.getElem?_eq_getElem (by omega), cellsOp] at key
  obtain ⟨cs, h1, h2⟩ := Option.bind_eq_some_iff.1 key
  obtain ⟨_, hlen2, hc⟩ := World.cells?_some h1
  obtain ⟨h3, h4⟩ := op_ints h2
  obtain ⟨h5, h6⟩ := op_last h2
  obtain ⟨b, off, sp⟩ := a
  have hspot : sp = none := by
   have key0 := hel 0 (by omega)
   rw [List.getElem?_eq_getElem (by omega), cellsOp] at key0
   obtain ⟨cs0, k1, k2⟩ := Option.bind_eq_some_iff.1 key0
   obtain ⟨_, l0, c0⟩ := World.cells?_some k1
   have h0 := c0 0 (by omega)
   rw [List.getElem?_eq_getElem (by omega)] at h0
   have e0 : ((⟨b, off, sp⟩ : Addr).add (0 * 25)).add 0 = ⟨b, off, sp⟩ := by simp [Addr.add]
   rw [e0] at h0
   unfold World.cell? at h0
   cases sp with
   | none => rfl
   | some q =>
    exfalso
    simp at h0
    split at h0 <;> simp at h0
  subst hspot
  refine ⟨b, off, cs.toArray, rfl, ⟨by simpa using h3, fun j hj v hv => h4 j hj v (by simpa using hv), fun v hv => h5 v (by simpa using hv), fun v hv => h6 v (by simpa using hv)⟩, fun j v hj => ?_⟩
  have hj' : cs[j]? = some v := by simpa using hj
  have hjl := (List.getElem?_eq_some_iff.1 hj').1
  have := hc j (by omega)
  rw [Addr.add_mid, Addr.add_mid, hj'] at this
  exact this
end
set_option maxHeartbeats 4000000
structure OpL where
 S : Array Value
 ok : OpS S
 live : S[0]? = some (.int .i64 1) → S[3]? = some (.int .i64 0)
def opL (x : OpL) : List Value := x.S.toList
theorem opL_len (x : OpL) : (opL x).length = 25 := by simpa [opL] using x.ok.size
def Live (w : World) (a : Option Addr) (n : Nat) : Prop := ∀ i, i < n → ∃ b off, ∃ x : OpL, a = some ⟨b, off, none⟩ ∧ w.rangeAt b (off + i * 25) x.S.toList ∧ b < w.heap.size
theorem Live.mod {S : Nat → Prop} {w w' : World} {a : Option Addr} {n : Nat} (h : Live w a n) (hm : Mod S w w') (hs : ∀ b off sp, a = some ⟨b, off, sp⟩ → ¬ S b) : Live w' a n := fun i hi => by
 obtain ⟨b, off, x, h1, h2, h3⟩ := h i hi
 refine ⟨b, off, x, h1, fun j v hv => ?_, Nat.lt_of_lt_of_le h3 hm.size⟩
 have hc := h2 j v hv
 unfold World.cell? at hc ⊢
 rw [hm.block _ h3 (hs b off none h1)]
 exact hc
theorem live_of {w : World} {a : Option Addr} {n c : Nat} {l : List OpL} (h : w.ownsRow 0 45 25 (.slice a n c) l.length (l.flatMap opL)) (hn : n = l.length) : Live w a n := fun i hi => by
 subst hn
 obtain ⟨h0, h1 | ⟨g, cap, cur, hv, hb, hg, hle, hmx, hsz, ht⟩⟩ := h
 ·injection h1.1 with e1 e2 e3
  omega
 ·injection hv with e1 e2 e3
  refine ⟨g, 0, l[i], e1, fun j v hv => ?_, Has.lt hg⟩
  have hj : j < 25 := by
   have := (List.getElem?_eq_some_iff.1 hv).1
   rw [← opL_len l[i]]
   exact this
  have := flat_at 25 (by omega) opL opL_len l i hi j hj
  rw [← ht, List.getElem?_take, if_pos (by omega)] at this
  have hc : w.cell? ⟨g, 0 + i * 25 + j, none⟩ = cur[0 + i * 25 + j]? := Has.cell hg _
  rw [hc, Nat.zero_add, ← Array.getElem?_toList, this]
  exact hv
theorem infoOp : (Tryz.prog.info? 45).map (fun i => (i.zero, i.size, i.bytes)) = some (some (.agg #[.int .i64 0, .int .i64 0, .int .i64 0, .int .i64 0, .int .i64 0, .int .i64 0, .int .i64 0, .int .i64 0, .int .i64 0, .int .i64 0, .int .i64 0, .int .i64 0, .int .i64 0, .int .i64 0, .int .i64 0, .int .i64 0, .int .i64 0, .int .i64 0, .int .i64 0, .int .i64 0, .int .i64 0, .int .i64 0, .int .i64 0, .slice none 0 0, .int .u8 0]), 25, 216) := by kernel_rfl
theorem reads_op (w : World) (S : Array Value) : Reads (w.alloc (.cells S 45)) (.slice (some ⟨w.heap.size, 0, none⟩) 1 1) 1 S.toList :=
 .inr ⟨⟨w.heap.size, 0, none⟩, 1, rfl, fun j u hu => by
  have hN := Has.new w S 45
  rw [Addr.add_mid, Nat.zero_add, hN.cell, ← Array.getElem?_toList]
  exact hu⟩
theorem opS_all {S : Array Value} (h : OpS S) : ∀ u ∈ S.toList, u.oneCell' = true := fun u hu => by
 obtain ⟨i, hi, rfl⟩ := List.getElem_of_mem hu
 exact h.one i _ (by rw [Array.getElem_toList]; exact Array.getElem?_eq_getElem (by simpa using hi))
theorem opS_set3 {S : Array Value} (h : OpS S) : OpS (S.setIfInBounds 3 (.int .i64 0)) ∧ (S.setIfInBounds 3 (.int .i64 0))[3]? = some (.int .i64 0) := by
 have hs := h.size
 have hne : ∀ i, i ≠ 3 → (S.setIfInBounds 3 (.int .i64 0))[i]? = S[i]? := fun i hi => Array.getElem?_setIfInBounds_ne (fun e => hi e.symm)
 have h3 : (S.setIfInBounds 3 (.int .i64 0))[3]? = some (.int .i64 0) := by rw [Array.getElem?_setIfInBounds]; simp [hs]
 refine ⟨⟨by simpa using hs, fun i hi v hv => ?_, fun v hv => h.c23 v (by rw [← hne 23 (by omega)]; exact hv), fun v hv => h.c24 v (by rw [← hne 24 (by omega)]; exact hv)⟩, h3⟩
 by_cases e : i = 3
 ·subst e
  rw [h3] at hv
  exact ⟨0, (Option.some.inj hv).symm, by omega, by omega⟩
 ·exact h.ints i hi v (by rw [← hne i e]; exact hv)
theorem fold_setAll : ∀ (l : List Value) (k : Nat) (Z : Array Value), (l.zipIdx k).foldl (fun cs x => cs.setIfInBounds x.2 x.1) Z = setAll Z k l
 | [], _, _ => rfl
 | v :: l, k, Z => by
  rw [List.zipIdx_cons, List.foldl_cons]
  exact fold_setAll l (k + 1) _
theorem fold_whole (Z S : Array Value) (h : S.size = Z.size) (n : Nat) (hn : n = S.size) : Array.foldl (fun (cs : Array Value) (x : Value × Nat) => cs.setIfInBounds x.snd x.fst) Z S.zipIdx 0 n = S := by
 subst hn
 rw [show S.size = S.zipIdx.size by simp, ← Array.foldl_toList, Array.toList_zipIdx, fold_setAll]
 exact setAll_whole Z S h
theorem living_any (a : Option Addr) (n cap : Nat) (hn : n ≤ 651562446089) (w : World) (hs : Ops w a n) :
  Calls Tryz.prog 9 #[.slice a n cap] w fun e w' => ∃ v, e = .returned v ∧ (∃ l : List OpL, l.length = n ∧ w'.ownsRow 0 45 25 v n (l.flatMap opL) ∧ ∀ k, v.ownBlock = some k → w.heap.size ≤ k) ∧ Mod No w w' := by
 have HS := hide hs
 clear hs
 obtain ⟨iop, r0, r1, r2, r3⟩ := info_parts infoOp
 go_enter Tryz.func9, Tryz.ntmps9
 go_wp2_with fail
 go_loopw [3, 4] (fun s3 s4 wr => ∃ (i : Nat) (l : List OpL), s4 = .int .i64 i ∧ i ≤ n ∧ l.length = i ∧ Hid (wr.ownsRow 0 45 25 s3 i (l.flatMap opL)) ∧ Hid (∀ k, s3.ownBlock = some k → w.heap.size ≤ k) ∧ Hid (Mod No w wr)) (fun _ s4 _ => n - (intOf s4).toNat)
 case atStart => exact ⟨0, [], rfl, by omega, rfl, World.ownsRow_nil _ _ _ _, fun k hk => by simp [Value.ownBlock] at hk, Mod.refl _ _⟩
 case round =>
  obtain ⟨i, l, rfl, hi, hl, HO, HB, HM⟩ := hrel
  obtain ⟨a3, c3, rfl⟩ := slice_of_owns (unhide HO)
  by_cases hin : i < n
  ·have hini : (i : Int) < (n : Int) := by omega
   have hi0 : (0 : Int) ≤ i := by omega
   have hi1 : IntKind.i64.wrap ((i : Int) + 1) = ((i + 1 : Nat) : Int) := by rw [wrap_id _ (by omega) (by omega)]; rfl
   obtain ⟨b, off, S, rfl, hS, hR⟩ := (unhide HS).mod (unhide HM) i hin
   have HOK := hide hS
   obtain ⟨x0, hk, _⟩ : ∃ x : Int, S[0]? = some (.int .i64 x) ∧ True := by
    have e : S[0]? = some (S[0]'(by have := hS.size; omega)) := Array.getElem?_eq_getElem (by have := hS.size; omega)
    obtain ⟨x, hx, _⟩ := hS.ints 0 (by omega) _ e
    exact ⟨x, by rw [e, hx], trivial⟩
   obtain ⟨x3, hk3⟩ : ∃ x : Int, S[3]? = some (.int .i64 x) := by
    have e : S[3]? = some (S[3]'(by have := hS.size; omega)) := Array.getElem?_eq_getElem (by have := hS.size; omega)
    obtain ⟨x, hx, _⟩ := hS.ints 3 (by omega) _ e
    exact ⟨x, by rw [e, hx]⟩
   have HR := hide hR
   have HS0 := hide hk
   have HS3 := hide hk3
   clear hk3
   have hz := hS.size
   clear hS hk hR
   have HF := fold_whole #[.int .i64 0, .int .i64 0, .int .i64 0, .int .i64 0, .int .i64 0, .int .i64 0, .int .i64 0, .int .i64 0, .int .i64 0, .int .i64 0, .int .i64 0, .int .i64 0, .int .i64 0, .int .i64 0, .int .i64 0, .int .i64 0, .int .i64 0, .int .i64 0, .int .i64 0, .int .i64 0, .int .i64 0, .int .i64 0, .int .i64 0, .slice none 0 0, .int .u8 0] S (by rw [hz]; rfl) 25 hz.symm
   by_cases h1 : x0 = 1
   ·subst h1
    have HF3 := fold_whole #[.int .i64 0, .int .i64 0, .int .i64 0, .int .i64 0, .int .i64 0, .int .i64 0, .int .i64 0, .int .i64 0, .int .i64 0, .int .i64 0, .int .i64 0, .int .i64 0, .int .i64 0, .int .i64 0, .int .i64 0, .int .i64 0, .int .i64 0, .int .i64 0, .int .i64 0, .int .i64 0, .int .i64 0, .int .i64 0, .int .i64 0, .slice none 0 0, .int .u8 0] (S.setIfInBounds 3 (.int .i64 0)) (by simp [hz]) 25 (by simp [hz])
    go_upto_region 8 with (first
     |(refine wpList_load_mid rfl 45 _ rfl b (off + i * 25) rfl S.toList _ (unhide HR) Tryz.underlying45 rfl (by rw [Array.length_toList, hz]; kernel_rfl) ?_)
     |(refine (wpList_store_has rfl 45 _ _ rfl wr.heap.size S rfl rfl _ 45 (Has.new wr _ _) (by simp [hz]) (by rw [hz]; kernel_rfl) (unhide HOK).all ?_); intro w5 h5 m5; have c53 := (h5.cell 3).trans (unhide HS3); have f5 := h5.frozen; have l5 := h5.lt; have c50 := (h5.cell 0).trans (unhide HS0); have H5 := hide h5; have M5 := hide (((Mod.refl No wr).alloc _).trans' m5 (fun k hk hl => by subst hk; exact absurd hl (Nat.lt_irrefl _))); clear h5 m5))
    have H6 := hide ((unhide H5).set 3 (.int .i64 0))
    have M6 := hide (show Mod No wr (w5.setCell ⟨wr.heap.size, 3, none⟩ (.int .i64 0)) from (unhide M5).setCell (.inr (Nat.le_refl _)) _)
    clear H5 M5 c53 f5 l5 c50
    have M5 := M6
    have hzs : (S.setIfInBounds 3 (.int .i64 0)).size = 25 := by simp [hz]
    have HOK3 := hide (opS_set3 (unhide HOK))
    generalize (S.setIfInBounds 3 (.int .i64 0)) = S3 at *
    generalize w5.setCell ⟨wr.heap.size, 3, none⟩ (.int .i64 0) = w6 at *
    have HO6 := hide (((unhide M5).alloc (.cells S3 45)).owns (unhide HO) (fun _ _ x => x))
    have HR6 := hide (reads_op w6 S3)
    have HX6 := hide (opS_all (unhide HOK3).1)
    have HG6 := hide (fun (w7 : World) (hg : (w6.alloc (.cells S3 45)).grownBy w7 (Value.slice a3 i c3).ownBlock) => ((unhide HM).trans ((unhide M5).alloc (.cells S3 45))).grown hg (fun k hk => .inr ((unhide HB) k hk)))
    have HB6 := hide (fun (v7 : Value) (hs : Stays (w6.alloc (.cells S3 45)) (.slice a3 i c3) v7) (k : Nat) (hk : v7.ownBlock = some k) => (hs k hk).elim ((unhide HB) k) (fun e => Nat.le_trans (Nat.le_trans (unhide HM).size (unhide M5).size) (Nat.le_trans (by simp) e)))
    go_wp2_with (first
     |(refine (wpList_load_has rfl 45 _ rfl wr.heap.size 0 rfl S3 45 (unhide H6) S3 (fun j v h => by rw [Nat.zero_add]; simpa using h) (by kernel_rfl) (by rw [hzs]; kernel_rfl) ?_))
     |(at_builtin; refine wpList_append_row rfl (.tmp 20) (.tmp 22) 22 rfl 45 iop _ 25 216 Tryz.underlying22 r0 r1 r2 r3 rfl (by decide) (.slice a3 i c3) i (l.flatMap opL) (by simp [Act.eval]) (by exact unhide HO6) (.slice (some ⟨w6.heap.size, 0, none⟩) 1 1) 1 S3.toList (by simp [Act.eval]) (by exact unhide HR6) (by rw [Array.length_toList, hzs]) (unhide HX6) (by unfold maxLen; omega) (by omega) ?_; intro v7 w7 ho7 hg7 hs7))
    have MM := (unhide HG6) w7 hg7
    have BB := (unhide HB6) _ hs7
    go_wp2
    exact ⟨⟨i + 1, l ++ [⟨S3, (unhide HOK3).1, fun _ => (unhide HOK3).2⟩], rfl, by omega, by simp [hl], hide (by rw [List.flatMap_append]; simpa [opL] using ho7), hide BB, hide MM⟩, by simp [intOf]; omega⟩
   ·have h1b : (x0 == 1) = false := by simp [h1]
    go_upto_region 8 with (first
     |(refine wpList_load_mid rfl 45 _ rfl b (off + i * 25) rfl S.toList _ (unhide HR) Tryz.underlying45 rfl (by rw [Array.length_toList, hz]; kernel_rfl) ?_)
     |(refine (wpList_store_has rfl 45 _ _ rfl wr.heap.size S rfl rfl _ 45 (Has.new wr _ _) (by simp [hz]) (by rw [hz]; kernel_rfl) (unhide HOK).all ?_); intro w5 h5 m5; have c53 := (h5.cell 3).trans (unhide HS3); have f5 := h5.frozen; have l5 := h5.lt; have c50 := (h5.cell 0).trans (unhide HS0); have H5 := hide h5; have M5 := hide (((Mod.refl No wr).alloc _).trans' m5 (fun k hk hl => by subst hk; exact absurd hl (Nat.lt_irrefl _))); clear h5 m5))
    have HO6 := hide (((unhide M5).alloc (.cells S 45)).owns (unhide HO) (fun _ _ x => x))
    have HR6 := hide (reads_op w5 S)
    have HX6 := hide (opS_all (unhide HOK))
    have HG6 := hide (fun (w7 : World) (hg : (w5.alloc (.cells S 45)).grownBy w7 (Value.slice a3 i c3).ownBlock) => ((unhide HM).trans ((unhide M5).alloc (.cells S 45))).grown hg (fun k hk => .inr ((unhide HB) k hk)))
    have HB6 := hide (fun (v7 : Value) (hs : Stays (w5.alloc (.cells S 45)) (.slice a3 i c3) v7) (k : Nat) (hk : v7.ownBlock = some k) => (hs k hk).elim ((unhide HB) k) (fun e => Nat.le_trans (Nat.le_trans (unhide HM).size (unhide M5).size) (Nat.le_trans (by simp) e)))
    go_wp2_with (first
     |(refine (wpList_load_has rfl 45 _ rfl wr.heap.size 0 rfl S 45 (unhide H5) S (fun j v h => by rw [Nat.zero_add]; simpa using h) (by kernel_rfl) (by rw [hz]; kernel_rfl) ?_))
     |(at_builtin; refine wpList_append_row rfl (.tmp 20) (.tmp 22) 22 rfl 45 iop _ 25 216 Tryz.underlying22 r0 r1 r2 r3 rfl (by decide) (.slice a3 i c3) i (l.flatMap opL) (by simp [Act.eval]) (by exact unhide HO6) (.slice (some ⟨w5.heap.size, 0, none⟩) 1 1) 1 S.toList (by simp [Act.eval]) (by exact unhide HR6) (by rw [Array.length_toList, hz]) (unhide HX6) (by unfold maxLen; omega) (by omega) ?_; intro v7 w7 ho7 hg7 hs7))
    have MM := (unhide HG6) w7 hg7
    have BB := (unhide HB6) _ hs7
    go_wp2
    exact ⟨⟨i + 1, l ++ [⟨S, unhide HOK, fun e => by rw [unhide HS0] at e; exact absurd (by injection e with e; injection e) h1⟩], rfl, by omega, by simp [hl], hide (by rw [List.flatMap_append]; simpa [opL] using ho7), hide BB, hide MM⟩, by simp [intOf]; omega⟩
  ·have hini : ¬ (i : Int) < (n : Int) := by omega
   obtain rfl : i = n := by omega
   go_wp2
   go_ret
   exact ⟨_, rfl, ⟨l, hl, unhide HO, unhide HB⟩, unhide HM⟩
open M
set_option maxHeartbeats 8000000
attribute [local go_sem ↓] run_min2 run_max2
theorem owns_lt {w : World} {e : TypeId} {n m : Nat} {v : Value} {xs : List Value} (h : w.ownsRow 0 e n v m xs) (k : Nat) (hk : v.ownBlock = some k) : k < w.heap.size := by
 obtain ⟨_, h1 | ⟨g, cap, cur, rfl, hb, hg, _⟩⟩ := h
 ·rw [h1.1] at hk
  simp [Value.ownBlock] at hk
 ·simp [Value.ownBlock] at hk
  subst hk
  exact Has.lt hg
set_option maxHeartbeats 4000000
def ptrTo (b : Nat) : Value := .pointer (some ⟨b, 0, none⟩)
def farX (who : Nat → Nat) (yb : Nat) (lv : Value) : Nat → Prop := fun k => who k ≠ 0 ∨ k = yb ∨ lv.ownBlock = some k
structure PlayX (P : Nat → OneI → Prop) (B : World → (Nat → Prop) → Prop) (w0 w : World) (who : Nat → Nat) (yb : Nat) (lv av bv : Value) (os : List Nat) (n : Nat) : Prop where
 has : Has w yb #[lv, av, bv] 34
 row : w.ownsRow 0 48 1 lv os.length (os.map ptrTo)
 ones : ∀ j (hj : j < os.length), ∃ I, OneX w (fun k => who k = j + 1) os[j] I ∧ P n I
 wlt : ∀ k, who k ≠ 0 → w0.heap.size ≤ k ∧ k < w.heap.size
 yb0 : who yb = 0 ∧ w0.heap.size ≤ yb
 lv0 : ∀ k, lv.ownBlock = some k → who k = 0 ∧ w0.heap.size ≤ k ∧ k ≠ yb
 cnt : os.length ≤ n
 top : ∀ k, who k ≤ os.length
 mod : Mod No w0 w
 book : B w (farX who yb lv)
def BookOk (B : World → (Nat → Prop) → Prop) : Prop := ∀ w w' F F', B w F → Mod F w w' → (∀ k, k < w.heap.size → F' k → F k) → B w' F'
theorem PlayX.still {P : Nat → OneI → Prop} {B : World → (Nat → Prop) → Prop} (hB : BookOk B) {w0 w w' : World} {who : Nat → Nat} {yb : Nat} {lv av bv : Value} {os : List Nat} {n : Nat} (h : PlayX P B w0 w who yb lv av bv os n) (hm : Mod No w w') : PlayX P B w0 w' who yb lv av bv os n :=
 ⟨hm.has h.has (fun x => x), hm.owns h.row (fun _ _ x => x), fun j hj => by
  obtain ⟨I, h1, h2⟩ := h.ones j hj
  exact ⟨I, h1.mod hm (fun _ _ x => x), h2⟩, fun k hk => ⟨(h.wlt k hk).1, Nat.lt_of_lt_of_le (h.wlt k hk).2 hm.size⟩, h.yb0, h.lv0, h.cnt, h.top, h.mod.trans hm, hB _ _ _ _ h.book (hm.mono (fun _ _ x => x.elim)) (fun _ _ x => x)⟩
theorem PlayX.more {P : Nat → OneI → Prop} {B : World → (Nat → Prop) → Prop} (hP : ∀ n I, P n I → P (n + 1) I) {w0 w : World} {who : Nat → Nat} {yb : Nat} {lv av bv : Value} {os : List Nat} {n : Nat} (h : PlayX P B w0 w who yb lv av bv os n) : PlayX P B w0 w who yb lv av bv os (n + 1) :=
 ⟨h.has, h.row, fun j hj => by
  obtain ⟨I, h1, h2⟩ := h.ones j hj
  exact ⟨I, h1, hP _ _ h2⟩, h.wlt, h.yb0, h.lv0, by have := h.cnt; omega, h.top, h.mod, h.book⟩
theorem OneX.owns {w : World} {O O' : Nat → Prop} {ob : Nat} {I : OneI} (h : OneX w O ob I) (hO : ∀ k, O k ↔ O' k) : OneX w O' ob I := by
 have : O = O' := funext fun k => propext (hO k)
 rw [← this]
 exact h
theorem PlayX.step {P : Nat → OneI → Prop} {B : World → (Nat → Prop) → Prop} (hB : BookOk B) (hP : ∀ n I, P n I → P (n + 1) I) {w0 w w' : World} {who : Nat → Nat} {yb : Nat} {lv av bv : Value} {os : List Nat} {n j : Nat} (h : PlayX P B w0 w who yb lv av bv os n) (hj : j < os.length) {R : OneI → Prop} (hR : ∀ I', R I' → P (n + 1) I') (hd : OneD w w' (fun k => who k = j + 1) os[j] R) :
  ∃ who', PlayX P B w0 w' who' yb lv av bv os (n + 1) ∧ ∀ k, k < w.heap.size → who' k = who k := by
 obtain ⟨⟨I', h1, h2⟩, hm⟩ := hd
 have hz : ∀ k, w.heap.size ≤ k → who k = 0 := fun k hk => by
  by_cases e : who k = 0
  ·exact e
  ·have := (h.wlt k e).2; omega
 have hyb := h.has.lt
 refine ⟨fun k => if w.heap.size ≤ k ∧ k < w'.heap.size then j + 1 else who k, ⟨hm.has h.has (by rw [h.yb0.1]; omega), hm.owns h.row (fun k hk => by rw [(h.lv0 k hk).1]; omega), fun i hi => ?_, fun k hk => ?_, ?_, fun k hk => ?_, by have := h.cnt; omega, fun k => ?_, h.mod.trans' hm (fun k hk hl => by have := (h.wlt k (by rw [hk]; omega)).1; omega), hB _ _ _ _ h.book (hm.mono (fun k _ (e : who k = j + 1) => Or.inl (by omega))) (fun k hk => by unfold farX; simp only [if_neg (show ¬ (w.heap.size ≤ k ∧ k < w'.heap.size) by omega)]; exact id)⟩, fun k hk => if_neg (by omega)⟩
 ·by_cases e : i = j
  ·subst e
   refine ⟨I', h1.owns (fun k => ?_), hR _ h2⟩
   unfold grow
   by_cases c : w.heap.size ≤ k ∧ k < w'.heap.size
   ·simp only [if_pos c]
    exact ⟨fun _ => trivial, fun _ => .inr c⟩
   ·simp only [if_neg c]
    exact ⟨fun x => x.elim (fun y => y) (fun y => absurd y c), fun x => .inl x⟩
  ·obtain ⟨J, q1, q2⟩ := h.ones i hi
   refine ⟨J, (q1.mod hm (fun k hk x => by omega)).owns (fun k => ?_), hP _ _ q2⟩
   by_cases c : w.heap.size ≤ k ∧ k < w'.heap.size
   ·simp only [if_pos c]
    have := hz k c.1
    omega
   ·simp only [if_neg c]
 ·have hk : (if w.heap.size ≤ k ∧ k < w'.heap.size then j + 1 else who k) ≠ 0 := hk
  by_cases c : w.heap.size ≤ k ∧ k < w'.heap.size
  ·exact ⟨by have := h.mod.size; omega, c.2⟩
  ·rw [if_neg c] at hk
   exact ⟨(h.wlt k hk).1, Nat.lt_of_lt_of_le (h.wlt k hk).2 hm.size⟩
 ·rw [if_neg (by omega)]
  exact h.yb0
 ·have hlt := owns_lt h.row k hk
  show (if w.heap.size ≤ k ∧ k < w'.heap.size then j + 1 else who k) = 0 ∧ _
  rw [if_neg (by omega)]
  exact h.lv0 k hk
 ·show (if w.heap.size ≤ k ∧ k < w'.heap.size then j + 1 else who k) ≤ _
  have := h.top k
  split <;> omega
theorem PlayX.add {P : Nat → OneI → Prop} {B : World → (Nat → Prop) → Prop} (hB : BookOk B) (hP : ∀ n I, P n I → P (n + 1) I) {w0 w w' : World} {who : Nat → Nat} {yb ob : Nat} {lv lv' av bv : Value} {os : List Nat} {n : Nat} (h : PlayX P B w0 w who yb lv av bv os n) {O : Nat → Prop} {I : OneI} (hI : P (n + 1) I) (h1 : OneX w' O ob I) (hO : ∀ k, O k → w.heap.size ≤ k)
  (hm : Mod (fun k => k = yb ∨ lv.ownBlock = some k) w w') (hh : Has w' yb #[lv', av, bv] 34) (hr : w'.ownsRow 0 48 1 lv' (os.length + 1) (os.map ptrTo ++ [ptrTo ob])) (hl : ∀ k, lv'.ownBlock = some k → ¬ O k ∧ (lv.ownBlock = some k ∨ w.heap.size ≤ k)) :
  ∃ who', PlayX P B w0 w' who' yb lv' av bv (os ++ [ob]) (n + 1) ∧ ∀ k, k < w.heap.size → who' k = who k := by
 classical
 have hz : ∀ k, w.heap.size ≤ k → who k = 0 := fun k hk => by
  by_cases e : who k = 0
  ·exact e
  ·have := (h.wlt k e).2; omega
 have hyb := h.has.lt
 have hno : ∀ k, who k ≠ 0 → ¬ (k = yb ∨ lv.ownBlock = some k) := fun k hk e => by
  rcases e with rfl | e
  ·exact hk h.yb0.1
  ·exact hk (h.lv0 k e).1
 refine ⟨fun k => if O k then os.length + 1 else who k, ⟨hh, ?_, fun i hi => ?_, fun k hk => ?_, ?_, fun k hk => ?_, ?_, fun k => ?_, ?_, hB _ _ _ _ h.book (hm.mono (fun k _ e => Or.inr e)) (fun k hk e => by
  have hn : ¬ O k := fun e => by have := hO k e; omega
  unfold farX at e ⊢
  simp only [if_neg hn] at e
  rcases e with e | e | e
  ·exact .inl e
  ·exact .inr (.inl e)
  ·rcases (hl k e).2 with q | q
   ·exact .inr (.inr q)
   ·omega)⟩, fun k hk => if_neg (fun e => by have := hO k e; omega)⟩
 ·rw [List.length_append, List.map_append]
  exact hr
 ·by_cases e : i < os.length
  ·obtain ⟨J, q1, q2⟩ := h.ones i e
   rw [List.getElem_append_left e]
   refine ⟨J, (q1.mod hm (fun k hk => hno k (by rw [hk]; omega))).owns (fun k => ?_), hP _ _ q2⟩
   by_cases c : O k
   ·simp only [if_pos c]
    have := hz k (hO k c)
    omega
   ·simp only [if_neg c]
  ·have ei : i = os.length := by simp at hi; omega
   subst ei
   have g : (os ++ [ob])[os.length]'hi = ob := by simp
   rw [g]
   refine ⟨I, h1.owns (fun k => ?_), hI⟩
   by_cases c : O k
   ·simp only [if_pos c]
    exact ⟨fun _ => trivial, fun _ => c⟩
   ·simp only [if_neg c]
    refine ⟨fun x => absurd x c, fun x => ?_⟩
    exfalso
    have := h.top k
    omega
 ·have hk : (if O k then os.length + 1 else who k) ≠ 0 := hk
  by_cases c : O k
  ·exact ⟨by have := hO k c; have := h.mod.size; omega, h1.lt k c⟩
  ·rw [if_neg c] at hk
   exact ⟨(h.wlt k hk).1, Nat.lt_of_lt_of_le (h.wlt k hk).2 hm.size⟩
 ·rw [if_neg (fun e => by have := hO yb e; omega)]
  exact h.yb0
 ·show (if O k then os.length + 1 else who k) = 0 ∧ _
  rw [if_neg (hl k hk).1]
  rcases (hl k hk).2 with e | e
  ·exact h.lv0 k e
  ·exact ⟨hz k e, by have := h.mod.size; omega, by omega⟩
 ·have := h.cnt
  simp only [List.length_append, List.length_cons, List.length_nil]
  omega
 ·show (if O k then os.length + 1 else who k) ≤ _
  have := h.top k
  simp only [List.length_append, List.length_cons, List.length_nil]
  split <;> omega
 ·refine h.mod.trans' hm (fun k hk hl => ?_)
  rcases hk with rfl | e
  ·have := h.yb0.2; omega
  ·have := (h.lv0 k e).2.1; omega
end Go.Proofs.YthhibagcpjeihaaGreat
