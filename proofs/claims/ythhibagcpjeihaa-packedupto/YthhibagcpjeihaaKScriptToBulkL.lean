import Derived.Test.YthhibagcpjeihaaKTame2ToArgs
import Derived.Test.YthhibagcpjeihaaKStsToPaged2
import Derived.Handy
import Derived.Deep.DeepCutAuto
import Derived.Test.YthhibagcpjeihaaKKplToPg3
import Derived.Test.YthhibagcpjeihaaKWt2ToTame1
import Derived.Test.YthhibagcpjeihaaRows
namespace Go.Proofs.Ythhibagcpjeihaa
open Go.RowKit
open M
set_option linter.unusedVariables false
set_option maxRecDepth 100000
theorem Ints.cmd {cs : Array Value} (h : Ints cs 16) (hs : cs.size = 16) : ∃ c : Cmd, cs = cmdCells c := by
 obtain ⟨z0, z1, z2, z3, z4, z5, z6, z7, z8, z9, z10, z11, z12, z13, z14, z15, rfl⟩ := h.lits hs
 exact ⟨⟨z0, z1, z2, z3, z4, z5, z6, z7, z8, ⟨z9, z10, z11, z12, z13, z14, z15, 0⟩⟩, rfl⟩
theorem tamed_step (S : Array Value) (hs : S.size = 21) (hi : ∀ i, i < 18 → ∀ v, S[i]? = some v → I64 v) (w : World) :
  Calls Try.prog 17 #[.agg S] w fun e w' => ∃ c : Cmd, e = .returned (.agg (cmdCells c)) ∧ Mod No w w' := by
 have hx : ∀ i, i < 18 → ∃ x : Int, S[i]? = some (.int .i64 x) ∧ -9223372036854775808 ≤ x ∧ x ≤ 9223372036854775807 := fun i h => by
  have e : S[i]? = some (S[i]'(by omega)) := Array.getElem?_eq_getElem (by omega)
  obtain ⟨x, hx, hr⟩ := hi i h _ e
  exact ⟨x, by rw [e, hx], hr⟩
 obtain ⟨x0, q0, r0⟩ := hx 0 (by omega)
 obtain ⟨x1, q1, r1⟩ := hx 1 (by omega)
 obtain ⟨x2, q2, r2⟩ := hx 2 (by omega)
 obtain ⟨x3, q3, r3⟩ := hx 3 (by omega)
 obtain ⟨x4, q4, r4⟩ := hx 4 (by omega)
 obtain ⟨x5, q5, r5⟩ := hx 5 (by omega)
 obtain ⟨x6, q6, r6⟩ := hx 6 (by omega)
 obtain ⟨x7, q7, r7⟩ := hx 7 (by omega)
 obtain ⟨x8, q8, r8⟩ := hx 8 (by omega)
 obtain ⟨x9, q9, r9⟩ := hx 9 (by omega)
 obtain ⟨x10, q10, r10⟩ := hx 10 (by omega)
 obtain ⟨x11, q11, r11⟩ := hx 11 (by omega)
 obtain ⟨x12, q12, r12⟩ := hx 12 (by omega)
 obtain ⟨x13, q13, r13⟩ := hx 13 (by omega)
 obtain ⟨x14, q14, r14⟩ := hx 14 (by omega)
 obtain ⟨x15, q15, r15⟩ := hx 15 (by omega)
 obtain ⟨k, qk, rk⟩ := hx 16 (by omega)
 obtain ⟨fu, qf, rf⟩ := hx 17 (by omega)
 obtain ⟨v18, q18⟩ : ∃ v, S[18]? = some v := ⟨_, Array.getElem?_eq_getElem (by omega)⟩
 obtain ⟨v19, q19⟩ : ∃ v, S[19]? = some v := ⟨_, Array.getElem?_eq_getElem (by omega)⟩
 obtain ⟨v20, q20⟩ : ∃ v, S[20]? = some v := ⟨_, Array.getElem?_eq_getElem (by omega)⟩
 have hS : S = #[.int .i64 x0, .int .i64 x1, .int .i64 x2, .int .i64 x3, .int .i64 x4, .int .i64 x5, .int .i64 x6, .int .i64 x7, .int .i64 x8, .int .i64 x9, .int .i64 x10, .int .i64 x11, .int .i64 x12, .int .i64 x13, .int .i64 x14, .int .i64 x15, .int .i64 k, .int .i64 fu, v18, v19, v20] := by
  refine Array.ext (by rw [hs]; rfl) (fun i h1 h2 => ?_)
  have : i = 0 ∨ i = 1 ∨ i = 2 ∨ i = 3 ∨ i = 4 ∨ i = 5 ∨ i = 6 ∨ i = 7 ∨ i = 8 ∨ i = 9 ∨ i = 10 ∨ i = 11 ∨ i = 12 ∨ i = 13 ∨ i = 14 ∨ i = 15 ∨ i = 16 ∨ i = 17 ∨ i = 18 ∨ i = 19 ∨ i = 20 := by omega
  rcases this with rfl | rfl | rfl | rfl | rfl | rfl | rfl | rfl | rfl | rfl | rfl | rfl | rfl | rfl | rfl | rfl | rfl | rfl | rfl | rfl | rfl
  ·rw [Array.getElem?_eq_getElem h1] at q0; exact Option.some.inj q0
  ·rw [Array.getElem?_eq_getElem h1] at q1; exact Option.some.inj q1
  ·rw [Array.getElem?_eq_getElem h1] at q2; exact Option.some.inj q2
  ·rw [Array.getElem?_eq_getElem h1] at q3; exact Option.some.inj q3
  ·rw [Array.getElem?_eq_getElem h1] at q4; exact Option.some.inj q4
  ·rw [Array.getElem?_eq_getElem h1] at q5; exact Option.some.inj q5
  ·rw [Array.getElem?_eq_getElem h1] at q6; exact Option.some.inj q6
  ·rw [Array.getElem?_eq_getElem h1] at q7; exact Option.some.inj q7
  ·rw [Array.getElem?_eq_getElem h1] at q8; exact Option.some.inj q8
  ·rw [Array.getElem?_eq_getElem h1] at q9; exact Option.some.inj q9
  ·rw [Array.getElem?_eq_getElem h1] at q10; exact Option.some.inj q10
  ·rw [Array.getElem?_eq_getElem h1] at q11; exact Option.some.inj q11
  ·rw [Array.getElem?_eq_getElem h1] at q12; exact Option.some.inj q12
  ·rw [Array.getElem?_eq_getElem h1] at q13; exact Option.some.inj q13
  ·rw [Array.getElem?_eq_getElem h1] at q14; exact Option.some.inj q14
  ·rw [Array.getElem?_eq_getElem h1] at q15; exact Option.some.inj q15
  ·rw [Array.getElem?_eq_getElem h1] at qk; exact Option.some.inj qk
  ·rw [Array.getElem?_eq_getElem h1] at qf; exact Option.some.inj qf
  ·rw [Array.getElem?_eq_getElem h1] at q18; exact Option.some.inj q18
  ·rw [Array.getElem?_eq_getElem h1] at q19; exact Option.some.inj q19
  ·rw [Array.getElem?_eq_getElem h1] at q20; exact Option.some.inj q20
 clear hi hx hs
 subst hS
 refine (tamed_any x0 x1 x2 x3 x4 x5 x6 x7 x8 x9 x10 x11 x12 x13 x14 x15 k fu _ _ _ rk (fun i hi => ?_) w).mono ?_
 ·have : i = 0 ∨ i = 1 ∨ i = 2 ∨ i = 3 ∨ i = 4 ∨ i = 5 ∨ i = 6 ∨ i = 7 ∨ i = 8 ∨ i = 9 ∨ i = 10 ∨ i = 11 ∨ i = 12 ∨ i = 13 ∨ i = 14 ∨ i = 15 := by omega
  rcases this with rfl | rfl | rfl | rfl | rfl | rfl | rfl | rfl | rfl | rfl | rfl | rfl | rfl | rfl | rfl | rfl
  ·exact ⟨_, rfl, r0⟩
  ·exact ⟨_, rfl, r1⟩
  ·exact ⟨_, rfl, r2⟩
  ·exact ⟨_, rfl, r3⟩
  ·exact ⟨_, rfl, r4⟩
  ·exact ⟨_, rfl, r5⟩
  ·exact ⟨_, rfl, r6⟩
  ·exact ⟨_, rfl, r7⟩
  ·exact ⟨_, rfl, r8⟩
  ·exact ⟨_, rfl, r9⟩
  ·exact ⟨_, rfl, r10⟩
  ·exact ⟨_, rfl, r11⟩
  ·exact ⟨_, rfl, r12⟩
  ·exact ⟨_, rfl, r13⟩
  ·exact ⟨_, rfl, r14⟩
  ·exact ⟨_, rfl, r15⟩
 ·rintro e w' ⟨cs, rfl, h1, h2, h3⟩
  obtain ⟨c, rfl⟩ := h2.cmd h1
  exact ⟨c, rfl, h3⟩
section
variable {H : Type} {enc : TypeId × Value → H} {w : World} {spare : Nat → Bool} {held : Bool}
theorem one_cell {v x : Value} (hv : v.cells.toList = [x]) (hs : ∃ a len cap, v = .slice a len cap) : v = x := by
 obtain ⟨a, len, cap, rfl⟩ := hs
 simpa [Value.cells] using hv
theorem open_script {v : Value} {d : DataW H} {ps : List MemPlace} (hs : ∃ a len cap, v = .slice a len cap) (h : DataW.Trod enc Try.prog w 0 spare held 23 v d ps) :
  ∃ a n cap, v = .slice a n cap ∧ Script w a n ∧ (d = .nil ∧ n = 0 ∨ ∃ es sp, d = .slice es sp ∧ es.length = n) := by
 obtain ⟨fuel, h⟩ := h
 rcases DataW.trod_slice Try.underlying23 h with ⟨hv, hx⟩ | ⟨a, len, cap, elems, rest, n, _, hv, hx, hb, hl, hm, hlen, hel, hsp, hns⟩
 ·refine ⟨none, 0, 0, ?_, fun i hi => absurd hi (Nat.not_lt_zero _), .inl ⟨congrArg Prod.fst hx, rfl⟩⟩
  exact one_cell hv hs
 ·refine ⟨some a, len, cap, one_cell hv hs, fun i hi => ?_, .inr ⟨_, _, congrArg Prod.fst hx, by simpa using hlen⟩⟩
  have key := hel i hi
  rw [List.getElem?_eq_getElem (by omega), cells47] at key
  obtain ⟨cs, h1, h2⟩ := Option.bind_eq_some_iff.1 key
  obtain ⟨_, hlen2, hc⟩ := World.cells?_some h1
  obtain ⟨h3, h4⟩ := step_ints h2
  obtain ⟨b, off, sp⟩ := a
  have hspot : sp = none := by
   have key0 := hel 0 (by omega)
   rw [List.getElem?_eq_getElem (by omega), cells47] at key0
   obtain ⟨cs0, k1, k2⟩ := Option.bind_eq_some_iff.1 key0
   obtain ⟨_, l0, c0⟩ := World.cells?_some k1
   have h0 := c0 0 (by omega)
   rw [List.getElem?_eq_getElem (by omega)] at h0
   have e0 : ((⟨b, off, sp⟩ : Addr).add (0 * 21)).add 0 = ⟨b, off, sp⟩ := by simp [Addr.add]
   rw [e0] at h0
   unfold World.cell? at h0
   cases sp with
   | none => rfl
   | some q =>
    exfalso
    simp at h0
    split at h0 <;> simp at h0
  subst hspot
  refine ⟨b, off, cs.toArray, rfl, by simpa using h3, fun j v hj => ?_, fun W => tamed_step _ (by simpa using h3) (fun j hj v hv => h4 j hj v (by simpa using hv)) W⟩
  have hj' : cs[j]? = some v := by simpa using hj
  have hjl := (List.getElem?_eq_some_iff.1 hj').1
  have := hc j (by omega)
  rw [Addr.add_mid, Addr.add_mid, hj'] at this
  exact this
end
set_option linter.unusedSimpArgs false
set_option maxHeartbeats 20000000
theorem size47p : (Try.prog.info? 41).map (·.size) = some 21 := by kernel_rfl
set_option maxHeartbeats 4000000
structure PkI (w wr : World) (kb lb tb i : Nat) (now : Int) (fl : Fls) : Prop where
 keep : ∃ ow, KpM wr ow kb now fl tb (i + 1) ∧ ow lb = 0 ∧ ∀ k, k < w.heap.size → ow k = 0
 lim : ∃ cs : Array Value, cs.size = 84 ∧ Has wr lb cs 104
 mod : Mod No w wr
 lbn : w.heap.size ≤ lb
theorem PkI.still {w wr w2 : World} {kb lb tb i : Nat} {now : Int} {fl : Fls} (h : PkI w wr kb lb tb i now fl) (hm : Mod No wr w2) : PkI w w2 kb lb tb i now fl := by
 obtain ⟨ow, k1, k2, k3⟩ := h.keep
 obtain ⟨cs, s1, s2⟩ := h.lim
 exact ⟨⟨ow, k1.mod hm (fun _ _ x => x), k2, k3⟩, ⟨cs, s1, hm.has s2 (fun x => x)⟩, h.mod.trans hm, h.lbn⟩
theorem PkI.step {w W : World} {kb lb tb i : Nat} {now : Int} {fl : Fls} (h : PkI w W kb lb tb i now fl) (hi : i ≤ 2000000) (c : Cmd) :
  Calls Try.prog 18 #[.pointer (some ⟨kb, 0, none⟩), .agg (cmdCells c), .pointer (some ⟨lb, 0, none⟩)] W fun e w' => e = .returned (.int .i64 (doK now fl c).1) ∧ PkI w w' kb lb tb (i + 1) (doK now fl c).2.1 (doK now fl c).2.2 := by
 obtain ⟨ow, k1, k5, k6⟩ := h.keep
 obtain ⟨cs, s1, s2⟩ := h.lim
 refine (doesP_any k1 (by omega) c cs s1 s2 k5).mono ?_
 rintro e w' ⟨rfl, ⟨ow', q1, q2⟩, ⟨cs', t1, t2⟩, hm⟩
 have sz : w.heap.size ≤ W.heap.size := h.mod.size
 have slb : lb < W.heap.size := s2.lt
 refine ⟨rfl, ⟨ow', q1, by rw [q2 lb slb]; exact k5, fun k hk => by rw [q2 k (by omega)]; exact k6 k hk⟩, ⟨cs', t1, t2⟩, ?_, h.lbn⟩
 refine h.mod.trans' hm (fun j hj hl => ?_)
 rcases hj with hj | hj
 ·exact hj (k6 j hl)
 ·have := h.lbn
  omega
structure PkJ (w wr : World) (kb tb N ab : Nat) (cz : Array Value) (now : Int) (fl : Fls) : Prop where
 keep : ∃ ow, KpM wr ow kb now fl tb N ∧ (∀ k, k < w.heap.size → ow k = 0) ∧ ow ab = 0
 box : Has wr ab cz 85
 mod : Mod No w wr
 new : w.heap.size ≤ ab
theorem PkJ.still {w wr w2 : World} {kb tb N ab : Nat} {cz : Array Value} {now : Int} {fl : Fls} (h : PkJ w wr kb tb N ab cz now fl) (hm : Mod No wr w2) : PkJ w w2 kb tb N ab cz now fl := by
 obtain ⟨ow, k1, k2, k3⟩ := h.keep
 exact ⟨⟨ow, k1.mod hm (fun _ _ x => x), k2, k3⟩, hm.has h.box (fun x => x), h.mod.trans hm, h.new⟩
theorem PkJ.pack {w W : World} {kb tb N ab : Nat} {cz : Array Value} {now : Int} {fl : Fls} (h : PkJ w W kb tb N ab cz now fl) :
  Calls Try.prog 36 #[.pointer (some ⟨kb, 0, none⟩)] W fun e w' => e = .returned (.int .i64 0) ∧ PkJ w w' kb tb N ab cz now fl := by
 obtain ⟨ow, k1, k2, k3⟩ := h.keep
 have hb := h.box.lt
 have hz := h.mod.size
 refine (kpm_pack k1).mono ?_
 rintro e w' ⟨rfl, ⟨ow', q1, q2⟩, hm⟩
 exact ⟨rfl, ⟨ow', q1, fun k hk => by rw [q2 k (by omega)]; exact k2 k hk, by rw [q2 ab hb]; exact k3⟩, hm.has h.box (fun e => e k3), h.mod.trans' hm (fun j hj hl => hj (k2 j hl)), h.new⟩
theorem PkI.toJ {w W w2 : World} {kb lb tb i : Nat} {cz cs : Array Value} {now : Int} {fl : Fls} (h : PkI w W kb lb tb i now fl) (hm : Mod (fun k => k = W.heap.size) W w2) (hb : Has w2 W.heap.size cz 85) : PkJ w w2 kb tb (i + 1) W.heap.size cz now fl := by
 obtain ⟨ow, k1, k2, k3⟩ := h.keep
 have ho : ow W.heap.size = 0 := by
  by_cases e : ow W.heap.size = 0
  ·exact e
  ·have := k1.old _ e; omega
 exact ⟨⟨ow, k1.mod hm (fun k hk e => by subst e; exact hk ho), k3, ho⟩, hb, h.mod.trans' hm (fun j e hl => by have := h.mod.size; omega), h.mod.size⟩
theorem fresh_zero {w : World} {ow : Nat → Nat} {kb tb N : Nat} {now : Int} {fl : Fls} (h : KpM w ow kb now fl tb N) (k : Nat) (hk : w.heap.size ≤ k) : ow k = 0 := by
 by_cases e : ow k = 0
 ·exact e
 ·have := h.old _ e; omega
theorem PkJ.fresh {w wr w2 : World} {kb tb N ab : Nat} {cz : Array Value} {now : Int} {fl : Fls} (h : PkJ w wr kb tb N ab cz now fl) (hm : Mod (fun k => k = wr.heap.size) wr w2) : PkJ w w2 kb tb N ab cz now fl := by
 obtain ⟨ow, k1, k2, k3⟩ := h.keep
 have hb := h.box.lt
 exact ⟨⟨ow, k1.mod hm (fun k hk e => by subst e; exact hk (fresh_zero k1 _ (Nat.le_refl _))), k2, k3⟩, hm.has h.box (by omega), h.mod.trans' hm (fun j e hl => by have := h.mod.size; omega), h.new⟩
structure NewK (W w' : World) (kb g N : Nat) (now : Int) (fl : Fls) : Prop where
 keep : ∃ ow, KpM w' ow kb now fl g N ∧ ∀ k, k < W.heap.size → ow k = 0
 mod : Mod No W w'
theorem NewK.still {W w' w2 : World} {kb g N : Nat} {now : Int} {fl : Fls} (h : NewK W w' kb g N now fl) (hm : Mod No w' w2) : NewK W w2 kb g N now fl := by
 obtain ⟨ow, k1, k2⟩ := h.keep
 exact ⟨⟨ow, k1.mod hm (fun _ _ x => x), k2⟩, h.mod.trans hm⟩
theorem NewK.fresh {W w' w2 : World} {kb g N : Nat} {now : Int} {fl : Fls} (h : NewK W w' kb g N now fl) (hm : Mod (fun k => k = w'.heap.size) w' w2) : NewK W w2 kb g N now fl := by
 obtain ⟨ow, k1, k2⟩ := h.keep
 exact ⟨⟨ow, k1.mod hm (fun k hk e => by subst e; exact hk (fresh_zero k1 _ (Nat.le_refl _))), k2⟩, h.mod.trans' hm (fun j e hl => by have := h.mod.size; omega)⟩
theorem NewK.whole {W w' : World} {kb g N : Nat} {now : Int} {fl : Fls} (h : NewK W w' kb g N now fl) : Calls Try.prog 30 #[.pointer (some ⟨kb, 0, none⟩)] w' fun e w2 => e = .returned (.agg (tab (allF now fl) 15457)) ∧ Mod No w' w2 := by
 obtain ⟨ow, k1, _⟩ := h.keep
 exact whole_walk k1.toH k1.zero
theorem copy_open {W : World} {S : Nat → Prop} {tb N : Nat} {T : TP} {now : Int} {fl : Fls} {mb : Option (Int × Fls)} (h : KpC W S tb T now fl mb N) (hneg : T.fuse < 0) :
  Calls Try.prog 32 #[.pointer (some ⟨tb, 0, none⟩)] W fun e w' => ∃ g : Nat, e = .returned (.pointer (some ⟨g, 0, none⟩)) ∧ Mod No W w' ∧ ∃ nw fw, ((nw = now ∧ fw = fl) ∨ mb = some (nw, fw)) ∧
   Calls Try.prog 33 #[.pointer (some ⟨g, 0, none⟩)] w' fun e2 w2 => ∃ kb, e2 = .returned (.tuple #[.pointer (some ⟨kb, 0, none⟩), .int .i64 0]) ∧ NewK W w2 kb g N nw fw := by
 refine (kp_copy h).mono ?_
 rintro e w' ⟨g, rfl, hm, hg, hg2, hc⟩
 have hk := kp_open hc (fun k hk => by
  by_cases q : W.heap.size ≤ k ∧ k < w'.heap.size
  ·exact q.2
  ·have : (if W.heap.size ≤ k ∧ k < w'.heap.size then 30 else 0) = 30 := hk
   rw [if_neg q] at this
   cases this) hneg
 obtain ⟨nw, fw, hw, hk⟩ := hk
 refine ⟨g, rfl, hm, nw, fw, hw, hk.mono ?_⟩
 rintro e2 w2 ⟨kb, rfl, _, ⟨ow, K, k1, k2, k3, k4⟩, k5, k6⟩
 refine ⟨kb, rfl, ⟨ow, ⟨K, k1, k3, k4⟩, fun k hk => ?_⟩, hm.trans' k6 (fun j hj hl => ?_)⟩
 ·rw [k2 k (by have := hm.size; omega), if_neg]
  rw [if_neg (by omega)]
  omega
 ·have hj : (if W.heap.size ≤ j ∧ j < w'.heap.size then 30 else 0) = 30 := hj
  rw [if_neg (by omega)] at hj
  cases hj
theorem PkJ.copy {w W : World} {kb tb N ab : Nat} {cz : Array Value} {now : Int} {fl : Fls} (h : PkJ w W kb tb N ab cz now fl) :
  Calls Try.prog 32 #[.pointer (some ⟨tb, 0, none⟩)] W fun e w' => ∃ g : Nat, e = .returned (.pointer (some ⟨g, 0, none⟩)) ∧ Mod No W w' ∧
   Calls Try.prog 33 #[.pointer (some ⟨g, 0, none⟩)] w' fun e2 w2 => ∃ kb, e2 = .returned (.tuple #[.pointer (some ⟨kb, 0, none⟩), .int .i64 0]) ∧ NewK W w2 kb g N now fl := by
 obtain ⟨ow, ⟨K, k1, rfl, k3⟩, _⟩ := h.keep
 refine (copy_open k1.close k3).mono ?_
 rintro e w' ⟨g, rfl, hm, nw, fw, hw, hc⟩
 rcases hw with ⟨rfl, rfl⟩ | hw
 ·exact ⟨g, rfl, hm, hc⟩
 ·cases hw
theorem quiet_loadA {P : Program} {C : World → Prop} {a : Act} {o : Oper} {K : Act → Prop} (ty : TypeId) (x : Operand) (ho : o.op = .load ty x) (b off : Nat) (hx : a.eval x = .pointer (some ⟨b, off, none⟩)) (v : Value)
  (hl : ∀ w, C w → (loadVar ty ⟨b, off, none⟩).run P w = .ok v w) (hk : K (a.put o.dst v)) : o.quiet P a C K :=
 ⟨v, fun w hw => by
  unfold Oper.quietAt execOp
  simp only [ho, hx, Instr.loadAt, Instr.sureAddr, Sem.run_bind, Sem.run_pure, Result.andThen_ok, hl w hw]
  exact ⟨rfl, rfl⟩, hk⟩
attribute [local go_sem] guardA
def tickC : Cmd := ⟨8, 0, 0, 0, 0, 0, 0, 0, 100, ⟨0, 0, 0, 0, 0, 0, 0, 0⟩⟩
theorem doK_tick (now : Int) (fl : Fls) : (doK now fl tickC).1 = 0 ∧ (doK now fl tickC).2.1 = now + 100 := by
 unfold doK tickC
 simp
theorem load_wd {w0 : World} {b : Nat} {cz : Array Value} (h : Has w0 b cz 85) (hs : cz.size = 15457) (x : Wd w0) : (loadVar 85 ⟨b, 0, none⟩).run Try.prog x.W = .ok (.agg cz) x.W := by
 have hu := rowA
 cases hd : Try.prog.underlying 85 with
 | none => rw [hd] at hu; cases hu
 | some d =>
  rw [hd] at hu
  have hl := run_loadVar_mid (P := Try.prog) x.W b 0 85 cz.toList d ((x.h.has h (fun z => z)).range 0 _ (fun j v hv => by rw [Nat.zero_add]; simpa using hv)) hd (by simpa using hu) (by rw [Array.length_toList, hs]; exact sizeA)
  rw [show cz.toList.toArray = cz from by simp] at hl
  exact hl
theorem packed_any (x : Int) (a : Option Addr) (n cap : Nat) (hn : n ≤ 1048576) (hx : (-9223372036854775808 ≤ x ∧ x ≤ 9223372036854775807)) (w : World) (hs : Script w a n) :
  Calls Try.prog 9 #[.slice a n cap, .int .i64 x] w fun e w' => e = .returned (.bool true) ∧ Mod No w w' := by
 have HPK := hide (pick_any x 4 hx (by omega))
 obtain ⟨hp0, hp1⟩ := pickN_range x 4 (by omega)
 have HS := hide hs
 clear hs
 go_enter Try.func9, Try.ntmps9
 go_wp2_with fail
 refine (new_any _ _).mono ?_
 rintro e w1 ⟨rfl, rfl⟩
 have HG := hide (begunP_any w)
 unfold tape0 at HG
 obtain ⟨tb, htb⟩ : ∃ tb, tb = w.heap.size := ⟨_, rfl⟩
 generalize w.alloc (.cells (⟨⟨.slice none 0 0, [], 0⟩, ⟨.slice none 0 0, [], 0⟩, ⟨.slice none 0 0, [], 0⟩, ⟨.slice none 0 0, [], 0⟩, 1099511627776, -1⟩ : TTape).cells 103) = w1 at *
 go_wp2_with fail
 refine (unhide HG).mono ?_
 rintro e w2 ⟨kb, rfl, ⟨ow, k2, ho⟩, m2, nx⟩
 rw [← htb] at k2
 rw [← htb]
 clear nx
 have M2 := hide m2
 have K2 := hide k2
 have HO := hide ho
 clear k2 ho m2 HG htb
 go_wp2_with fail
 refine (first_any _).mono ?_
 rintro e w3 ⟨cs, hcs, rfl, h3, m3⟩
 have I3 := hide (show PkI w w3 kb w2.heap.size tb 0 0 fl0 from ⟨⟨ow, (unhide K2).mod m3 (fun _ _ x => x), by
  by_cases e : ow w2.heap.size = 0
  ·exact e
  ·have := (unhide K2).old _ e; omega, fun k hk => (unhide HO) k hk⟩, ⟨cs, hcs, h3⟩, (unhide M2).trans m3, (unhide M2).size⟩)
 generalize w2.heap.size = lb at *
 clear h3 m3 hcs K2 HO M2 cs
 clear w1 w2 ow
 go_wp2_with fail
 go_loopw [9] (fun s wr => ∃ (i : Nat) (now : Int) (fl : Fls), s = .int .i64 i ∧ i ≤ n ∧ Hid (PkI w wr kb lb tb i now fl)) (fun i _ => n - (intOf i).toNat)
 case atStart => exact ⟨0, _, _, rfl, by omega, I3⟩
 case round =>
  obtain ⟨i, now, fl, rfl, hi, I4⟩ := hrel
  clear I3
  by_cases hin : i < n
  ·have hini : (i : Int) < (n : Int) := by omega
   have hi0 : (0 : Int) ≤ i := by omega
   have hi1 : IntKind.i64.wrap ((i : Int) + 1) = ((i + 1 : Nat) : Int) := by rw [wrap_id _ (by omega) (by omega)]; rfl
   obtain ⟨b, off, S, rfl, hS, hr, hT⟩ := (unhide HS).mod (unhide I4).mod i hin
   have HT := hide hT
   have HR := hide hr
   clear hT hr
   go_wp2_with (refine wpList_load_mid rfl 41 _ rfl b (off + i * 21) rfl S.toList _ (unhide HR) Try.underlying41 rfl (by rw [Array.length_toList, hS]; exact size47p) ?_)
   refine ((unhide HT) _).mono ?_
   rintro e w4 ⟨cc, rfl, m4⟩
   have HD := hide (((unhide I4).still m4).step (by omega) cc)
   clear m4 HT HR I4
   go_wp2_with fail
   refine (unhide HD).mono ?_
   rintro e w5 ⟨rfl, i5⟩
   have I5 := hide i5
   clear i5 HD
   go_wp2
   exact ⟨⟨i + 1, _, _, rfl, by omega, I5⟩, by simp [intOf]; omega⟩
  ·have hie : i = n := by omega
   subst hie
   have hcond : ¬ ((i : Int) < (i : Int)) := by omega
   obtain ⟨cz, hz⟩ : ∃ cz, cz = tab (allF now fl) 15457 := ⟨_, rfl⟩
   have HW := hide (show ∀ W, Mod No wr W → Calls Try.prog 30 #[.pointer (some ⟨kb, 0, none⟩)] W fun e w' => e = .returned (.agg cz) ∧ Mod No W w' from fun W hW => by
    obtain ⟨ow, k1, _⟩ := ((unhide I4).still hW).keep
    rw [hz]
    exact whole_walk k1.toH k1.zero)
   have SZ := hide (show cz.size = 15457 by rw [hz]; exact tab_size _ _)
   have OZ := hide (show cz.all (·.oneCell') = true by rw [hz]; exact tab_one _ _)
   have HZ := hide hz
   clear hz
   go_wp2_with fail
   refine ((unhide HW) _ (Mod.refl _ _)).mono ?_
   rintro e w4 ⟨rfl, m4⟩
   have I5 := hide ((unhide I4).still m4)
   have A1 := hide (Has.new w4 Try.zeroCells85 85)
   clear m4 HW I4
   go_wp2_with (refine wpList_store_has rfl 85 _ _ rfl w4.heap.size cz rfl rfl Try.zeroCells85 85 (unhide A1) ((unhide SZ).trans Try.zeroCells85_size.symm) (by rw [unhide SZ]; exact sizeA) (unhide OZ) ?_; intro w5 h5 m5)
   have J5 := hide ((unhide I5).toJ (cs := cz) ((((Mod.refl (fun k => k = w4.heap.size) w4).alloc _).trans m5)) h5)
   clear h5 m5 A1 I5 HS
   have hi : i ≤ 1048576 := hn
   generalize w4.heap.size = ab at *
   clear w4 hin hcond
   go_loopw [11] (fun s wx => ∃ m : Nat, s = .int .i64 m ∧ m ≤ 5 ∧ Hid (PkJ w wx kb tb (i + 1) ab cz now fl)) (fun m _ => 5 - (intOf m).toNat)
   case atStart => exact ⟨0, rfl, by omega, J5⟩
   case round =>
    obtain ⟨m, rfl, hm, J⟩ := hrel
    clear J5
    go_wp2_with fail
    refine ((unhide HPK) _).mono ?_
    rintro e w6 ⟨rfl, rfl⟩
    by_cases hmp : (m : Int) ≤ pickN x 4
    ·have hm1 : IntKind.i64.wrap ((m : Int) + 1) = ((m + 1 : Nat) : Int) := by rw [wrap_id _ (by omega) (by omega)]; rfl
     have hm3 : m ≤ 3 := by omega
     have HP := hide (unhide J).pack
     go_wp2_with fail
     refine (unhide HP).mono ?_
     rintro e w7 ⟨rfl, j7⟩
     have J7 := hide j7
     clear j7 HP J
     go_wp2
     exact ⟨⟨m + 1, rfl, by omega, J7⟩, by simp [intOf]; omega⟩
    ·generalize pickN x 4 = pk at *
     have HW := hide (show ∀ W, Mod No w6 W → Calls Try.prog 30 #[.pointer (some ⟨kb, 0, none⟩)] W fun e w' => e = .returned (.agg cz) ∧ Mod No W w' from fun W hW => by
      obtain ⟨ow, k1, _⟩ := ((unhide J).still hW).keep
      rw [unhide HZ]
      exact whole_walk k1.toH k1.zero)
     go_wp2_with fail
     refine ((unhide HW) _ (Mod.refl _ _)).mono ?_
     rintro e w8 ⟨rfl, m8⟩
     have J8 := hide ((unhide J).still m8)
     have A2 := hide (Has.new w8 Try.zeroCells85 85)
     clear m8 HW J
     go_wp2_with (refine wpList_store_has rfl 85 _ _ rfl w8.heap.size cz rfl rfl Try.zeroCells85 85 (unhide A2) ((unhide SZ).trans Try.zeroCells85_size.symm) (by rw [unhide SZ]; exact sizeA) (unhide OZ) ?_; intro w9 h9 m9)
     have J9 := hide ((unhide J8).fresh (((Mod.refl (fun k => k = w8.heap.size) w8).alloc _).trans m9))
     have B9 := hide h9
     clear h9 m9 A2 J8
     generalize w8.heap.size = bb at *
     clear w8
     have HC := hide (unhide J9).copy
     refine (unhide HC).mono ?_
     rintro e w10 ⟨g, rfl, m10, ho⟩
     have HO := hide ho
     clear ho HC
     have J10 := hide ((unhide J9).still m10)
     have L9 := hide (show ab < w9.heap.size ∧ bb < w9.heap.size from ⟨(unhide J9).box.lt, (unhide B9).lt⟩)
     have A9 := hide ((unhide J9).box)
     clear m10
     go_wp2_with fail
     refine (unhide HO).mono ?_
     rintro e w11 ⟨kb2, rfl, nk⟩
     have N11 := hide nk
     clear nk HO J10
     have HW2 := hide (unhide N11).whole
     rw [← unhide HZ] at HW2
     go_wp2_with fail
     refine (unhide HW2).mono ?_
     rintro e w12 ⟨rfl, m12⟩
     have N12 := hide ((unhide N11).still m12)
     have A3 := hide (Has.new w12 Try.zeroCells85 85)
     clear m12 HW2 N11
     go_wp2_with (refine wpList_store_has rfl 85 _ _ rfl w12.heap.size cz rfl rfl Try.zeroCells85 85 (unhide A3) ((unhide SZ).trans Try.zeroCells85_size.symm) (by rw [unhide SZ]; exact sizeA) (unhide OZ) ?_; intro w13 h13 m13)
     have N13 := hide ((unhide N12).fresh (((Mod.refl (fun k => k = w12.heap.size) w12).alloc _).trans m13))
     have B13 := hide h13
     have C13 := hide (show ∃ ow, KpM w13 ow kb2 now fl g (i + 1) ∧ (∀ k, k < w9.heap.size → ow k = 0) ∧ ow w12.heap.size = 0 from by
      obtain ⟨ow, k1, k2⟩ := (unhide N12).keep
      exact ⟨ow, k1.mod (((Mod.refl (fun k => k = w12.heap.size) w12).alloc _).trans m13) (fun k hk e => by subst e; exact hk (fresh_zero k1 _ (Nat.le_refl _))), k2, fresh_zero k1 _ (Nat.le_refl _)⟩)
     clear h13 m13 A3 N12
     generalize w12.heap.size = cb at *
     clear w12
     have HD := hide (show Calls Try.prog 26 #[.pointer (some ⟨kb2, 0, none⟩), .agg #[.int .i64 8, .int .i64 0, .int .i64 0, .int .i64 0, .int .i64 0, .int .i64 0, .int .i64 0, .int .i64 0, .int .i64 100, .int .i64 0, .int .i64 0, .int .i64 0, .int .i64 0, .int .i64 0, .int .i64 0, .int .i64 0]] w13 fun e w' => e = .returned (.int .i64 0) ∧ (∃ ow fl', KpM w' ow kb2 (now + 100) fl' g (i + 2)) ∧ Has w' ab cz 85 ∧ Has w' bb cz 85 ∧ Has w' cb cz 85 ∧ Mod No w w' from by
      obtain ⟨ow, k1, k2, k3⟩ := unhide C13
      have hd := doK_tick now fl
      refine (kpm_do k1 (by omega) tickC).mono ?_
      rintro e w' ⟨rfl, ⟨ow', q1, q2⟩, hm⟩
      have hl := unhide L9
      have m9 := (unhide N13).mod
      rw [hd.1]
      rw [hd.2] at q1
      exact ⟨rfl, ⟨ow', _, q1⟩, hm.has (m9.has (unhide A9) (fun x => x)) (fun e => e (k2 _ hl.1)), hm.has (m9.has (unhide B9) (fun x => x)) (fun e => e (k2 _ hl.2)), hm.has (unhide B13) (fun e => e k3), ((unhide J9).mod.trans m9).trans' hm (fun j hj hl => hj (k2 j (by have := (unhide J9).mod.size; omega)))⟩)
     refine (unhide HD).mono ?_
     rintro e w14 ⟨rfl, ⟨ow, fl', k14⟩, ha, hb, hc, hm14⟩
     have M14 := hide hm14
     have HN := hide (fun (x : Wd w14) => (show Calls Try.prog 24 #[.pointer (some ⟨kb2, 0, none⟩)] x.W fun e w' => e = .returned (.int .i64 (now + 100)) ∧ Mod No x.W w' from by
      obtain ⟨pt, hx⟩ := k14.toH.mod x.h (fun _ _ z => z)
      exact (now_any hx).mono (fun e w' ⟨h1, h2⟩ => ⟨h1, by subst h2; exact Mod.refl _ _⟩)))
     have LA := hide (load_wd ha (unhide SZ))
     have LB := hide (load_wd hb (unhide SZ))
     have LC := hide (load_wd hc (unhide SZ))
     have HEQ : ∀ W, (Op.equalIn 10000 85 (.agg cz) (.agg cz)).run Try.prog W = .ok true W := fun W => by
      rw [unhide HZ]
      obtain ⟨r, q1, q2⟩ := eT_all.eq (allF now fl) (allF now fl) 10000 W (by omega)
      rw [q1, q2.2 (fun _ _ => rfl)]
     have HTM := hide (show 0 ≤ now ∧ now ≤ 4611686018427387000 from by
      obtain ⟨ow, ⟨K, k1, _⟩, _⟩ := unhide C13
      exact k1.time)
     have HNW : ∀ (x : Wd w14), x.W.cell? ⟨ab, 0, none⟩ = some (.int .i64 now) := fun x => by
      have := (x.h.has ha (fun z => z)).cell 0
      rw [unhide HZ, tab_get _ _ _ (by omega)] at this
      exact this
     clear ha hb hc hm14 k14 HD N13 C13 B13 J9 B9 A9 L9
     have hw2 : IntKind.i64.wrap (now + 100) = now + 100 := wrap_id _ (by have := unhide HTM; omega) (by have := unhide HTM; omega)
     go_upto_region 23 with fail
     haveI := wd_ne w14
     refine wp_region_wd (w0 := w14) (by kernel_rfl) (by kernel_rfl) (Mod.refl _ _) ?_
     go_big_quiet_want
     refine quiet_loadA 85 (.tmp 10) rfl ab 0 (by simp [Act.eval]) (.agg cz) (by rintro W ⟨x, rfl⟩; exact (unhide LA) x) ?_
     simp [Act.put]
     go_big_quiet_on
     go_big_quiet_want
     refine quiet_loadA 85 (.tmp 13) rfl bb 0 (by simp [Act.eval]) (.agg cz) (by rintro W ⟨x, rfl⟩; exact (unhide LB) x) ?_
     simp [Act.put]
     go_big_quiet_on
     iterate 2 (go_big_quiet_step (fail))
     go_big_quiet_want
     refine quiet_loadA 85 (.tmp 13) rfl bb 0 (by simp [Act.eval]) (.agg cz) (by rintro W ⟨x, rfl⟩; exact (unhide LB) x) ?_
     simp [Act.put]
     go_big_quiet_on
     go_big_quiet_want
     refine quiet_loadA 85 (.tmp 16) rfl cb 0 (by simp [Act.eval]) (.agg cz) (by rintro W ⟨x, rfl⟩; exact (unhide LC) x) ?_
     simp [Act.put]
     go_big_quiet_on
     repeat (go_big_quiet_step ((go_at_call 24; exact Calls.wd _ ((unhide HN) _))))
     refine wpQuiet_nil ?_
     rintro w15 ⟨⟨_, hm15⟩, rfl⟩
     have M15 := hide ((unhide M14).trans hm15)
     clear hm15
     go_wp2
     go_ret
     exact ⟨rfl, unhide M15⟩
theorem bulk_one {H : Type} (d : DataW H) : 1 ≤ Rows.uptoBulk d := by
 cases d with
 | lit l => cases l <;> simp [Rows.uptoBulk]
 | nil => simp [Rows.uptoBulk]
 | ptr d => simp [Rows.uptoBulk]
 | slice elems spare => simp [Rows.uptoBulk]
 | agg parts => simp [Rows.uptoBulk]
 | iface t d => simp [Rows.uptoBulk]
 | map entries => simp [Rows.uptoBulk]
 | held h => simp [Rows.uptoBulk]
theorem bulk_part {H : Type} {d : DataW H} {l : List (DataW H)} (h : d ∈ l) : Rows.uptoBulk d ≤ Rows.uptoBulkAll l := by
 induction l with
 | nil => cases h
 | cons x r ih =>
  simp only [Rows.uptoBulkAll]
  cases List.mem_cons.1 h with
  | inl e => subst e; omega
  | inr e => have := ih e; omega
theorem bulk_len {H : Type} (l : List (DataW H)) : l.length ≤ Rows.uptoBulkAll l := by
 induction l with
 | nil => simp [Rows.uptoBulkAll]
 | cons x r ih => have := bulk_one x; simp only [Rows.uptoBulkAll, List.length_cons]; omega
theorem bulk_slice {H : Type} {es sp : List (DataW H)} {l : List (DataW H)} (h : (DataW.slice es sp : DataW H) ∈ l) (hk : Rows.uptoSmall H l = true) : es.length ≤ 1048576 := by
 have h1 : Rows.uptoBulkAll l ≤ 1048576 := of_decide_eq_true hk
 have h2 := bulk_part h
 have h3 := bulk_len es
 simp only [Rows.uptoBulk] at h2
 omega
end Go.Proofs.Ythhibagcpjeihaa
