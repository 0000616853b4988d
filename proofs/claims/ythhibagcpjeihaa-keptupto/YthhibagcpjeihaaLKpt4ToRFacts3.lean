import Derived.Test.YthhibagcpjeihaaLTame6ToKpt3
import Derived.Test.YthhibagcpjeihaaLBaseToAppend
import Derived.Orders
namespace Go.Proofs.Ythhibagcpjeihaa
open Go.RowKit
open M
set_option linter.unusedVariables false
set_option linter.unusedSimpArgs false
set_option maxRecDepth 100000
set_option maxHeartbeats 4000000
structure KeI (w wr : World) (kb tb i : Nat) (now : Int) (fl : Fls) : Prop where
 keep : ∃ ow K, KpL wr ow kb now fl K (i + 1) ∧ K.tb = tb ∧ ∀ k, k < w.heap.size → ow k = 0
 mod : Mod No w wr
theorem KeI.still {w wr w2 : World} {kb tb i : Nat} {now : Int} {fl : Fls} (h : KeI w wr kb tb i now fl) (hm : Mod No wr w2) : KeI w w2 kb tb i now fl := by
 obtain ⟨ow, K, k1, k2, k3⟩ := h.keep
 exact ⟨⟨ow, K, k1.mod0 hm, k2, k3⟩, h.mod.trans hm⟩
theorem NewK.toE {w W w' : World} {kb g i : Nat} {now : Int} {fl : Fls} (h : NewK W w' kb g (i + 1) now fl) (hm : Mod No w W) : KeI w w' kb g i now fl := by
 obtain ⟨ow, ⟨K, k1, k2, _⟩, k3⟩ := h.keep
 exact ⟨⟨ow, K, k1, k2, fun k hk => k3 k (Nat.lt_of_lt_of_le hk hm.size)⟩, hm.trans h.mod⟩
theorem fall_copy {W : World} {ow : Nat → Nat} {kb N : Nat} {now : Int} {fl : Fls} {K : KS} (h : KpL W ow kb now fl K N) :
  Calls Try.prog 31 #[.pointer (some ⟨K.tb, 0, none⟩), .slice none 0 0, .int .u8 0] W fun e w1 => e = .returned (.tuple #[]) ∧ Mod (fun k => ow k = 30) W w1 ∧
   ∀ w1', Mod No w1 w1' → Calls Try.prog 32 #[.pointer (some ⟨K.tb, 0, none⟩)] w1' fun e w' => ∃ g : Nat, e = .returned (.pointer (some ⟨g, 0, none⟩)) ∧ Mod No w1' w' ∧
    Calls Try.prog 33 #[.pointer (some ⟨g, 0, none⟩)] w' fun e2 w2 => ∃ kb, e2 = .returned (.tuple #[.pointer (some ⟨kb, 0, none⟩), .int .i64 0]) ∧ NewK w1' w2 kb g N now fl := by
 refine (kp_fall0 h.close).mono ?_
 rintro e w1 ⟨rfl, hm, T', hc, hneg⟩
 refine ⟨rfl, hm, fun w1' hm1 => ?_⟩
 refine (copy_open (hc.mod hm1 (fun _ _ x => x)) hneg).mono ?_
 rintro e w' ⟨g, rfl, hm2, nw, fw, hw, ho⟩
 rcases hw with ⟨rfl, rfl⟩ | hw
 ·exact ⟨g, rfl, hm2, ho⟩
 ·cases hw
structure KeB (w W : World) (ow : Nat → Nat) (kb tb N bb : Nat) (K : KS) (cz : Array Value) (now : Int) (fl : Fls) : Prop where
 keep : KpL W ow kb now fl K N
 tape : K.tb = tb
 own : ∀ k, k < w.heap.size → ow k = 0
 box : Has W bb cz 85
 ob : ow bb = 0
 mod : Mod No w W
theorem KeB.still {w W W2 : World} {ow : Nat → Nat} {kb tb N bb : Nat} {K : KS} {cz : Array Value} {now : Int} {fl : Fls} (h : KeB w W ow kb tb N bb K cz now fl) (hm : Mod No W W2) : KeB w W2 ow kb tb N bb K cz now fl :=
 ⟨h.keep.mod0 hm, h.tape, h.own, hm.has h.box (fun x => x), h.ob, h.mod.trans hm⟩
theorem KpL.old {W : World} {ow : Nat → Nat} {kb N : Nat} {K : KS} {now : Int} {fl : Fls} (h : KpL W ow kb now fl K N) (k : Nat) (hk : W.heap.size ≤ k) : ow k = 0 := by
 obtain ⟨pt, h3⟩ := h.keep
 by_cases e : ow k = 0
 ·exact e
 ·have := h3.keep.old _ e; omega
theorem KeI.boxed {w W w2 : World} {kb tb i : Nat} {cz : Array Value} {now : Int} {fl : Fls} (h : KeI w W kb tb i now fl) (hm : Mod (fun k => k = W.heap.size) W w2) (hb : Has w2 W.heap.size cz 85) : ∃ ow K, KeB w w2 ow kb tb (i + 1) W.heap.size K cz now fl := by
 obtain ⟨ow, K, k1, k2, k3⟩ := h.keep
 have ho := k1.old W.heap.size (Nat.le_refl _)
 exact ⟨ow, K, k1.mod hm (fun k hk e => by subst e; exact hk ho), k2, k3, hb, ho, h.mod.trans' hm (fun j e hl => by have := h.mod.size; omega)⟩
theorem KeI.told {w W : World} {kb tb i : Nat} {now : Int} {fl : Fls} (h : KeI w W kb tb i now fl) : Calls Try.prog 30 #[.pointer (some ⟨kb, 0, none⟩)] W fun e w2 => e = .returned (.agg (tab (allF now fl) 15457)) ∧ Mod No W w2 := by
 obtain ⟨ow, K, k1, k2, k3⟩ := h.keep
 exact whole_walk k1.toH (k1.ok.rng 0 (.inl rfl))
theorem eq_self (f : Nat → Int) (W : World) : (Op.equalIn 10000 85 (.agg (tab f 15457)) (.agg (tab f 15457))).run Try.prog W = .ok true W := by
 obtain ⟨r, q1, q2⟩ := eT_all.eq f f 10000 W (by omega)
 rw [q1, q2.2 (fun _ _ => rfl)]
structure KeE (P : Prop) (w W : World) (kb tb N bb pb cb : Nat) (c : Cmd) (e : Int) (now : Int) (fl : Fls) (n1 : Int) (f1 : Fls) (na : Int) (fa : Fls) : Prop where
 box0 : Has W bb (allA now fl) 85
 boxA : Has W pb (allA na fa) 85
 boxC : Has W cb (cmdCells c) 37
 ne : bb ≠ pb ∧ cb ≠ pb
 told : e ≠ 16 → allA na fa = allA n1 f1
 may : e = 16 → P
 live : e ≠ 16 → ∃ ow K, KpL W ow kb n1 f1 K N ∧ K.tb = tb ∧ (∀ k, k < w.heap.size → ow k = 0) ∧ ow bb = 0 ∧ ow pb = 0
 dead : e = 16 → ∃ S T, KpC W S tb T now fl (some (n1, f1)) N ∧ (∀ k, S k → w.heap.size ≤ k) ∧ ¬ S bb ∧ ¬ S pb ∧ ¬ S cb ∧ T.fuse = 0
 same : e ≠ 0 → e ≠ 16 → n1 = now ∧ f1 = fl
 step : e = 16 → doK now fl c = (0, n1, f1)
 mod : Mod No w W
 new : w.heap.size ≤ pb
theorem KeE.set {P P' : Prop} {w W W2 : World} {kb tb N bb pb cb : Nat} {c : Cmd} {e now n1 na nb : Int} {fl f1 fa fb : Fls} (h : KeE P w W kb tb N bb pb cb c e now fl n1 f1 na fa) (hm : Mod (fun k => k = pb) W W2) (hb : Has W2 pb (allA nb fb) 85) (ht : e ≠ 16 → allA nb fb = allA n1 f1) (hp : e = 16 → P') : KeE P' w W2 kb tb N bb pb cb c e now fl n1 f1 nb fb := by
 refine ⟨hm.has h.box0 h.ne.1, hb, hm.has h.boxC h.ne.2, h.ne, ht, hp, fun d => ?_, fun d => ?_, h.same, h.step, h.mod.trans' hm (fun j e hl => by have := h.new; omega), h.new⟩
 ·obtain ⟨ow, K, k1, k2, k3, k4, k5⟩ := h.live d
  exact ⟨ow, K, k1.mod hm (fun k hk e => by subst e; exact hk k5), k2, k3, k4, k5⟩
 ·obtain ⟨S, T, k1, k2, k3, k4, k5, k6⟩ := h.dead d
  exact ⟨S, T, k1.mod hm (fun k hk e => by subst e; exact k4 hk), k2, k3, k4, k5, k6⟩
structure KeC (neg : Bool) (w W : World) (tb N bb pb : Nat) (died : Bool) (now : Int) (fl : Fls) (na : Int) (fa : Fls) : Prop where
 box0 : Has W bb (allA now fl) 85
 boxA : Has W pb (allA na fa) 85
 tape : ∃ S T n0 f0 mb, KpC W S tb T n0 f0 mb N ∧ (∀ k, S k → w.heap.size ≤ k) ∧ ¬ S bb ∧ ¬ S pb ∧ (neg = true → T.fuse < 0) ∧ ∀ nw fw, ((nw = n0 ∧ fw = f0) ∨ mb = some (nw, fw)) → allA nw fw = allA na fa ∨ (died = true ∧ allA nw fw = allA now fl)
 mod : Mod No w W
theorem KeC.still {neg : Bool} {w W W2 : World} {tb N bb pb : Nat} {died : Bool} {now na : Int} {fl fa : Fls} (h : KeC neg w W tb N bb pb died now fl na fa) (hm : Mod No W W2) : KeC neg w W2 tb N bb pb died now fl na fa := by
 obtain ⟨S, T, n0, f0, mb, k1, k2⟩ := h.tape
 exact ⟨hm.has h.box0 (fun x => x), hm.has h.boxA (fun x => x), ⟨S, T, n0, f0, mb, k1.mod hm (fun _ _ x => x), k2⟩, h.mod.trans hm⟩
theorem KeE.toC {w W : World} {kb tb N bb pb cb : Nat} {c : Cmd} {e now n1 na : Int} {fl f1 fa : Fls} (h : KeE (AfterOk (allA now fl) (allA n1 f1) (allA na fa)) w W kb tb N bb pb cb c e now fl n1 f1 na fa) (d : e = 16) : KeC false w W tb N bb pb true now fl na fa := by
 obtain ⟨S, T, k1, k2, k3, k4, _⟩ := h.dead d
 refine ⟨h.box0, h.boxA, ⟨S, T, _, _, _, k1, k2, k3, k4, fun x => (by cases x), fun nw fw hw => ?_⟩, h.mod⟩
 have hz : allA nw fw = allA now fl ∨ allA nw fw = allA n1 f1 := by
  rcases hw with ⟨rfl, rfl⟩ | hw
  ·exact .inl rfl
  ·injection hw with hw
   injection hw with h1 h2
   subst h1; subst h2
   exact .inr rfl
 exact ((h.may d).met hz).imp id (fun q => ⟨rfl, q⟩)
theorem KeE.toL {P : Prop} {w W : World} {kb tb N bb pb cb : Nat} {c : Cmd} {e now n1 na : Int} {fl f1 fa : Fls} (h : KeE P w W kb tb N bb pb cb c e now fl n1 f1 na fa) (d : e ≠ 16) : KeC false w W tb N bb pb false now fl na fa := by
 obtain ⟨ow, K, k1, rfl, k3, k4, k5⟩ := h.live d
 refine ⟨h.box0, h.boxA, ⟨_, _, _, _, _, k1.close, fun k hk => ?_, by omega, by omega, fun x => (by cases x), fun nw fw hw => ?_⟩, h.mod⟩
 ·by_cases q : k < w.heap.size
  ·have := k3 k q; omega
  ·omega
 ·rcases hw with ⟨rfl, rfl⟩ | hw
  ·exact .inl (h.told d).symm
  ·cases hw
theorem KeE.on {P : Prop} {w W : World} {kb tb i bb pb cb : Nat} {c : Cmd} {e now n1 na : Int} {fl f1 fa : Fls} (h : KeE P w W kb tb (i + 1 + 1) bb pb cb c e now fl n1 f1 na fa) (d : e ≠ 16) : KeI w W kb tb (i + 1) n1 f1 := by
 obtain ⟨ow, K, k1, k2, k3, k4, k5⟩ := h.live d
 exact ⟨⟨ow, K, k1, k2, k3⟩, h.mod⟩
theorem KeE.pack {P : Prop} {w W : World} {kb tb N bb pb cb : Nat} {c : Cmd} {e now n1 na : Int} {fl f1 fa : Fls} (h : KeE P w W kb tb N bb pb cb c e now fl n1 f1 na fa) (d : e ≠ 16) :
  Calls Try.prog 36 #[.pointer (some ⟨kb, 0, none⟩)] W fun e1 w' => ∃ e' : Int, e1 = .returned (.int .i64 e') ∧ (e' = 0 ∨ e' = 16) ∧ KeC false w w' tb N bb pb false now fl na fa ∧ (e' = 16 → Calls Try.prog 35 #[.pointer (some ⟨tb, 0, none⟩), .int .i64 3] w' fun e2 w2 => e2 = .returned (.bool false) ∧ KeC false w w2 tb N bb pb false now fl na fa) := by
 obtain ⟨ow, K, k1, rfl, k3, k4, k5⟩ := h.live d
 have hb0 := h.box0.lt
 have hba := h.boxA.lt
 have hsz := h.mod.size
 have heq := h.told d
 refine (kp_pack k1).mono ?_
 rintro e1 w' ⟨e', rfl, hm, he, hy, hn⟩
 have hm' : Mod No w w' := h.mod.trans' hm (fun j hj hl => hj (k3 j hl))
 have b0 := hm.has h.box0 (fun e => e k4)
 have bA := hm.has h.boxA (fun e => e k5)
 have met : ∀ nw fw, ((nw = n1 ∧ fw = f1) ∨ (none : Option (Int × Fls)) = some (nw, fw)) → allA nw fw = allA na fa ∨ (false = true ∧ allA nw fw = allA now fl) := fun nw fw hw => by
  rcases hw with ⟨rfl, rfl⟩ | hw
  ·exact .inl heq.symm
  ·cases hw
 have own : ∀ ow' : Nat → Nat, (∀ k, k < W.heap.size → ow' k = ow k) → (∀ k, ow' k = 30 → w.heap.size ≤ k) ∧ ¬ ow' bb = 30 ∧ ¬ ow' pb = 30 := fun ow' ho => ⟨fun k hk => by
  by_cases q : k < w.heap.size
  ·rw [ho k (by omega), k3 k q] at hk; omega
  ·omega, by rw [ho bb hb0, k4]; omega, by rw [ho pb hba, k5]; omega⟩
 rcases he with rfl | rfl
 ·obtain ⟨ow', K', q1, q2, q3, _⟩ := hy rfl
  obtain ⟨o1, o2, o3⟩ := own ow' q2
  exact ⟨0, rfl, .inl rfl, ⟨b0, bA, ⟨_, _, _, _, _, q3 ▸ q1.close, o1, o2, o3, fun x => (by cases x), met⟩, hm'⟩, fun x => (by cases x)⟩
 ·obtain ⟨_, ow', T', q1, q2, q3⟩ := hn rfl
  obtain ⟨o1, o2, o3⟩ := own ow' q2
  refine ⟨16, rfl, .inr rfl, ⟨b0, bA, ⟨_, _, _, _, _, q1, o1, o2, o3, fun x => (by cases x), met⟩, hm'⟩, fun _ => ?_⟩
  refine (kp_sync q1 q3).mono ?_
  rintro e2 w2 ⟨rfl, p1, p2⟩
  have hin := q1.tape.inn
  have hnb : bb ≠ K.tb := fun e => o2 (e ▸ hin)
  have hnp : pb ≠ K.tb := fun e => o3 (e ▸ hin)
  exact ⟨rfl, p2.has b0 hnb, p2.has bA hnp, ⟨_, _, _, _, _, p1, o1, o2, o3, fun x => (by cases x), met⟩, hm'.trans' p2 (fun j (hj : j = K.tb) hl => by have := o1 _ hin; omega)⟩
theorem KeC.fall {neg : Bool} {w W : World} {tb N bb pb : Nat} {died : Bool} {now na : Int} {fl fa : Fls} (h : KeC neg w W tb N bb pb died now fl na fa) (keep : List Int) (kc : Nat) (ko : Option Addr) (s : Int) (hm2 : keep.length ≤ 9223372036854775807) (hk : Reads w (.slice ko keep.length kc) keep.length (keep.map (Value.int .i64))) (hkb : 0 < keep.length → ∀ k, (Value.slice ko keep.length kc).ownBlock = some k → k < w.heap.size) :
  Calls Try.prog 31 #[.pointer (some ⟨tb, 0, none⟩), .slice ko keep.length kc, .int .u8 s] W fun e w' => e = .returned (.tuple #[]) ∧ KeC true w w' tb N bb pb died now fl na fa := by
 obtain ⟨S, T, n0, f0, mb, k1, k2, k3, k4, _, k6⟩ := h.tape
 have hk' : Reads W (.slice ko keep.length kc) keep.length (keep.map (Value.int .i64)) := by
  rcases hk with hk | ⟨ad, c, e, hk⟩
  ·exact .inl hk
  ·exact .inr ⟨ad, c, e, fun j u hu => h.mod.cell (hk j u hu)⟩
 refine (kp_fall k1 keep kc ko s hm2 hk' (fun h0 k hk hs => by have := hkb h0 k hk; have := k2 k hs; omega)).mono ?_
 rintro e w' ⟨rfl, hm, T', q1, q2⟩
 exact ⟨rfl, hm.has h.box0 k3, hm.has h.boxA k4, ⟨S, T', n0, f0, mb, q1, k2, k3, k4, fun _ => q2, k6⟩, h.mod.trans' hm (fun j hj hl => by have := k2 j hj; omega)⟩
theorem KeC.copy {w W : World} {tb N bb pb : Nat} {died : Bool} {now na : Int} {fl fa : Fls} (h : KeC true w W tb N bb pb died now fl na fa) :
  Calls Try.prog 32 #[.pointer (some ⟨tb, 0, none⟩)] W fun e w' => ∃ g : Nat, e = .returned (.pointer (some ⟨g, 0, none⟩)) ∧ Mod No W w' ∧ ∃ nw fw, (allA nw fw = allA na fa ∨ (died = true ∧ allA nw fw = allA now fl)) ∧
   Calls Try.prog 33 #[.pointer (some ⟨g, 0, none⟩)] w' fun e2 w2 => ∃ kb, e2 = .returned (.tuple #[.pointer (some ⟨kb, 0, none⟩), .int .i64 0]) ∧ NewK W w2 kb g N nw fw := by
 obtain ⟨S, T, n0, f0, mb, k1, k2, k3, k4, k5, k6⟩ := h.tape
 refine (copy_open k1 (k5 rfl)).mono ?_
 rintro e w' ⟨g, rfl, hm, nw, fw, hw, ho⟩
 exact ⟨g, rfl, hm, nw, fw, k6 nw fw hw, ho⟩
theorem NewK.copy {W w' : World} {kb g N : Nat} {now : Int} {fl : Fls} (h : NewK W w' kb g N now fl) :
  Calls Try.prog 32 #[.pointer (some ⟨g, 0, none⟩)] w' fun e w2 => ∃ g2 : Nat, e = .returned (.pointer (some ⟨g2, 0, none⟩)) ∧ Mod No w' w2 ∧
   Calls Try.prog 33 #[.pointer (some ⟨g2, 0, none⟩)] w2 fun e2 w3 => ∃ kb, e2 = .returned (.tuple #[.pointer (some ⟨kb, 0, none⟩), .int .i64 0]) ∧ NewK w' w3 kb g2 N now fl := by
 obtain ⟨ow, ⟨K, k1, rfl, k3⟩, _⟩ := h.keep
 refine (copy_open k1.close k3).mono ?_
 rintro e w2 ⟨g2, rfl, hm, nw, fw, hw, ho⟩
 rcases hw with ⟨rfl, rfl⟩ | hw
 ·exact ⟨g2, rfl, hm, ho⟩
 ·cases hw
theorem eq_allA (now now' : Int) (fl fl' : Fls) : ∃ r : Bool, (∀ W, (Op.equalIn 10000 85 (.agg (allA now fl)) (.agg (allA now' fl'))).run Try.prog W = .ok r W) ∧ (r = true ↔ allA now fl = allA now' fl') := by
 obtain ⟨r, q1, q2⟩ := allA_eq now now' fl fl'
 refine ⟨r, fun W => ?_, q2⟩
 obtain ⟨s, p1, p2⟩ := eT_all.eq (allF now fl) (allF now' fl') 10000 W (by omega)
 have h := q1 W
 simp only [binOp, Op.equal, Sem.run_bind] at h
 rw [show Op.maxDepth = 10000 from rfl] at h
 unfold allA at h
 unfold allA
 rw [p1] at h
 have : s = r := by simpa using h
 rw [p1, this]
section
variable {P : Program} {ops : Array Oper} {Q : Exit → Act → World → Prop} {md : Region.Mode}
end
def slotv (ops : Array Oper) (i : Nat) (a : Act) : Value := match (ops[i]?).bind (·.dst) with | some d => a.tmps.getD d undef | none => undef
structure FrameOf (ops : Array Oper) (a0 a : Act) : Prop where
 defers : a.defers = a0.defers
 size : a.tmps.size = a0.tmps.size
 rest : ∀ s, ops.all (fun o => o.dst != some s) = true → a.tmps.getD s undef = a0.tmps.getD s undef
section
variable {P : Program} {ops : Array Oper} {Q : Exit → Act → World → Prop}
theorem FrameOf.lit {a0 a : Act} (h : FrameOf ops a0 a) : a = ⟨(ops.toList.filterMap (·.dst)).foldl (fun t s => t.setIfInBounds s (a.tmps.getD s undef)) a0.tmps, a0.defers⟩ := by
 cases a with
 | mk t d =>
  obtain ⟨h1, h2, h3⟩ := h
  simp only at h1 h2 h3
  subst h1
  congr 1
  have key : ∀ (l : List Nat) (t0 : Array Value), (l.foldl (fun t' s => t'.setIfInBounds s (t.getD s undef)) t0).size = t0.size ∧ ∀ s, s < t0.size → (l.foldl (fun t' s => t'.setIfInBounds s (t.getD s undef)) t0).getD s undef = if s ∈ l then t.getD s undef else t0.getD s undef := by
   intro l
   induction l with
   | nil => intro t0; exact ⟨rfl, fun s _ => by simp⟩
   | cons x l ih =>
    intro t0
    obtain ⟨i1, i2⟩ := ih (t0.setIfInBounds x (t.getD x undef))
    refine ⟨by rw [List.foldl_cons, i1]; simp, fun s hs => ?_⟩
    rw [List.foldl_cons, i2 s (by simpa using hs)]
    by_cases hsl : s ∈ l
    ·simp [hsl]
    ·rw [if_neg hsl]
     by_cases hx : x = s
     ·subst hx
      rw [if_pos (List.mem_cons_self ..)]
      simp [hs]
     ·rw [if_neg (by simp [hsl, Ne.symm hx])]
      simp [Array.getElem?_setIfInBounds_ne hx]
  obtain ⟨k1, k2⟩ := key (ops.toList.filterMap (·.dst)) a0.tmps
  apply Array.ext
  ·rw [k1, h2]
  ·intro i hi hi2
   have k3 := k2 i (by omega)
   have e1 : ∀ (u : Array Value) (hu : i < u.size), u.getD i undef = u[i] := fun u hu => by simp [hu]
   rw [e1 _ hi2, e1 _ hi, e1 a0.tmps (by omega)] at k3
   rw [k3]
   by_cases hm : i ∈ ops.toList.filterMap (·.dst)
   ·rw [if_pos hm]
   ·rw [if_neg hm]
    have h4 := h3 i (by
     rw [Array.all_eq_true_iff_forall_mem]
     intro o ho
     have : o.dst ≠ some i := fun e => hm (List.mem_filterMap.2 ⟨o, by simpa using ho, e⟩)
     simpa using this)
    rw [e1 _ hi, e1 a0.tmps (by omega)] at h4
    exact h4
end
section
variable {P : Program} {ops : Array Oper} {Q : Exit → Act → World → Prop}
end
theorem wp_move_op {P : Program} {o : Oper} {a : Act} {w : World} {K : Act → World → Prop} {Q : Exit → Act → World → Prop} (x : Operand) (ho : o.op = .move x) (h : K (a.put o.dst (a.eval x)) w) : o.wp P a w K Q := by
 unfold Oper.wp execOp
 simp only [ho]
 exact h
def regionsOf : Code → List Code
 | .region i o d => [.region i o d]
 | .loop c => regionsOf c
 | .seq a b => regionsOf a ++ regionsOf b
 | .block _ c => regionsOf c
 | .scope c => regionsOf c
 | .cond _ a b => regionsOf a ++ regionsOf b
 | _ => []
def regionNo (c : Code) (n : Nat) : Code := ((regionsOf c).find? fun | .region i _ _ => i == n | _ => false).getD .skip
def factsOkB (ops : Array Oper) (n : Nat) : Bool :=
 ((List.range ops.size).all fun i => match ops[i]? with
  | some o => o.after.all (fun e => !Region.binds .any e || decide (e.on < i)) && o.guard.isNone && (match o.dst with | some d => decide (d < n) | none => true) && ((List.range ops.size).all fun j => j == i || (match ops[j]? with | some o' => o.dst.isNone || o'.dst != o.dst | none => true))
  | none => false)
theorem factsOkB_at {ops : Array Oper} {n : Nat} (h : factsOkB ops n = true) (i : Nat) (o : Oper) (ho : ops[i]? = some o) : (∀ e ∈ o.after, Region.binds .any e = true → e.on < i) ∧ o.guard = none ∧ (∀ d, o.dst = some d → d < n) ∧ ∀ (j : Nat) (o' : Oper) (d : Nat), j ≠ i → ops[j]? = some o' → o.dst = some d → o'.dst ≠ some d := by
 have hi : i < ops.size := (Array.getElem?_eq_some_iff.1 ho).1
 unfold factsOkB at h
 have h := List.all_eq_true.1 h i (List.mem_range.2 hi)
 rw [ho] at h
 simp only [Bool.and_eq_true] at h
 obtain ⟨⟨⟨h1, h2⟩, h3⟩, h4⟩ := h
 refine ⟨fun e he hb => ?_, by simpa using h2, fun d hd => ?_, fun j o' d hj ho' hd e => ?_⟩
 ·have := Array.all_eq_true_iff_forall_mem.1 h1 e he
  rw [hb] at this
  simpa using this
 ·rw [hd] at h3
  simpa using h3
 ·have h4 := List.all_eq_true.1 h4 j (List.mem_range.2 (Array.getElem?_eq_some_iff.1 ho').1)
  rw [ho'] at h4
  simp [hj, hd, e] at h4
theorem ready_doneB {ops : Array Oper} {L : Array Bool} (hL : L.size = ops.size) (hac : ∀ (i : Nat) (o : Oper), ops[i]? = some o → ∀ e ∈ o.after, Region.binds .any e = true → e.on < i) (hr : Region.ready .any ops L = []) : ∀ i, i < ops.size → L.getD i true = true := by
 intro i
 induction i using Nat.strongRecOn with
 | ind i ih =>
  intro hi
  by_cases h : L.getD i true = true
  ·exact h
  ·exfalso
   have hm : i ∈ Region.ready .any ops L := by
    rw [mem_ready]
    refine ⟨by simpa using h, ops[i], Array.getElem?_eq_getElem hi, fun e he hb => ?_⟩
    have h1 := hac i _ (Array.getElem?_eq_getElem hi) e he hb
    have h2 := ih e.on h1 (by omega)
    have h3 : e.on < L.size := by omega
    simpa [h3] using h2
   rw [hr] at hm
   cases hm
section
variable {P : Program} {ops : Array Oper} {Q : Exit → Act → World → Prop}
def maskv (ops : Array Oper) (j : Nat) (a : Act) (k : Nat) : Value := match ops[j]? with
 | some o => if o.after.any (fun e => e.on == k && Region.binds .any e) then slotv ops k a else undef
 | none => undef
end
theorem wp_call_op {P : Program} {o : Oper} {a : Act} {w : World} {K : Act → World → Prop} {Q : Exit → Act → World → Prop} (f : FuncId) (args : Array Operand) (tys : Array TypeId) (hop : o.op = Op.call { callee := Callee.value (Operand.func f), args := args, argTypes := tys })
  (vs : Array Value) (hvs : args.map a.eval = vs) (hcf : ∀ W, (callFunc f vs).run P W = .ok (.enter f vs) W) {C : Ending → World → Prop} (hc : Calls P f vs w C)
  (hK : ∀ e w', C e w' → ∃ v, e = .returned v ∧ K (a.put o.dst v) w') : o.wp P a w K Q := by
 unfold Oper.wp execOp
 simp [go_sem, hop, hvs]
 rw [hcf]
 simp [go_sem]
 refine hc.mono ?_
 intro e w' h
 obtain ⟨v, rfl, hk⟩ := hK e w' h
 exact hk
section
variable {P : Program} {ops : Array Oper} {Q : Exit → Act → World → Prop}
end
section
variable {P : Program} {ops : Array Oper} {Q : Exit → Act → World → Prop}
theorem wpAny_call {n : Nat} {a0 : Act} (c : Nat) (inv : Bool → World → Prop) (stp : World → World → Prop) (F : Nat → Value → (Nat → Value) → World → Prop) (hn : a0.tmps.size = n) (hok : factsOkB ops n = true)
  (hF : ∀ (i : Nat) (v : Value) (s : Nat → Value) (w w' : World), stp w w' → F i v s w → F i v s w')
  (hstep : ∀ (i : Nat) (o : Oper) (a : Act) (w : World) (b : Bool), i ≠ c → ops[i]? = some o → FrameOf ops a0 a → inv b w → (∀ e ∈ o.after, Region.binds .any e = true → F e.on (slotv ops e.on a) (maskv ops e.on a) w) → Oper.wp P o a w (fun a' w' => ∃ v, a' = a.put o.dst v ∧ inv b w' ∧ stp w w' ∧ F i (if o.dst.isSome then v else undef) (maskv ops i a) w') Q)
  (hcall : ∀ (o : Oper) (a : Act) (w : World), ops[c]? = some o → FrameOf ops a0 a → inv false w → (∀ e ∈ o.after, Region.binds .any e = true → F e.on (slotv ops e.on a) (maskv ops e.on a) w) → Oper.wp P o a w (fun a' w' => ∃ v, a' = a.put o.dst v ∧ inv true w' ∧ stp w w' ∧ F c (if o.dst.isSome then v else undef) (maskv ops c a) w') Q)
  (hend : ∀ (a : Act) (w : World), FrameOf ops a0 a → inv true w → (∀ i, i < ops.size → F i (slotv ops i a) (maskv ops i a) w) → Q .normal a w) :
  ∀ (fuel : Nat) (L : Array Bool) (a : Act) (w : World), L.size = ops.size → (List.range ops.size).countP (fun i => !L.getD i true) ≤ fuel → FrameOf ops a0 a → inv (L.getD c true) w → (∀ i, i < ops.size → L.getD i true = true → F i (slotv ops i a) (maskv ops i a) w) →
   (∀ (i : Nat) (o : Oper), ops[i]? = some o → L.getD i true = true → ∀ e ∈ o.after, Region.binds .any e = true → L.getD e.on true = true) → wpAny P .any ops Q fuel L a w := by
 have slot_put : ∀ (i : Nat) (o : Oper) (a : Act) (v : Value), ops[i]? = some o → a.tmps.size = n → slotv ops i (a.put o.dst v) = if o.dst.isSome then v else undef := fun i o a v ho hs => by
  unfold slotv
  rw [ho]
  cases hd : o.dst with
  | none => simp [hd]
  | some d =>
   have := (factsOkB_at hok i o ho).2.2.1 d hd
   simp [hd, Act.put, hs, this]
 have hac : ∀ (i : Nat) (o : Oper), ops[i]? = some o → ∀ e ∈ o.after, Region.binds .any e = true → e.on < i := fun i o ho => (factsOkB_at hok i o ho).1
 have slot_other : ∀ (i j : Nat) (o : Oper) (v : Value) (a : Act), i ≠ j → ops[i]? = some o → slotv ops j (a.put o.dst v) = slotv ops j a := fun i j o v a hij ho => by
  unfold slotv
  cases hoj : ops[j]? with
  | none => rfl
  | some oj =>
   simp only [Option.bind_some]
   cases hdj : oj.dst with
   | none => rfl
   | some d =>
    cases hdi : o.dst with
    | none => rfl
    | some d' =>
     have hne : d' ≠ d := fun e => (factsOkB_at hok i o ho).2.2.2 j _ d' (Ne.symm hij) hoj hdi (by rw [hdj, e])
     simp [Act.put, Array.getElem?_setIfInBounds_ne hne]
 have mask_other : ∀ (i j : Nat) (o : Oper) (v : Value) (a : Act), ops[i]? = some o → (∀ oj, ops[j]? = some oj → ∀ e ∈ oj.after, Region.binds .any e = true → e.on ≠ i) → maskv ops j (a.put o.dst v) = maskv ops j a := fun i j o v a ho hnd => by
  funext k
  unfold maskv
  cases hoj : ops[j]? with
  | none => rfl
  | some oj =>
   simp only
   by_cases hk : oj.after.any (fun e => e.on == k && Region.binds .any e) = true
   ·rw [if_pos hk, if_pos hk]
    obtain ⟨e, he, hb⟩ := Array.any_eq_true'.1 hk
    simp only [Bool.and_eq_true, beq_iff_eq] at hb
    have := hnd oj hoj e he hb.2
    rw [hb.1] at this
    exact slot_other i k o v a (Ne.symm this) ho
   ·rw [if_neg hk, if_neg hk]
 have hput : ∀ (i : Nat) (o : Oper) (v : Value) (a : Act), ops[i]? = some o → FrameOf ops a0 a → FrameOf ops a0 (a.put o.dst v) := fun i o v a ho hG => by
  refine ⟨?_, ?_, fun s hs => ?_⟩
  ·cases hd : o.dst <;> simp [Act.put, hG.defers]
  ·cases hd : o.dst <;> simp [Act.put, hG.size]
  ·have hne := Array.all_eq_true_iff_forall_mem.1 hs o (Array.mem_of_getElem? ho)
   rw [← hG.rest s hs]
   cases hd : o.dst with
   | none => rfl
   | some d =>
    have : d ≠ s := by
     rw [hd] at hne
     simpa using hne
    simp [Act.put, Array.getElem?_setIfInBounds_ne this]
 intro fuel
 have none_left : ∀ (L : Array Bool) (a : Act) (w : World), L.size = ops.size → FrameOf ops a0 a → inv (L.getD c true) w → (∀ i, i < ops.size → L.getD i true = true → F i (slotv ops i a) (maskv ops i a) w) → Region.ready .any ops L = [] → Q .normal a w := fun L a w hL hG hI hf hr => by
  have hct : L.getD c true = true := by
   by_cases hc : c < ops.size
   ·exact ready_doneB hL hac hr c hc
   ·simp [show L.size ≤ c by omega]
  rw [hct] at hI
  exact hend a w hG hI (fun i hi => hf i hi (ready_doneB hL hac hr i hi))
 induction fuel with
 | zero =>
  intro L a w hL hc hG hI hf hcl
  have hr : Region.ready .any ops L = [] := by
   cases hr : Region.ready .any ops L with
   | nil => rfl
   | cons i r =>
    exfalso
    have hm : i ∈ Region.ready .any ops L := by rw [hr]; exact List.mem_cons_self ..
    obtain ⟨h0, o, ho, _⟩ := mem_ready.1 hm
    have h1 : i < ops.size := (Array.getElem?_eq_some_iff.1 ho).1
    have : 0 < (List.range ops.size).countP (fun i => !L.getD i true) := List.countP_pos_iff.2 ⟨i, List.mem_range.2 h1, by rw [h0]; rfl⟩
    omega
  exact ⟨hr, none_left L a w hL hG hI hf hr⟩
 | succ fuel ih =>
  intro L a w hL hc hG hI hf hcl
  refine ⟨none_left L a w hL hG hI hf, fun i hi => ?_⟩
  obtain ⟨h0, o, ho, hall⟩ := mem_ready.1 hi
  have h1 : i < ops.size := (Array.getElem?_eq_some_iff.1 ho).1
  have hlis : ∀ e ∈ o.after, Region.binds .any e = true → e.on < ops.size ∧ L.getD e.on true = true := fun e he hb => by
   have q := hall e he hb
   have q1 := hac i o ho e he hb
   have q2 : e.on < L.size := by omega
   exact ⟨by omega, by simpa [q2] using q⟩
  unfold wpOp
  rw [ho]
  simp only
  rw [if_pos (by simp [Region.wanted, (factsOkB_at hok i o ho).2.1])]
  have hstep' : Oper.wp P o a w (fun a' w' => ∃ v, a' = a.put o.dst v ∧ inv ((L.setIfInBounds i true).getD c true) w' ∧ stp w w' ∧ F i (if o.dst.isSome then v else undef) (maskv ops i a) w') Q := by
   by_cases hic : i = c
   ·subst hic
    rw [h0] at hI
    have hs := hcall o a w ho hG hI (fun e he hb => hf e.on (hlis e he hb).1 (hlis e he hb).2)
    have hset : (L.setIfInBounds i true).getD i true = true := by simp [show i < L.size by omega]
    rw [hset]
    exact hs
   ·rw [getD_set_ne true hic]
    exact hstep i o a w _ hic ho hG hI (fun e he hb => hf e.on (hlis e he hb).1 (hlis e he hb).2)
  refine .inl (Oper.wp_mono (fun a' w' h => ?_) hstep')
  obtain ⟨v, rfl, hI', hst, hfn⟩ := h
  refine ih _ _ _ (by simp [hL]) ?_ (hput i o v a ho hG) hI' (fun j hj hl => ?_) (fun j oj hoj hl e he hb => ?_)
  ·have hiL : i < L.size := by omega
   have key : ∀ (l : List Nat), i ∈ l → l.Nodup → l.countP (fun j => !(L.setIfInBounds i true).getD j true) + 1 ≤ l.countP (fun j => !L.getD j true) := by
    intro l
    induction l with
    | nil => intro h; cases h
    | cons x l ihl =>
     intro hm hn
     have hle : ∀ (l : List Nat), l.countP (fun j => !(L.setIfInBounds i true).getD j true) ≤ l.countP (fun j => !L.getD j true) := fun l => List.countP_mono_left (fun j _ hj => by
      by_cases hij : i = j
      ·subst hij; simp [hiL] at hj
      ·rw [getD_set_ne true hij] at hj; exact hj)
     rw [List.countP_cons, List.countP_cons]
     by_cases hx : x = i
     ·subst hx
      have e1 : (!(L.setIfInBounds x true).getD x true) = false := by simp [hiL]
      have e2 : (!L.getD x true) = true := by rw [h0]; rfl
      rw [e1, e2]
      have := hle l
      simp only [Bool.false_eq_true, if_false, if_true]
      omega
     ·have hm' : i ∈ l := by rcases List.mem_cons.1 hm with q | q; exact absurd q.symm hx; exact q
      have := ihl hm' (List.nodup_cons.1 hn).2
      rw [getD_set_ne true (Ne.symm hx)]
      omega
   have := key _ (List.mem_range.2 h1) List.nodup_range
   omega
  ·by_cases hij : i = j
   ·subst hij
    rw [slot_put i o a v ho (hG.size.trans hn), mask_other i i o v a ho (fun oj hoj e he hb => Nat.ne_of_lt (hac i oj hoj e he hb))]
    exact hfn
   ·rw [getD_set_ne true hij] at hl
    rw [slot_other i j o v a hij ho, mask_other i j o v a ho (fun oj hoj e he hb eq => by
     have := hcl j oj hoj hl e he hb
     rw [eq] at this
     rw [this] at h0
     cases h0)]
    exact hF _ _ _ _ _ hst (hf j hj hl)
  ·by_cases hij : i = j
   ·subst hij
    have hoo : oj = o := Option.some.inj (hoj.symm.trans ho)
    subst hoo
    have q := hlis e he hb
    have hne : i ≠ e.on := fun eq => by have := hac i oj ho e he hb; omega
    rw [getD_set_ne true hne]
    exact q.2
   ·rw [getD_set_ne true hij] at hl
    have q := hcl j oj hoj hl e he hb
    by_cases hie : i = e.on
    ·rw [← hie] at q
     rw [q] at h0
     cases h0
    ·rw [getD_set_ne true hie]
     exact q
theorem wp_region_C {id n : Nat} {a0 : Act} {w : World} (c : Nat) (inv : Bool → World → Prop) (stp : World → World → Prop) (F : Nat → Value → (Nat → Value) → World → Prop) (hm : P.follows .mixedOrders = true) (hn : a0.tmps.size = n) (hok : factsOkB ops n = true)
  (hF : ∀ (i : Nat) (v : Value) (s : Nat → Value) (w w' : World), stp w w' → F i v s w → F i v s w')
  (hstep : ∀ (i : Nat) (o : Oper) (a : Act) (w : World) (b : Bool), i ≠ c → ops[i]? = some o → FrameOf ops a0 a → inv b w → (∀ e ∈ o.after, Region.binds .any e = true → F e.on (slotv ops e.on a) (maskv ops e.on a) w) → Oper.wp P o a w (fun a' w' => ∃ v, a' = a.put o.dst v ∧ inv b w' ∧ stp w w' ∧ F i (if o.dst.isSome then v else undef) (maskv ops i a) w') Q)
  (hcall : ∀ (o : Oper) (a : Act) (w : World), ops[c]? = some o → FrameOf ops a0 a → inv false w → (∀ e ∈ o.after, Region.binds .any e = true → F e.on (slotv ops e.on a) (maskv ops e.on a) w) → Oper.wp P o a w (fun a' w' => ∃ v, a' = a.put o.dst v ∧ inv true w' ∧ stp w w' ∧ F c (if o.dst.isSome then v else undef) (maskv ops c a) w') Q)
  (hend : ∀ (a : Act) (w : World), FrameOf ops a0 a → inv true w → (∀ i, i < ops.size → F i (slotv ops i a) (maskv ops i a) w) → Q .normal a w) (hI : inv false w.drew) (hex : ∃ o, ops[c]? = some o) : (Code.region id ops true).wp P Q a0 w := by
 refine wp_region_any hm (wpAny_call c inv stp F hn hok hF hstep hcall hend _ _ _ _ (by simp) (Nat.le_trans List.countP_le_length (by simp)) ⟨rfl, rfl, fun _ _ => rfl⟩ (by
  obtain ⟨o, ho⟩ := hex
  have hc : c < ops.size := (Array.getElem?_eq_some_iff.1 ho).1
  simpa [hc] using hI) (fun i hi h => ?_) (fun i o ho h => ?_))
 ·simp [hi] at h
 ·have hi : i < ops.size := (Array.getElem?_eq_some_iff.1 ho).1
  simp [hi] at h
end
end Go.Proofs.Ythhibagcpjeihaa
