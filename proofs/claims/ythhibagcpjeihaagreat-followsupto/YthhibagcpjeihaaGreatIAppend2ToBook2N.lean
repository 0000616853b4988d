import Derived.Test.YthhibagcpjeihaaGreatIBaseToMaps
import Derived.Test.YthhibagcpjeihaaGreatIRFactsToRFacts2
import Derived.Test.YthhibagcpjeihaaGreatIPg2ToWr4
import Derived.Deep.DeepCutAuto
import Derived.Deep.MidRow
import Derived.Test.YthhibagcpjeihaaGreatILaw2ToRef32
import Derived.Test.YthhibagcpjeihaaGreatIOpArgsToLaw8
import Derived.Test.YthhibagcpjeihaaGreatISav1ToOpen
import Derived.Test.YthhibagcpjeihaaGreatIRef16ToSwap1
import Derived.Test.YthhibagcpjeihaaGreatIRef13ToRef15
import Derived.Handy
import Derived.Deep.CutBlock
namespace Go.Proofs.YthhibagcpjeihaaGreat
open Go.RowKit
set_option linter.unusedVariables false
set_option linter.unusedSimpArgs false
theorem owns_prefix {w : World} {e : TypeId} {size n m cap g : Nat} {xs news : List Value} (h : w.ownsRow 0 e size (.slice (some ⟨g, 0, none⟩) (n + m) cap) (n + m) (xs ++ news)) (hl : xs.length = n * size) : w.ownsRow 0 e size (.slice (some ⟨g, 0, none⟩) n cap) n xs := by
 rcases h.2 with ⟨h1, _⟩ | ⟨g', cap', cur, hv, hb, hg, hn, hm, hsz, ht⟩
 ·cases h1
 ·injection hv with e1 e2 e3
  injection e1 with e1
  injection e1 with e1
  subst e1 e3
  refine ⟨hl, .inr ⟨g, cap, cur, rfl, Nat.zero_le _, hg, by omega, hm, hsz, ?_⟩⟩
  have : (cur.toList.take ((n + m) * size)).take (n * size) = (xs ++ news).take (n * size) := by rw [ht]
  rw [List.take_take, Nat.min_eq_left (Nat.mul_le_mul_right _ (by omega)), ← hl, List.take_left' rfl] at this
  rw [← hl]
  exact this
theorem run_append_row2 {P : Program} (w : World) (t ty e : TypeId) (i : TypeInfo) (z : Value) (size bytes : Nat) (ht : P.underlying t = some (.slice e)) (hi : P.info? e = some i) (hz : i.zero = some z)
  (hsize : i.size = size) (hby : i.bytes = bytes) (hzs : z.cells.size = size) (hsz : 0 < size)
  (v : Value) (n : Nat) (xs : List Value) (hown : w.ownsRow 0 e size v n xs)
  (x : Value) (m : Nat) (news : List Value) (hx : Reads w x m news) (hl : news.length = m * size) (h1 : ∀ u ∈ news, u.oneCell' = true)
  (h63 : n + m ≤ maxLen) (hbytes : (n + m) * bytes ≤ 140737488355328) :
  ∃ v' w', (Builtin.append_ #[t, t] ty #[v, x]).run P w = .ok v' w' ∧ w'.ownsRow 0 e size v' (n + m) (xs ++ news) ∧ w.grownBy w' v.ownBlock ∧ Stays w v v' ∧ w'.ownsRow 0 e size v n xs ∧ (v'.ownBlock = v.ownBlock ∨ Mod No w w') := by
 have hsame : w.grownBy w v.ownBlock := ⟨rfl, rfl, rfl, Nat.le_refl _, fun _ _ _ => rfl⟩
 rcases hx with ⟨rfl, rfl⟩ | ⟨ad, c, rfl, hc⟩
 ·obtain rfl : news = [] := List.eq_nil_of_length_eq_zero (by simpa using hl)
  refine ⟨v, w, ?_, by simpa using hown, hsame, fun k hk => .inl hk, hown, .inl rfl⟩
  rcases hown.2 with ⟨rfl, rfl⟩ | ⟨g, cap, cur, rfl, _, _, hnc, _⟩
  ·simp [Builtin.append_, run_underlying ht, sizeOf, typeInfo, hi, Builtin.lenOf, Builtin.firstCells, loadCells, loadCellsFrom]
  ·simp [Builtin.append_, run_underlying ht, sizeOf, typeInfo, hi, Builtin.lenOf, Builtin.firstCells, loadCells, loadCellsFrom, hnc, storeCells]
 ·have hown' := hown
  rcases hown.2 with ⟨rfl, rfl⟩ | ⟨g, cap, cur, rfl, _, hg, hnc, hcm, hcs, htake⟩
  ·obtain rfl : xs = [] := List.eq_nil_of_length_eq_zero (by simpa using hown.1)
   obtain ⟨v', w', hr, h2, h3, h4⟩ := run_append_own (P := P) w w.heap.size t ty e i z size bytes ht hi hz hsize hby hzs hsz (.slice none 0 0) 0 [] (World.ownsRow_nil _ _ _ _) ad m c news hl hc h1 h63 hbytes (Nat.le_refl _)
   refine ⟨v', w', hr, ⟨h2.1, ?_⟩, h3, fun k hk => .inr (h2.lt k hk).1, World.ownsRow_nil _ _ _ _, .inr ⟨h3.os, h3.tape, h3.output, h3.size, fun k hk _ => h3.block k hk (by simp [Value.ownBlock])⟩⟩
   rcases h2.2 with h | ⟨g, cap, cur, hv, _, r⟩
   ·exact .inl h
   ·exact .inr ⟨g, cap, cur, hv, Nat.zero_le _, r⟩
  ·by_cases hroom : n + m ≤ cap
   ·subst hsize
    have hfit : n * i.size + news.length ≤ cur.size := by rw [hl, hcs, ← Nat.add_mul]; exact Nat.mul_le_mul_right _ hroom
    have hr := run_append_room (P := P) w t ty e i ht hi g n cap cur hg ad m c news hl hc h1 hroom hfit
    obtain ⟨v', w', hr2, h2, h3, _⟩ := run_append_own (P := P) w 0 t ty e i z i.size bytes ht hi hz rfl hby hzs hsz _ n xs hown ad m c news hl hc h1 h63 hbytes (Nat.zero_le _)
    rw [hr] at hr2
    injection hr2 with e1 e2
    subst e1
    subst e2
    exact ⟨_, _, hr, h2, h3, fun k hk => .inl hk, owns_prefix h2 hown.1, .inl rfl⟩
   ·obtain ⟨v', w', hr, h2, h3⟩ := run_append_arg_grows (P := P) w t ty e i z size bytes ht hi hz hsize hby hzs hsz ⟨g, 0, none⟩ n cap xs hown.1 (hown.cells rfl) ad m c news hl hc (by omega) h63 hbytes
    refine ⟨v', w', hr, ⟨h2.1, ?_⟩, ⟨h3.os, h3.tape, h3.output, h3.size, fun k hk _ => h3.block k hk (by simp)⟩, fun k hk => .inr (h2.lt k hk).1, ?_, .inr ⟨h3.os, h3.tape, h3.output, h3.size, fun k hk _ => h3.block k hk (by simp)⟩⟩
    ·rcases h2.2 with h | ⟨g, cap, cur, hv, _, r⟩
     ·exact .inl h
     ·exact .inr ⟨g, cap, cur, hv, Nat.zero_le _, r⟩
    ·refine ⟨hown.1, .inr ⟨g, cap, cur, rfl, Nat.zero_le _, ?_, hnc, hcm, hcs, htake⟩⟩
     rw [h3.block g (Array.getElem?_eq_some_iff.1 hg).1 (by simp)]
     exact hg
theorem wp_append_row2 {P : Program} {w : World} {o : Oper} {a : Act} {K : Act → World → Prop} {Q : Exit → Act → World → Prop} (s y : Operand) (t : TypeId)
  (ho : o.op = .call { callee := .builtin .append, args := #[s, y], argTypes := #[t, t] })
  (e : TypeId) (i : TypeInfo) (z : Value) (size bytes : Nat) (ht : P.underlying t = some (.slice e)) (hi : P.info? e = some i) (hz : i.zero = some z)
  (hsize : i.size = size) (hby : i.bytes = bytes) (hzs : z.cells.size = size) (hsz : 0 < size)
  (v : Value) (n : Nat) (xs : List Value) (hs : a.eval s = v) (hown : w.ownsRow 0 e size v n xs)
  (x : Value) (m : Nat) (news : List Value) (hx : a.eval y = x) (hr : Reads w x m news) (hl : news.length = m * size) (h1 : ∀ u ∈ news, u.oneCell' = true)
  (h63 : n + m ≤ maxLen) (hbytes : (n + m) * bytes ≤ 140737488355328)
  (h : ∀ v' w', w'.ownsRow 0 e size v' (n + m) (xs ++ news) → w.grownBy w' v.ownBlock → Stays w v v' → w'.ownsRow 0 e size v n xs → (v'.ownBlock = v.ownBlock ∨ Mod No w w') → K (a.put o.dst v') w') : o.wp P a w K Q := by
 obtain ⟨v', w', hr, h2, h3, h4, h5, h6⟩ := run_append_row2 (P := P) w t o.type e i z size bytes ht hi hz hsize hby hzs hsz v n xs hown x m news hr hl h1 h63 hbytes
 unfold Oper.wp execOp
 simp only [ho, resolve, invoke, builtin, Sem.run_bind, Sem.run_pure, Result.andThen_ok, List.map_toArray, List.map_cons, List.map_nil, hs, hx, hr]
 exact h v' w' h2 h3 h4 h5 h6
theorem owns_again {w w' : World} {e : TypeId} {size n m : Nat} {v v' u : Value} {xs news : List Value} (hsz : 0 < size) (hnm : 0 < n + m) (hown : w.ownsRow 0 e size v n xs) (ho : w'.ownsRow 0 e size v' (n + m) (xs ++ news)) (hg : w.grownBy w' v.ownBlock) (hin : v'.ownBlock = v.ownBlock ∨ Mod No w w') (hst : w'.ownsRow 0 e size v n xs)
  (hu : w.ownsRow 0 e size u (n + m) (xs ++ news)) : w'.ownsRow 0 e size u (n + m) (xs ++ news) := by
 rcases hin with hin | hin
 ·by_cases huv : u.ownBlock = v.ownBlock
  ·obtain ⟨h0, h1 | ⟨g, cap, cur, rfl, _, hh, q1, q2, q3, q4⟩⟩ := hu
   ·omega
   ·obtain ⟨k0, k1 | ⟨g2, cap2, cur2, rfl, _, hh2, p1, p2, p3, p4⟩⟩ := ho
    ·omega
    ·have e1 : g2 = g := by
      have := hin.trans huv.symm
      simpa [Value.ownBlock] using this
     subst e1
     have hv : v.ownBlock = some g2 := huv.symm.trans rfl
     obtain ⟨r0, r1 | ⟨g3, cap3, cur3, rfl, _, hh3, _, _, s3, _⟩⟩ := hown
     ·rw [r1.1] at hv; simp [Value.ownBlock] at hv
     ·obtain ⟨t0, t1 | ⟨g4, cap4, cur4, el, _, hh4, _, _, u3, _⟩⟩ := hst
      ·simp at t1
      ·injection el with el1 _ el3
       injection el1 with el1
       injection el1 with el1
       subst el1 el3
       simp [Value.ownBlock] at hv
       subst hv
       rw [hh] at hh3
       injection hh3 with hh3
       injection hh3 with hh3
       subst hh3
       rw [hh2] at hh4
       injection hh4 with hh4
       injection hh4 with hh4
       subst hh4
       have ec : cap2 = cap := Nat.eq_of_mul_eq_mul_right hsz (by omega)
       subst ec
       exact ⟨k0, .inr ⟨g3, cap2, cur2, rfl, Nat.zero_le _, hh2, p1, p2, p3, p4⟩⟩
  ·obtain ⟨h0, h1 | ⟨g, cap, cur, rfl, _, hh, q⟩⟩ := hu
   ·exact ⟨h0, .inl h1⟩
   ·refine ⟨h0, .inr ⟨g, cap, cur, rfl, Nat.zero_le _, ?_, q⟩⟩
    rw [hg.block g (Array.getElem?_eq_some_iff.1 hh).1 huv]
    exact hh
 ·exact hin.owns hu (fun _ _ x => x)
def Sl (T : TypeId) (k : Nat) (W : World) (v : Value) (m : Nat) : Prop := ∃ xs, W.ownsRow 0 T k v m xs
theorem Sl.mod {T : TypeId} {k m : Nat} {W W' : World} {v : Value} {S : Nat → Prop} (h : Sl T k W v m) (hm : Mod S W W') (hs : ∀ g, v.ownBlock = some g → ¬ S g) : Sl T k W' v m := by
 obtain ⟨xs, h⟩ := h
 exact ⟨xs, hm.owns h hs⟩
theorem Sl.slice {T : TypeId} {k m : Nat} {W : World} {v : Value} (h : Sl T k W v m) : ∃ a c, v = .slice a m c := by
 obtain ⟨xs, h⟩ := h
 exact slice_of_owns h
theorem Sl.lt {T : TypeId} {k m : Nat} {W : World} {v : Value} (h : Sl T k W v m) (g : Nat) (hg : v.ownBlock = some g) : g < W.heap.size := by
 obtain ⟨xs, _, h1 | ⟨g', cap, cur, rfl, hb, hh, _⟩⟩ := h
 ·rw [h1.1] at hg; simp [Value.ownBlock] at hg
 ·simp [Value.ownBlock] at hg
  subst hg
  exact Has.lt hh
theorem Sl.block {T : TypeId} {k m : Nat} {W : World} {v : Value} (h : Sl T k W v m) (hm : 0 < m) : ∃ g cap cur, v = .slice (some ⟨g, 0, none⟩) m cap ∧ Has W g cur T ∧ cur.size = cap * k ∧ m ≤ cap := by
 obtain ⟨xs, _, h1 | ⟨g', cap, cur, rfl, hb, hh, h2, h3, h4, _⟩⟩ := h
 ·omega
 ·exact ⟨g', cap, cur, rfl, hh, h4, h2⟩
theorem Sl.owns {T : TypeId} {k m : Nat} {W : World} {v : Value} {g : Nat} (h : Sl T k W v m) (hg : v.ownBlock = some g) : ∃ cap cur, v = .slice (some ⟨g, 0, none⟩) m cap ∧ Has W g cur T ∧ cur.size = cap * k ∧ m ≤ cap ∧ cap ≤ maxLen := by
 obtain ⟨xs, _, h1 | ⟨g', cap, cur, rfl, hb, hh, h2, h3, h4, _⟩⟩ := h
 ·rw [h1.1] at hg; simp [Value.ownBlock] at hg
 ·simp [Value.ownBlock] at hg
  subst hg
  exact ⟨cap, cur, rfl, hh, h4, h2, h3⟩
theorem Sl.mk {T : TypeId} {k m g cap : Nat} {W : World} {cur : Array Value} (hh : Has W g cur T) (h1 : cur.size = cap * k) (h2 : m ≤ cap) (h3 : cap ≤ maxLen) : Sl T k W (.slice (some ⟨g, 0, none⟩) m cap) m := by
 refine ⟨cur.toList.take (m * k), ?_, .inr ⟨g, cap, cur, rfl, Nat.zero_le _, hh, h2, h3, h1, rfl⟩⟩
 rw [List.length_take, Array.length_toList, h1, Nat.min_eq_left (Nat.mul_le_mul_right k h2)]
structure StpB (T : TypeId) (k : Nat) (lg : Option Nat) (W W' : World) : Prop where
 size : W.heap.size ≤ W'.heap.size
 has : ∀ b cs T', Has W b cs T' → some b ≠ lg → Has W' b cs T'
 sl : ∀ v m, Sl T k W v m → Sl T k W' v m
theorem StpB.refl (T : TypeId) (k : Nat) (lg : Option Nat) (W : World) : StpB T k lg W W := ⟨Nat.le_refl _, fun _ _ _ h _ => h, fun _ _ h => h⟩
theorem StpB.alloc (T : TypeId) (k : Nat) (lg : Option Nat) (W : World) (o : Obj) : StpB T k lg W (W.alloc o) :=
 ⟨by simp, fun _ _ _ h _ => h.alloc o, fun v m h => h.mod ((Mod.refl No W).alloc o) (fun _ _ x => x)⟩
theorem StpB.app {T : TypeId} {k n : Nat} {W W' : World} {l : Value} {xs : List Value} (hown : W.ownsRow 0 T k l n xs) (hg : W.grownBy W' l.ownBlock) (hstill : W'.ownsRow 0 T k l n xs) : StpB T k l.ownBlock W W' := by
 refine ⟨hg.size, fun b cs T' h hb => h.grown hg hb, fun v m' h => ?_⟩
 by_cases hv : v.ownBlock = l.ownBlock
 ·cases hl : l.ownBlock with
  | none =>
   obtain ⟨ys, q, h1 | ⟨g', cap, cur, rfl, _⟩⟩ := h
   ·exact ⟨ys, q, .inl h1⟩
   ·rw [hl] at hv; cases hv
  | some g =>
   obtain ⟨cap, cur, rfl, hh, e1, e2, e3⟩ := h.owns (hv.trans hl)
   obtain ⟨cap2, cur2, el, hh2, f1, f2, f3⟩ := Sl.owns ⟨xs, hown⟩ hl
   obtain ⟨cap3, cur3, el3, hh3, g1, g2, g3⟩ := Sl.owns ⟨xs, hstill⟩ hl
   rw [el] at el3
   injection el3 with _ _ e
   subst e
   unfold Has at hh hh2
   rw [hh] at hh2
   injection hh2 with hh2
   injection hh2 with hh2
   subst hh2
   exact Sl.mk hh3 (by omega) e2 e3
 ·obtain ⟨ys, q, h1 | ⟨g', cap, cur, rfl, q1, q2, q3, q4, q5, q6⟩⟩ := h
  ·exact ⟨ys, q, .inl h1⟩
  ·exact ⟨ys, q, .inr ⟨g', cap, cur, rfl, q1, Has.grown q2 hg hv, q3, q4, q5, q6⟩⟩
def Zd (k : Nat) (z : List Value) (W : World) (v : Value) (t : Nat) : Prop := ∀ g, v.ownBlock = some g → ∀ p, p < t → W.rangeAt g (p * k) z
theorem Zd.zero {k : Nat} {z : List Value} {W : World} {v : Value} : Zd k z W v 0 := fun _ _ p hp => absurd hp (Nat.not_lt_zero _)
theorem Zd.store {k : Nat} {z : List Value} {W : World} {v : Value} {t g i : Nat} (h : Zd k z W v t) (hz : z.length = k) (ht : W.there g (i * k) k) : Zd k z (W.setCells g (i * k) z) v t := by
 intro g' hg' p hp
 by_cases hpi : g' = g ∧ p = i
 ·obtain ⟨rfl, rfl⟩ := hpi
  exact World.rangeAt_setCells_same W g' (p * k) z (by rw [hz]; exact ht)
 ·refine World.rangeAt_setCells_apart (h g' hg' p hp) g (i * k) z ?_
  by_cases hgg : g' = g
  ·right
   have hne : p ≠ i := fun e => hpi ⟨hgg, e⟩
   rw [hz]
   rcases Nat.lt_or_gt_of_ne hne with hlt | hlt
   ·left
    have := Nat.mul_le_mul_right k (show p + 1 ≤ i from hlt)
    rw [Nat.add_mul, Nat.one_mul] at this
    exact this
   ·right
    have := Nat.mul_le_mul_right k (show i + 1 ≤ p from hlt)
    rw [Nat.add_mul, Nat.one_mul] at this
    exact this
  ·exact .inl hgg
theorem Zd.more {k : Nat} {z : List Value} {W : World} {v : Value} {g i : Nat} (h : Zd k z W v i) (hz : z.length = k) (hv : v.ownBlock = some g) (ht : W.there g (i * k) k) : Zd k z (W.setCells g (i * k) z) v (i + 1) := by
 intro g' hg' p hp
 by_cases hpi : p < i
 ·exact h.store hz ht g' hg' p hpi
 ·obtain rfl : p = i := by omega
  rw [hv] at hg'
  injection hg' with hg'
  subst hg'
  exact World.rangeAt_setCells_same W g (p * k) z (by rw [hz]; exact ht)
theorem Zd.mod {k t : Nat} {z : List Value} {W W' : World} {v : Value} {S : Nat → Prop} (h : Zd k z W v t) (hm : Mod S W W') (hl : ∀ g, v.ownBlock = some g → g < W.heap.size ∧ ¬ S g) : Zd k z W' v t := fun g hg p hp j u hu => by
 obtain ⟨h1, h2⟩ := hl g hg
 rw [World.cell?_of_block (w := W) (hm.block g h1 h2)]
 exact h g hg p hp j u hu
theorem Has.there {w : World} {b : Nat} {cs : Array Value} {T : TypeId} (h : Has w b cs T) (o n : Nat) (hn : o + n ≤ cs.size) : w.there b o n := fun j hj => by
 refine ⟨?_, h.frozen _⟩
 rw [h.cell, Array.getElem?_eq_getElem (by omega)]
 rfl
structure BkI (T sT zT : TypeId) (k : Nat) (z : List Value) (S : Nat → Prop) (w0 W : World) (zb rb : Nat) (hs : Array Value) (ms : Array Nat) (q i : Nat) : Prop where
 mod : Mod S w0 W
 zbox : Has W zb z.toArray zT
 rbox : Has W rb hs sT
 sl : ∀ (j : Nat) (v : Value) (m : Nat), hs[j]? = some v → ms[j]? = some m → Sl T k W v m ∧ ∀ g, v.ownBlock = some g → g ≠ zb ∧ g ≠ rb ∧ (S g ∨ w0.heap.size ≤ g)
 full : ∀ (j : Nat) (v : Value) (m : Nat), j < q → hs[j]? = some v → ms[j]? = some m → Zd k z W v m
 cur : ∀ v, hs[q]? = some v → Zd k z W v i
theorem BkI.next {T sT zT : TypeId} {k : Nat} {z : List Value} {S : Nat → Prop} {w0 W : World} {zb rb : Nat} {hs : Array Value} {ms : Array Nat} {q i : Nat} (h : BkI T sT zT k z S w0 W zb rb hs ms q i) (hm : ms[q]? = some i) : BkI T sT zT k z S w0 W zb rb hs ms (q + 1) 0 :=
 ⟨h.mod, h.zbox, h.rbox, h.sl, fun j v m hj hv hm' => by
  by_cases e : j < q
  ·exact h.full j v m e hv hm'
  ·obtain rfl : j = q := by omega
   rw [hm] at hm'
   injection hm' with hm'
   subst hm'
   exact h.cur v hv, fun v _ => Zd.zero⟩
theorem BkI.drewN {T sT zT : TypeId} {k : Nat} {z : List Value} {S : Nat → Prop} {w0 W : World} {zb rb : Nat} {hs : Array Value} {ms : Array Nat} {q i : Nat} (h : BkI T sT zT k z S w0 W zb rb hs ms q i) (n : Nat) : BkI T sT zT k z S w0 (W.drewN n) zb rb hs ms q i :=
 ⟨h.mod.drewN n, h.zbox.drewN n, h.rbox.drewN n, fun j v m hv hm => ⟨(h.sl j v m hv hm).1.mod ((Mod.refl No W).drewN n) (fun _ _ x => x), (h.sl j v m hv hm).2⟩, fun j v m hj hv hm g hg p hp => h.full j v m hj hv hm g hg p hp, fun v hv g hg p hp => h.cur v hv g hg p hp⟩
theorem BkI.put {T sT zT : TypeId} {k : Nat} {z : List Value} {S : Nat → Prop} {w0 W : World} {zb rb : Nat} {hs : Array Value} {ms : Array Nat} {q i m g cap : Nat} (h : BkI T sT zT k z S w0 W zb rb hs ms q i) (hz : z.length = k) (hv : hs[q]? = some (.slice (some ⟨g, 0, none⟩) m cap)) (hm : ms[q]? = some m) (hi : i < m) :
  W.there g (i * k) k ∧ BkI T sT zT k z S w0 (W.setCells g (i * k) z) zb rb hs ms q (i + 1) := by
 obtain ⟨s1, s2⟩ := h.sl q _ m hv hm
 obtain ⟨c1, c2, c3⟩ := s2 g rfl
 obtain ⟨cap', cur, e, hh, e1, e2, e3⟩ := s1.owns (g := g) rfl
 have hik : i * k + k ≤ cur.size := by
  have := Nat.mul_le_mul_right k (show i + 1 ≤ cap' by omega)
  rw [Nat.add_mul, Nat.one_mul] at this
  omega
 have ht : W.there g (i * k) k := hh.there _ _ hik
 refine ⟨ht, ⟨Mod.setCells (b := g) c3 z (i * k) W h.mod, ?_, ?_, fun j v m' hv' hm' => ?_, fun j v m' hj hv' hm' => (h.full j v m' hj hv' hm').store hz ht, fun v hv' => ?_⟩⟩
 ·exact (Mod.setCells (S := fun k => k = g) (a := W) (b := g) (.inl rfl) z (i * k) W (Mod.refl _ _)).has h.zbox (fun e => c1 e.symm)
 ·exact (Mod.setCells (S := fun k => k = g) (a := W) (b := g) (.inl rfl) z (i * k) W (Mod.refl _ _)).has h.rbox (fun e => c2 e.symm)
 ·obtain ⟨r1, r2⟩ := h.sl j v m' hv' hm'
  refine ⟨?_, r2⟩
  by_cases hg : v.ownBlock = some g
  ·obtain ⟨cap2, cur2, rfl, hh2, f1, f2, f3⟩ := r1.owns hg
   have := Has.setCells z (i * k) W _ hh2
   exact Sl.mk this (by rw [setAll_size]; exact f1) f2 f3
  ·exact r1.mod (Mod.setCells (S := fun k => k = g) (a := W) (b := g) (.inl rfl) z (i * k) W (Mod.refl _ _)) (fun g' hg' e => hg (by rw [hg', e]))
 ·rw [hv] at hv'
  injection hv' with hv'
  subst hv'
  exact (h.cur _ hv).more hz rfl ht
theorem BkI.weak {T sT zT : TypeId} {k : Nat} {z : List Value} {S : Nat → Prop} {w0 W : World} {zb rb : Nat} {hs : Array Value} {ms : Array Nat} {q i : Nat} (h : BkI T sT zT k z S w0 W zb rb hs ms q (i + 1)) : BkI T sT zT k z S w0 W zb rb hs ms q i :=
 ⟨h.mod, h.zbox, h.rbox, h.sl, h.full, fun v hv g hg p hp => h.cur v hv g hg p (by omega)⟩
open M
set_option maxRecDepth 100000
set_option maxHeartbeats 8000000
theorem maskv_dep {ops : Array Oper} {j k : Nat} {o : Oper} {a : Act} (ho : ops[j]? = some o) (hk : o.after.any (fun e => e.on == k && Region.binds .any e) = true) : maskv ops j a k = slotv ops k a := by
 unfold maskv
 rw [ho]
 simp only
 rw [if_pos hk]
def zVS (I : Int) : Array Value := #[.int .i64 0, .int .i64 0, .int .i64 9, .int .i64 I, .int .i64 0, .int .i64 0]
def hdrS (b : Nat) : Value := .slice (some ⟨b, 0, none⟩) 4 4
structure BkXS (w : World) (F : Nat → Prop) (xv : Value) (ls : List Nat) : Prop where
 row : w.ownsRow 0 60 1 xv ls.length (ls.map hdrS)
 far : ∀ g, xv.ownBlock = some g → ¬ F g
 each : ∀ i (h : i < ls.length), ¬ F ls[i] ∧ xv.ownBlock ≠ some ls[i] ∧ ∃ hs : Array Value, Has w ls[i] hs 61 ∧ hs.size = 4 ∧ ∀ (j : Nat) (v : Value), hs[j]? = some v → ∃ m, Sl 63 6 w v m ∧ Zd 6 (zVS i).toList w v m ∧ m ≤ 1000000 ∧ ∀ g, v.ownBlock = some g → ¬ F g ∧ xv.ownBlock ≠ some g
theorem BkXS.nil (w : World) (F : Nat → Prop) : BkXS w F (.slice none 0 0) [] := ⟨World.ownsRow_nil _ _ _ _, fun g hg => by simp [Value.ownBlock] at hg, fun i h => absurd h (Nat.not_lt_zero _)⟩
theorem BkXS.mod {w w' : World} {F F' : Nat → Prop} {xv : Value} {ls : List Nat} (h : BkXS w F xv ls) (hm : Mod F w w') (hF : ∀ k, k < w.heap.size → F' k → F k) : BkXS w' F' xv ls := by
 have hx := fun g hg => owns_lt h.row g hg
 refine ⟨hm.owns h.row h.far, fun g hg e => h.far g hg (hF g (hx g hg) e), fun i hi => ?_⟩
 obtain ⟨h1, h2, hs, h3, h4, h5⟩ := h.each i hi
 refine ⟨fun e => h1 (hF _ h3.lt e), h2, hs, hm.has h3 h1, h4, fun j v hv => ?_⟩
 obtain ⟨m, q1, q2, q3, q4⟩ := h5 j v hv
 exact ⟨m, q1.mod hm (fun g hg => (q4 g hg).1), q2.mod hm (fun g hg => ⟨q1.lt g hg, (q4 g hg).1⟩), q3, fun g hg => ⟨fun e => (q4 g hg).1 (hF g (q1.lt g hg) e), (q4 g hg).2⟩⟩
theorem BkXS.at {w : World} {F : Nat → Prop} {xv : Value} {ls : List Nat} (h : BkXS w F xv ls) {i : Nat} (hi : i < ls.length) : ∃ ab cap rb, xv = .slice (some ⟨ab, 0, none⟩) ls.length cap ∧ ab < w.heap.size ∧ ls[i]? = some rb ∧ w.cell? ⟨ab, i, none⟩ = some (.slice (some ⟨rb, 0, none⟩) 4 4) := by
 have hr := h.row
 obtain ⟨h0, h1 | ⟨g, cap, cur, hv, _⟩⟩ := h.row
 ·omega
 ·refine ⟨g, cap, ls[i], hv, owns_lt h.row g (by rw [hv]; rfl), List.getElem?_eq_getElem hi, ?_⟩
  have := hr.cells (by rw [hv]; rfl) i (hdrS ls[i]) (by rw [List.getElem?_map, List.getElem?_eq_getElem hi]; rfl)
  rw [Addr.add_mid, Nat.zero_add] at this
  exact this
theorem BkXS.head {w : World} {F : Nat → Prop} {xv : Value} {ls : List Nat} (h : BkXS w F xv ls) {i q rb : Nat} (hrb : ls[i]? = some rb) (hq : q < 4) : ∃ a m c, m ≤ 1000000 ∧ rb < w.heap.size ∧ w.cell? ⟨rb, q, none⟩ = some (.slice a m c) ∧ ∀ j, j < m → ∃ g, a = some ⟨g, 0, none⟩ ∧ g < w.heap.size ∧ w.rangeAt g (j * 6) (zVS i).toList := by
 obtain ⟨hi, e⟩ := List.getElem?_eq_some_iff.1 hrb
 obtain ⟨_, _, hs, h3, h4, h5⟩ := h.each i hi
 rw [e] at h3
 obtain ⟨v, hv⟩ : ∃ v, hs[q]? = some v := ⟨_, Array.getElem?_eq_getElem (by omega)⟩
 obtain ⟨m, q1, q2, q3, _⟩ := h5 q v hv
 obtain ⟨a, c, rfl⟩ := q1.slice
 refine ⟨a, m, c, q3, h3.lt, (h3.cell q).trans hv, fun j hj => ?_⟩
 obtain ⟨g, cap, cur, e, hh, _⟩ := q1.block (by omega)
 injection e with e _ _
 exact ⟨g, e, hh.lt, q2 g (by rw [e]; rfl) j hj⟩
noncomputable def whLoopS (n : Nat) : Code := ((loopsOf (Tryz.f11.body.getD .skip))[n]?).getD .skip
theorem wl3S {w0 : World} {yb ab rb i q m c L cx : Nat} {a : Option Addr} (hx : ∀ W, Mod No w0 W → W.cell? ⟨yb, 1, none⟩ = some (.slice (some ⟨ab, 0, none⟩) L cx) ∧ yb < W.heap.size ∧ W.cell? ⟨ab, i, none⟩ = some (.slice (some ⟨rb, 0, none⟩) 4 4) ∧ ab < W.heap.size ∧ W.cell? ⟨rb, q, none⟩ = some (.slice a m c) ∧ rb < W.heap.size ∧ ∀ j, j < m → ∃ g, a = some ⟨g, 0, none⟩ ∧ g < W.heap.size ∧ W.rangeAt g (j * 6) (zVS i).toList) (hi : i < L) (hL : L ≤ 1099511627776) (hq : q < 4) (hm : m ≤ 1000000) (Q0 : Exit → Act → World → Prop) (sl1 sl2 sl6 sl7 sl8 sl9 sl10 sl11 sl12 sl13 sl14 sl15 sl16 sl17 sl18 sl19 sl20 sl21 sl22 sl23 sl24 sl25 sl26 sl27 sl28 sl29 sl30 sl31 sl32 sl33 sl34 sl35 sl36 sl37 sl38 sl39 sl40 sl41 sl42 sl43 sl44 sl45 sl46 sl47 sl48 sl49 sl50 sl51 sl52 sl53 sl54 sl55 sl56 sl57 sl58 sl59 sl60 sl61 sl62 sl63 sl64 sl65 sl66 sl67 sl68 sl69 sl70 sl71 sl72 sl73 sl74 sl75 sl76 sl77 sl78 sl79 sl80 sl81 sl82 sl83 sl84 sl85 sl86 sl87 sl88 sl89 sl90 sl91 sl92 sl93 sl94 sl95 sl96 sl97 sl98 sl99 sl100 sl101 sl102 sl103 sl104 sl105 sl106 sl107 sl108 sl109 sl110 sl111 sl112 sl113 sl114 sl115 sl116 sl117 sl118 sl119 sl120 sl121 sl122 sl123 sl124 sl125 sl126 sl127 sl128 sl129 sl130 sl131 sl132 sl133 sl134 sl135 sl136 sl137 sl138 sl139 sl140 sl141 sl142 sl143 sl144 sl145 sl146 sl147 sl148 sl149 sl150 sl151 sl152 sl153 : Value)
  (hexit : ∀ (x2 x5 x6 x32 x33 x34 x35 x36 x37 x38 x39 x40 x41 x42 x43 x44 x45 x46 x47 x48 x49 x50 x51 x52 x53 x54 x55 x56 x57 x58 x59 x60 x61 x62 x63 x64 x65 x66 x67 x68 x69 x70 x71 x72 x73 x74 x75 x76 x77 x78 x79 x80 x81 x82 x83 x84 x85 x86 x87 x88 x89 x90 : Value) (W : World), Hid (Mod No w0 W) → Q0 (.exit 4) ⟨#[.pointer (some ⟨yb, 1, none⟩), sl1, x2, .int .i64 (i : Int), .int .i64 (q : Int), x5, x6, sl7, sl8, sl9, sl10, sl11, sl12, sl13, sl14, sl15, sl16, sl17, sl18, sl19, sl20, sl21, sl22, sl23, sl24, sl25, sl26, sl27, sl28, sl29, sl30, sl31, x32, x33, x34, x35, x36, x37, x38, x39, x40, x41, x42, x43, x44, x45, x46, x47, x48, x49, x50, x51, x52, x53, x54, x55, x56, x57, x58, x59, x60, x61, x62, x63, x64, x65, x66, x67, x68, x69, x70, x71, x72, x73, x74, x75, x76, x77, x78, x79, x80, x81, x82, x83, x84, x85, x86, x87, x88, x89, x90, sl91, sl92, sl93, sl94, sl95, sl96, sl97, sl98, sl99, sl100, sl101, sl102, sl103, sl104, sl105, sl106, sl107, sl108, sl109, sl110, sl111, sl112, sl113, sl114, sl115, sl116, sl117, sl118, sl119, sl120, sl121, sl122, sl123, sl124, sl125, sl126, sl127, sl128, sl129, sl130, sl131, sl132, sl133, sl134, sl135, sl136, sl137, sl138, sl139, sl140, sl141, sl142, sl143, sl144, sl145, sl146, sl147, sl148, sl149, sl150, sl151, sl152, sl153], []⟩ W) :
  Code.wp Tryz.prog (whLoopS 2) Q0 ⟨#[.pointer (some ⟨yb, 1, none⟩), sl1, sl2, .int .i64 (i : Int), .int .i64 (q : Int), .int .i64 0, sl6, sl7, sl8, sl9, sl10, sl11, sl12, sl13, sl14, sl15, sl16, sl17, sl18, sl19, sl20, sl21, sl22, sl23, sl24, sl25, sl26, sl27, sl28, sl29, sl30, sl31, sl32, sl33, sl34, sl35, sl36, sl37, sl38, sl39, sl40, sl41, sl42, sl43, sl44, sl45, sl46, sl47, sl48, sl49, sl50, sl51, sl52, sl53, sl54, sl55, sl56, sl57, sl58, sl59, sl60, sl61, sl62, sl63, sl64, sl65, sl66, sl67, sl68, sl69, sl70, sl71, sl72, sl73, sl74, sl75, sl76, sl77, sl78, sl79, sl80, sl81, sl82, sl83, sl84, sl85, sl86, sl87, sl88, sl89, sl90, sl91, sl92, sl93, sl94, sl95, sl96, sl97, sl98, sl99, sl100, sl101, sl102, sl103, sl104, sl105, sl106, sl107, sl108, sl109, sl110, sl111, sl112, sl113, sl114, sl115, sl116, sl117, sl118, sl119, sl120, sl121, sl122, sl123, sl124, sl125, sl126, sl127, sl128, sl129, sl130, sl131, sl132, sl133, sl134, sl135, sl136, sl137, sl138, sl139, sl140, sl141, sl142, sl143, sl144, sl145, sl146, sl147, sl148, sl149, sl150, sl151, sl152, sl153], []⟩ w0 := by
 conv => arg 4; dsimp only
 conv => arg 2; whnf
 have HEX := hide hexit
 clear hexit
 have HX := hide hx
 have HL := hide hL
 have i0 : (0 : Int) ≤ i := by omega
 have iL : (i : Int) < (L : Int) := by omega
 have q0 : (0 : Int) ≤ q := by omega
 have q4 : (q : Int) < 4 := by omega
 have HM := hide hm
 clear hx hL hi hq hm
 go_loopw [5] (fun s wx => ∃ j : Nat, s = .int .i64 (j : Int) ∧ j ≤ m ∧ Hid (Mod No w0 wx)) (fun s _ => m - (intOf s).toNat)
 case atStart => exact ⟨0, rfl, by omega, Mod.refl _ _⟩
 case round =>
  obtain ⟨j, rfl, hj, M1⟩ := hrel
  obtain ⟨c1, l1, c2, l2, c3, l3, hz⟩ := (unhide HX) wr (unhide M1)
  have hm := unhide HM
  by_cases hjm : j < m
  ·have hji : (j : Int) < (m : Int) := by omega
   have hj0 : (0 : Int) ≤ j := by omega
   have hj1 : IntKind.i64.wrap ((j : Int) + 1) = ((j + 1 : Nat) : Int) := by rw [wrap_id _ (by omega) (by omega)]; rfl
   obtain ⟨g, rfl, hg, hr⟩ := hz j hjm
   have z0 : wr.cell? ⟨g, j * 6, none⟩ = some (.int .i64 0) := hr 0 _ rfl
   have z1 : wr.cell? ⟨g, j * 6 + 1, none⟩ = some (.int .i64 0) := hr 1 _ rfl
   have z2 : wr.cell? ⟨g, j * 6 + 2, none⟩ = some (.int .i64 9) := hr 2 _ rfl
   have z3 : wr.cell? ⟨g, j * 6 + 3, none⟩ = some (.int .i64 (i : Int)) := hr 3 _ rfl
   have z4 : wr.cell? ⟨g, j * 6 + 4, none⟩ = some (.int .i64 0) := hr 4 _ rfl
   have z5 : wr.cell? ⟨g, j * 6 + 5, none⟩ = some (.int .i64 0) := hr 5 _ rfl
   clear hz hr
   have M2 := hide ((unhide M1).alloc (.cells (zVS i) 63))
   unfold zVS at M2
   go_wp2
   exact ⟨⟨j + 1, rfl, by omega, M2⟩, by simp [intOf]; omega⟩
  ·have hji : ¬ (j : Int) < (m : Int) := by omega
   clear hz
   go_wp2
   exact (unhide HEX) _ _ _ _ _ _ _ _ _ _ _ _ _ _ _ _ _ _ _ _ _ _ _ _ _ _ _ _ _ _ _ _ _ _ _ _ _ _ _ _ _ _ _ _ _ _ _ _ _ _ _ _ _ _ _ _ _ _ _ _ _ _ _ M1
theorem wl2S {w0 : World} {yb i : Nat} {F : Nat → Prop} {xv : Value} {ls : List Nat} {av bv lv : Value} (hx : BkXS w0 F xv ls) (hy : w0.cell? ⟨yb, 1, none⟩ = some xv) (hyl : yb < w0.heap.size) (hi : i < ls.length) (hL : ls.length ≤ 1099511627776) (Q0 : Exit → Act → World → Prop) (sl1 sl2 sl5 sl6 sl7 sl8 sl9 sl10 sl11 sl12 sl13 sl14 sl15 sl16 sl17 sl18 sl19 sl20 sl21 sl22 sl23 sl24 sl25 sl26 sl27 sl28 sl29 sl30 sl31 sl32 sl33 sl34 sl35 sl36 sl37 sl38 sl39 sl40 sl41 sl42 sl43 sl44 sl45 sl46 sl47 sl48 sl49 sl50 sl51 sl52 sl53 sl54 sl55 sl56 sl57 sl58 sl59 sl60 sl61 sl62 sl63 sl64 sl65 sl66 sl67 sl68 sl69 sl70 sl71 sl72 sl73 sl74 sl75 sl76 sl77 sl78 sl79 sl80 sl81 sl82 sl83 sl84 sl85 sl86 sl87 sl88 sl89 sl90 sl91 sl92 sl93 sl94 sl95 sl96 sl97 sl98 sl99 sl100 sl101 sl102 sl103 sl104 sl105 sl106 sl107 sl108 sl109 sl110 sl111 sl112 sl113 sl114 sl115 sl116 sl117 sl118 sl119 sl120 sl121 sl122 sl123 sl124 sl125 sl126 sl127 sl128 sl129 sl130 sl131 sl132 sl133 sl134 sl135 sl136 sl137 sl138 sl139 sl140 sl141 sl142 sl143 sl144 sl145 sl146 sl147 sl148 sl149 sl150 sl151 sl152 sl153 : Value)
  (hexit : ∀ (x2 x4 x5 x6 x20 x21 x22 x23 x24 x25 x26 x27 x28 x29 x30 x31 x32 x33 x34 x35 x36 x37 x38 x39 x40 x41 x42 x43 x44 x45 x46 x47 x48 x49 x50 x51 x52 x53 x54 x55 x56 x57 x58 x59 x60 x61 x62 x63 x64 x65 x66 x67 x68 x69 x70 x71 x72 x73 x74 x75 x76 x77 x78 x79 x80 x81 x82 x83 x84 x85 x86 x87 x88 x89 x90 : Value) (W : World), Hid (Mod No w0 W) → Q0 (.exit 2) ⟨#[.pointer (some ⟨yb, 1, none⟩), sl1, x2, .int .i64 (i : Int), x4, x5, x6, sl7, sl8, sl9, sl10, sl11, sl12, sl13, sl14, sl15, sl16, sl17, sl18, sl19, x20, x21, x22, x23, x24, x25, x26, x27, x28, x29, x30, x31, x32, x33, x34, x35, x36, x37, x38, x39, x40, x41, x42, x43, x44, x45, x46, x47, x48, x49, x50, x51, x52, x53, x54, x55, x56, x57, x58, x59, x60, x61, x62, x63, x64, x65, x66, x67, x68, x69, x70, x71, x72, x73, x74, x75, x76, x77, x78, x79, x80, x81, x82, x83, x84, x85, x86, x87, x88, x89, x90, sl91, sl92, sl93, sl94, sl95, sl96, sl97, sl98, sl99, sl100, sl101, sl102, sl103, sl104, sl105, sl106, sl107, sl108, sl109, sl110, sl111, sl112, sl113, sl114, sl115, sl116, sl117, sl118, sl119, sl120, sl121, sl122, sl123, sl124, sl125, sl126, sl127, sl128, sl129, sl130, sl131, sl132, sl133, sl134, sl135, sl136, sl137, sl138, sl139, sl140, sl141, sl142, sl143, sl144, sl145, sl146, sl147, sl148, sl149, sl150, sl151, sl152, sl153], []⟩ W) :
  Code.wp Tryz.prog (whLoopS 1) Q0 ⟨#[.pointer (some ⟨yb, 1, none⟩), sl1, sl2, .int .i64 (i : Int), .int .i64 0, sl5, sl6, sl7, sl8, sl9, sl10, sl11, sl12, sl13, sl14, sl15, sl16, sl17, sl18, sl19, sl20, sl21, sl22, sl23, sl24, sl25, sl26, sl27, sl28, sl29, sl30, sl31, sl32, sl33, sl34, sl35, sl36, sl37, sl38, sl39, sl40, sl41, sl42, sl43, sl44, sl45, sl46, sl47, sl48, sl49, sl50, sl51, sl52, sl53, sl54, sl55, sl56, sl57, sl58, sl59, sl60, sl61, sl62, sl63, sl64, sl65, sl66, sl67, sl68, sl69, sl70, sl71, sl72, sl73, sl74, sl75, sl76, sl77, sl78, sl79, sl80, sl81, sl82, sl83, sl84, sl85, sl86, sl87, sl88, sl89, sl90, sl91, sl92, sl93, sl94, sl95, sl96, sl97, sl98, sl99, sl100, sl101, sl102, sl103, sl104, sl105, sl106, sl107, sl108, sl109, sl110, sl111, sl112, sl113, sl114, sl115, sl116, sl117, sl118, sl119, sl120, sl121, sl122, sl123, sl124, sl125, sl126, sl127, sl128, sl129, sl130, sl131, sl132, sl133, sl134, sl135, sl136, sl137, sl138, sl139, sl140, sl141, sl142, sl143, sl144, sl145, sl146, sl147, sl148, sl149, sl150, sl151, sl152, sl153], []⟩ w0 := by
 conv => arg 4; dsimp only
 conv => arg 2; whnf
 have HEX := hide hexit
 clear hexit
 have HXX := hide hx
 have HY := hide hy
 have HYL := hide hyl
 have HI := hide hi
 have HL := hide hL
 obtain ⟨ab, cx, rb, rfl, hab, hrb, hc2⟩ := hx.at hi
 have HRB := hide hrb
 have HC2 := hide hc2
 have HAB := hide hab
 have i0 : (0 : Int) ≤ i := by omega
 have iL : (i : Int) < (ls.length : Int) := by omega
 clear hx hy hyl hc2 hab hL hrb
 go_loopw [4] (fun s wx => ∃ q : Nat, s = .int .i64 (q : Int) ∧ q ≤ 4 ∧ Hid (Mod No w0 wx)) (fun s _ => 4 - (intOf s).toNat)
 case atStart => exact ⟨0, rfl, by omega, Mod.refl _ _⟩
 case round =>
  obtain ⟨q, rfl, hq, M1⟩ := hrel
  have c1 : wr.cell? ⟨yb, 1, none⟩ = some (.slice (some ⟨ab, 0, none⟩) ls.length cx) := mod_cell0 (unhide M1) (unhide HY)
  have l1 := Nat.lt_of_lt_of_le (unhide HYL) (unhide M1).size
  have c2 := mod_cell0 (unhide M1) (unhide HC2)
  have l2 := Nat.lt_of_lt_of_le (unhide HAB) (unhide M1).size
  by_cases hq4 : q < 4
  ·have hqi : (q : Int) < 4 := by omega
   have hq0 : (0 : Int) ≤ q := by omega
   have hq1 : IntKind.i64.wrap ((q : Int) + 1) = ((q + 1 : Nat) : Int) := by rw [wrap_id _ (by omega) (by omega)]; rfl
   obtain ⟨a, m, c, hm, hrl, hc3, hz⟩ := (unhide HXX).head (unhide HRB) hq4
   have HX3 := hide (fun (W : World) (hW : Mod No wr W) => (show W.cell? ⟨yb, 1, none⟩ = some (.slice (some ⟨ab, 0, none⟩) ls.length cx) ∧ yb < W.heap.size ∧ W.cell? ⟨ab, i, none⟩ = some (.slice (some ⟨rb, 0, none⟩) 4 4) ∧ ab < W.heap.size ∧ W.cell? ⟨rb, q, none⟩ = some (.slice a m c) ∧ rb < W.heap.size ∧ ∀ j, j < m → ∃ g, a = some ⟨g, 0, none⟩ ∧ g < W.heap.size ∧ W.rangeAt g (j * 6) (zVS i).toList from by
    have hM := (unhide M1).trans hW
    refine ⟨mod_cell0 hM (unhide HY), Nat.lt_of_lt_of_le (unhide HYL) hM.size, mod_cell0 hM (unhide HC2), Nat.lt_of_lt_of_le (unhide HAB) hM.size, mod_cell0 hM hc3, Nat.lt_of_lt_of_le hrl hM.size, fun j hj => ?_⟩
    obtain ⟨g, e1, e2, e3⟩ := hz j hj
    exact ⟨g, e1, Nat.lt_of_lt_of_le e2 hM.size, mod_range0 hM e3⟩))
   have HM := hide hm
   clear hc3 hz hrl hm
   go_upto_block 4 with fail
   refine wp_block ?_
   refine wl3S (unhide HX3) (unhide HI) (unhide HL) hq4 (unhide HM) _ _ _ _ _ _ _ _ _ _ _ _ _ _ _ _ _ _ _ _ _ _ _ _ _ _ _ _ _ _ _ _ _ _ _ _ _ _ _ _ _ _ _ _ _ _ _ _ _ _ _ _ _ _ _ _ _ _ _ _ _ _ _ _ _ _ _ _ _ _ _ _ _ _ _ _ _ _ _ _ _ _ _ _ _ _ _ _ _ _ _ _ _ _ _ _ _ _ _ _ _ _ _ _ _ _ _ _ _ _ _ _ _ _ _ _ _ _ _ _ _ _ _ _ _ _ _ _ _ _ _ _ _ _ _ _ _ _ _ _ _ _ _ _ _ _ _ _ _ _ _ ?_
   intro x2 x5 x6 x32 x33 x34 x35 x36 x37 x38 x39 x40 x41 x42 x43 x44 x45 x46 x47 x48 x49 x50 x51 x52 x53 x54 x55 x56 x57 x58 x59 x60 x61 x62 x63 x64 x65 x66 x67 x68 x69 x70 x71 x72 x73 x74 x75 x76 x77 x78 x79 x80 x81 x82 x83 x84 x85 x86 x87 x88 x89 x90 W3 M3
   have M4 := hide ((unhide M1).trans (unhide M3))
   clear c1 l1 c2 l2 HX3
   go_wp2
   exact ⟨⟨q + 1, rfl, by omega, M4⟩, by simp [intOf]; omega⟩
  ·have hqi : ¬ (q : Int) < 4 := by omega
   go_wp2
   exact (unhide HEX) _ _ _ _ _ _ _ _ _ _ _ _ _ _ _ _ _ _ _ _ _ _ _ _ _ _ _ _ _ _ _ _ _ _ _ _ _ _ _ _ _ _ _ _ _ _ _ _ _ _ _ _ _ _ _ _ _ _ _ _ _ _ _ _ _ _ _ _ _ _ _ _ _ _ _ _ M1
theorem wl1S {w0 : World} {yb : Nat} {F : Nat → Prop} {xv : Value} {ls : List Nat} (hx : BkXS w0 F xv ls) (hy : w0.cell? ⟨yb, 1, none⟩ = some xv) (hyl : yb < w0.heap.size) (hL : ls.length ≤ 1099511627776) (Q0 : Exit → Act → World → Prop) (sl1 sl2 sl4 sl5 sl6 sl7 sl8 sl9 sl10 sl11 sl12 sl13 sl14 sl15 sl16 sl17 sl18 sl19 sl20 sl21 sl22 sl23 sl24 sl25 sl26 sl27 sl28 sl29 sl30 sl31 sl32 sl33 sl34 sl35 sl36 sl37 sl38 sl39 sl40 sl41 sl42 sl43 sl44 sl45 sl46 sl47 sl48 sl49 sl50 sl51 sl52 sl53 sl54 sl55 sl56 sl57 sl58 sl59 sl60 sl61 sl62 sl63 sl64 sl65 sl66 sl67 sl68 sl69 sl70 sl71 sl72 sl73 sl74 sl75 sl76 sl77 sl78 sl79 sl80 sl81 sl82 sl83 sl84 sl85 sl86 sl87 sl88 sl89 sl90 sl91 sl92 sl93 sl94 sl95 sl96 sl97 sl98 sl99 sl100 sl101 sl102 sl103 sl104 sl105 sl106 sl107 sl108 sl109 sl110 sl111 sl112 sl113 sl114 sl115 sl116 sl117 sl118 sl119 sl120 sl121 sl122 sl123 sl124 sl125 sl126 sl127 sl128 sl129 sl130 sl131 sl132 sl133 sl134 sl135 sl136 sl137 sl138 sl139 sl140 sl141 sl142 sl143 sl144 sl145 sl146 sl147 sl148 sl149 sl150 sl151 sl152 sl153 : Value)
  (hexit : ∀ (x2 x3 x4 x5 x6 x11 x12 x13 x14 x15 x16 x17 x18 x19 x20 x21 x22 x23 x24 x25 x26 x27 x28 x29 x30 x31 x32 x33 x34 x35 x36 x37 x38 x39 x40 x41 x42 x43 x44 x45 x46 x47 x48 x49 x50 x51 x52 x53 x54 x55 x56 x57 x58 x59 x60 x61 x62 x63 x64 x65 x66 x67 x68 x69 x70 x71 x72 x73 x74 x75 x76 x77 x78 x79 x80 x81 x82 x83 x84 x85 x86 x87 x88 x89 x90 : Value) (W : World), Hid (Mod No w0 W) → Q0 (.exit 0) ⟨#[.pointer (some ⟨yb, 1, none⟩), sl1, x2, x3, x4, x5, x6, sl7, sl8, sl9, sl10, x11, x12, x13, x14, x15, x16, x17, x18, x19, x20, x21, x22, x23, x24, x25, x26, x27, x28, x29, x30, x31, x32, x33, x34, x35, x36, x37, x38, x39, x40, x41, x42, x43, x44, x45, x46, x47, x48, x49, x50, x51, x52, x53, x54, x55, x56, x57, x58, x59, x60, x61, x62, x63, x64, x65, x66, x67, x68, x69, x70, x71, x72, x73, x74, x75, x76, x77, x78, x79, x80, x81, x82, x83, x84, x85, x86, x87, x88, x89, x90, sl91, sl92, sl93, sl94, sl95, sl96, sl97, sl98, sl99, sl100, sl101, sl102, sl103, sl104, sl105, sl106, sl107, sl108, sl109, sl110, sl111, sl112, sl113, sl114, sl115, sl116, sl117, sl118, sl119, sl120, sl121, sl122, sl123, sl124, sl125, sl126, sl127, sl128, sl129, sl130, sl131, sl132, sl133, sl134, sl135, sl136, sl137, sl138, sl139, sl140, sl141, sl142, sl143, sl144, sl145, sl146, sl147, sl148, sl149, sl150, sl151, sl152, sl153], []⟩ W) :
  Code.wp Tryz.prog (whLoopS 0) Q0 ⟨#[.pointer (some ⟨yb, 1, none⟩), sl1, sl2, .int .i64 0, sl4, sl5, sl6, sl7, sl8, sl9, sl10, sl11, sl12, sl13, sl14, sl15, sl16, sl17, sl18, sl19, sl20, sl21, sl22, sl23, sl24, sl25, sl26, sl27, sl28, sl29, sl30, sl31, sl32, sl33, sl34, sl35, sl36, sl37, sl38, sl39, sl40, sl41, sl42, sl43, sl44, sl45, sl46, sl47, sl48, sl49, sl50, sl51, sl52, sl53, sl54, sl55, sl56, sl57, sl58, sl59, sl60, sl61, sl62, sl63, sl64, sl65, sl66, sl67, sl68, sl69, sl70, sl71, sl72, sl73, sl74, sl75, sl76, sl77, sl78, sl79, sl80, sl81, sl82, sl83, sl84, sl85, sl86, sl87, sl88, sl89, sl90, sl91, sl92, sl93, sl94, sl95, sl96, sl97, sl98, sl99, sl100, sl101, sl102, sl103, sl104, sl105, sl106, sl107, sl108, sl109, sl110, sl111, sl112, sl113, sl114, sl115, sl116, sl117, sl118, sl119, sl120, sl121, sl122, sl123, sl124, sl125, sl126, sl127, sl128, sl129, sl130, sl131, sl132, sl133, sl134, sl135, sl136, sl137, sl138, sl139, sl140, sl141, sl142, sl143, sl144, sl145, sl146, sl147, sl148, sl149, sl150, sl151, sl152, sl153], []⟩ w0 := by
 conv => arg 4; dsimp only
 conv => arg 2; whnf
 have HEX := hide hexit
 clear hexit
 have HXX := hide hx
 have HY := hide hy
 have HYL := hide hyl
 have HL := hide hL
 obtain ⟨ax, cx, rfl⟩ := slice_of_owns hx.row
 clear hx hy hyl
 go_loopw [3] (fun s wx => ∃ i : Nat, s = .int .i64 (i : Int) ∧ i ≤ ls.length ∧ Hid (Mod No w0 wx)) (fun s _ => ls.length - (intOf s).toNat)
 case atStart => exact ⟨0, rfl, by omega, Mod.refl _ _⟩
 case round =>
  obtain ⟨i, rfl, hi, M1⟩ := hrel
  have c1 : wr.cell? ⟨yb, 1, none⟩ = some (.slice ax ls.length cx) := mod_cell0 (unhide M1) (unhide HY)
  have l1 := Nat.lt_of_lt_of_le (unhide HYL) (unhide M1).size
  by_cases hil : i < ls.length
  ·have hii : (i : Int) < (ls.length : Int) := by omega
   have hi0 : (0 : Int) ≤ i := by omega
   have hi1 : IntKind.i64.wrap ((i : Int) + 1) = ((i + 1 : Nat) : Int) := by rw [wrap_id _ (by omega) (by omega)]; rfl
   have HXM := hide ((unhide HXX).mod (F' := F) ((unhide M1).mono (S' := F) (fun _ _ x => x.elim)) (fun _ _ x => x))
   have C1 := hide c1
   have L1 := hide l1
   have HIL := hide hil
   go_upto_block 2 with fail
   refine wp_block ?_
   refine wl2S (av := undef) (bv := undef) (lv := undef) (unhide HXM) (unhide C1) (unhide L1) (unhide HIL) (unhide HL) _ _ _ _ _ _ _ _ _ _ _ _ _ _ _ _ _ _ _ _ _ _ _ _ _ _ _ _ _ _ _ _ _ _ _ _ _ _ _ _ _ _ _ _ _ _ _ _ _ _ _ _ _ _ _ _ _ _ _ _ _ _ _ _ _ _ _ _ _ _ _ _ _ _ _ _ _ _ _ _ _ _ _ _ _ _ _ _ _ _ _ _ _ _ _ _ _ _ _ _ _ _ _ _ _ _ _ _ _ _ _ _ _ _ _ _ _ _ _ _ _ _ _ _ _ _ _ _ _ _ _ _ _ _ _ _ _ _ _ _ _ _ _ _ _ _ _ _ _ _ _ _ ?_
   intro x2 x4 x5 x6 x20 x21 x22 x23 x24 x25 x26 x27 x28 x29 x30 x31 x32 x33 x34 x35 x36 x37 x38 x39 x40 x41 x42 x43 x44 x45 x46 x47 x48 x49 x50 x51 x52 x53 x54 x55 x56 x57 x58 x59 x60 x61 x62 x63 x64 x65 x66 x67 x68 x69 x70 x71 x72 x73 x74 x75 x76 x77 x78 x79 x80 x81 x82 x83 x84 x85 x86 x87 x88 x89 x90 W3 M3
   have M4 := hide ((unhide M1).trans (unhide M3))
   clear c1 l1 HXM C1 L1
   go_wp2
   exact ⟨⟨i + 1, rfl, by omega, M4⟩, by simp [intOf]; omega⟩
  ·have hii : ¬ (i : Int) < (ls.length : Int) := by omega
   go_wp2
   exact (unhide HEX) _ _ _ _ _ _ _ _ _ _ _ _ _ _ _ _ _ _ _ _ _ _ _ _ _ _ _ _ _ _ _ _ _ _ _ _ _ _ _ _ _ _ _ _ _ _ _ _ _ _ _ _ _ _ _ _ _ _ _ _ _ _ _ _ _ _ _ _ _ _ _ _ _ _ _ _ _ _ _ _ _ _ _ _ _ _ M1
def zVN (I : Int) : Array Value := #[.int .i64 (-9), .int .i64 0, .int .i64 I]
theorem infoEN : (Tryz.prog.info? 68).map (fun i => (i.zero, i.size, i.bytes)) = some (some (.agg #[.int .i64 0, .int .i64 0, .int .i64 0]), 3, 24) := by kernel_rfl
noncomputable def dEN : TypeDesc := (Tryz.prog.underlying 68).getD (.slice 0)
theorem undEN : Tryz.prog.underlying 68 = some dEN := by kernel_rfl
theorem infoRN : (Tryz.prog.info? 65).map (fun i => (i.zero, i.size, i.bytes)) = some (some (.slice none 0 0), 1, 24) := by kernel_rfl
def FAN (w0 : World) (l : Value) (n : Nat) (I : Int) (i : Nat) (v : Value) (W : World) : Prop :=
 match i with
 | 0 | 1 | 5 | 10 => v = l
 | 2 | 6 | 7 | 11 | 12 | 13 => v = .agg (zVN I)
 | 3 => ∃ b, v = .slice (some ⟨b, 0, none⟩) 1 1 ∧ Has W b (zVN I) 68 ∧ w0.heap.size ≤ b
 | 8 => ∃ b, v = .slice (some ⟨b, 0, none⟩) 2 2 ∧ Has W b (zVN I ++ zVN I) 68 ∧ w0.heap.size ≤ b
 | 14 => ∃ b, v = .slice (some ⟨b, 0, none⟩) 3 3 ∧ Has W b (zVN I ++ zVN I ++ zVN I) 68 ∧ w0.heap.size ≤ b
 | 4 => Sl 68 3 W v (n + 1) ∧ ∀ g, v.ownBlock = some g → l.ownBlock = some g ∨ w0.heap.size ≤ g
 | 9 => Sl 68 3 W v (n + 2) ∧ ∀ g, v.ownBlock = some g → l.ownBlock = some g ∨ w0.heap.size ≤ g
 | 15 => Sl 68 3 W v (n + 3) ∧ ∀ g, v.ownBlock = some g → l.ownBlock = some g ∨ w0.heap.size ≤ g
 | 16 | 17 => ∃ b v1 v2 v3, v = .slice (some ⟨b, 0, none⟩) 4 4 ∧ Has W b #[l, v1, v2, v3] 66 ∧ w0.heap.size ≤ b ∧ (Sl 68 3 W v1 (n + 1) ∧ ∀ g, v1.ownBlock = some g → g ≠ b ∧ (l.ownBlock = some g ∨ w0.heap.size ≤ g)) ∧ (Sl 68 3 W v2 (n + 2) ∧ ∀ g, v2.ownBlock = some g → g ≠ b ∧ (l.ownBlock = some g ∨ w0.heap.size ≤ g)) ∧ (Sl 68 3 W v3 (n + 3) ∧ ∀ g, v3.ownBlock = some g → g ≠ b ∧ (l.ownBlock = some g ∨ w0.heap.size ≤ g))
 | _ => True
theorem FAN.stp {w0 : World} {l : Value} {n : Nat} {I : Int} (hl : ∀ g, l.ownBlock = some g → g < w0.heap.size) (i : Nat) (v : Value) (W W' : World) (hs : StpB 68 3 l.ownBlock W W') (h : FAN w0 l n I i v W) : FAN w0 l n I i v W' := by
 have hne : ∀ b, w0.heap.size ≤ b → some b ≠ l.ownBlock := fun b hb e => by have := hl b e.symm; omega
 unfold FAN at h ⊢
 split at h
 all_goals first
  | exact h
  |(obtain ⟨b, h1, h2, h3⟩ := h; exact ⟨b, h1, hs.has _ _ _ h2 (hne b h3), h3⟩)
  |(exact ⟨hs.sl _ _ h.1, h.2⟩)
  |(obtain ⟨b, v1, v2, v3, h1, h2, h3, h4, h5, h6⟩ := h; exact ⟨b, v1, v2, v3, h1, hs.has _ _ _ h2 (hne b h3), h3, ⟨hs.sl _ _ h4.1, h4.2⟩, ⟨hs.sl _ _ h5.1, h5.2⟩, ⟨hs.sl _ _ h6.1, h6.2⟩⟩)
theorem zVN_len (I : Int) : (zVN I).toList.length = 3 := rfl
theorem zVN_one (I : Int) : ∀ u ∈ (zVN I).toList, u.oneCell' = true := by
 intro u hu
 simp [zVN] at hu
 rcases hu with rfl | rfl | rfl <;> rfl
theorem readsN {W : World} {b m : Nat} {cs : Array Value} (h : Has W b cs 68) : Reads W (.slice (some ⟨b, 0, none⟩) m m) m cs.toList :=
 .inr ⟨⟨b, 0, none⟩, m, rfl, fun j u hu => by
  rw [Addr.add_mid, Nat.zero_add, h.cell, ← Array.getElem?_toList]
  exact hu⟩
end Go.Proofs.YthhibagcpjeihaaGreat
