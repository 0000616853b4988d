import Derived.Test.YthhibagcpjeihaaGreatHRef26ToRef30
import Derived.Test.YthhibagcpjeihaaGreatHRef35ToRef39
import Derived.Test.YthhibagcpjeihaaGreatHRef23ToRef28
import Derived.Test.YthhibagcpjeihaaGreatHPTapeToSto1
import Derived.Deep.DeepCutAuto
import Derived.Deep.RegionLawGrows
namespace Go.Proofs.YthhibagcpjeihaaGreat
open Go.RowKit
open M
set_option linter.unusedVariables false
set_option linter.unusedSimpArgs false
set_option maxRecDepth 100000
set_option maxHeartbeats 4000000
theorem OneX.owns' {w : World} {O O' : Nat → Prop} {ob : Nat} {I : OneI} (h : OneX w O ob I) (hO : ∀ k, O k → O' k) (hl : ∀ k, O' k → k < w.heap.size) : OneX w O' ob I := by
 obtain ⟨cls, c1, c2, c3, c4, c5, c6, c7⟩ := h.ex
 exact ⟨h.has, h.keep, h.wor, h.may, h.told, ⟨cls, c1, c2, c3, c4, c5, c6, fun k hk => hO k (c7 k hk)⟩, hl⟩
theorem OneX.kept {w w1 wx : World} {O : Nat → Prop} {ob kb : Nat} {I : OneI} {pt : Nat → Option Nat} {now' : Int} {fl' : Nat → Option (Pla × List Sea)} {K' : KS} (h : OneX w O ob I) (hkb : I.kb = some kb) (hm : Mod No w w1) (hk : KeepT w1 I.okp kb I.now pt I.fl I.K) (hd : DoneT w1 wx I.okp kb pt now' fl' K') (htb : K'.tb = I.K.tb) :
  ∃ okp', OneX wx (grow O w wx) ob { I with okp := okp', now := now', fl := fl', K := K' } ∧ Mod O w wx ∧ (∀ k, w.heap.size ≤ k → k < w1.heap.size → okp' k = 0) ∧ Mod (fun k => I.okp k ≠ 0) w1 wx := by
 obtain ⟨⟨ow', pt', q1, q2, q3⟩, q4⟩ := hd
 obtain ⟨cls, c1, c2, c3, c4, c5, c6, c7⟩ := h.ex
 have hs1 := hm.size
 have hs2 := q4.size
 have hnew : ∀ k, w.heap.size ≤ k → I.okp k = 0 := fun k hk => by
  by_cases e : I.okp k = 0
  ·exact e
  ·have := h.lt k (c7 k (by rw [c2 k e]; omega)); omega
 have hm2 : Mod O w wx := (hm.mono (fun _ _ x => x.elim)).trans (q4.mono (fun k _ x => c7 k (by rw [c2 k x]; omega)))
 have hw1 := h.mod hm (fun _ _ x => x)
 refine ⟨ow', ⟨?_, ?_, ?_, ?_, ?_, ?_, ?_⟩, hm2, fun k h1 h2 => by rw [q2 k h2]; exact hnew k h1, q4⟩
 ·have : oneV { I with okp := ow', now := now', fl := fl', K := K' } = oneV I := by unfold oneV; simp only [htb]
  rw [this]
  exact q4.has hw1.has (fun e => by have := c2 ob e; omega)
 ·refine ⟨fun b hb => ?_, fun hn => ?_⟩
  ·have hb : I.kb = some b := hb
   rw [hkb] at hb
   injection hb with hb
   subst hb
   obtain ⟨_, hf⟩ := hw1.keep.some kb hkb
   have hfs := fol_same hk.keep.has q1.keep.has q3
   refine ⟨⟨pt', q1⟩, ⟨fun i hi ht => by rw [hfs i hi]; exact hf.un i hi ht, fun i hi es ht => ?_, fun k hk => ⟨Nat.lt_of_lt_of_le (hf.old k hk).1 hs2, by show ow' k = 0; rw [q2 k (hf.old k hk).1]; exact (hf.old k hk).2⟩⟩⟩
   obtain ⟨m, clock, a1, a2, a3, a4⟩ := hf.is i hi es ht
   exact ⟨m, clock, by rw [hfs i hi]; exact a1, a2, mod_fol q4 a3 (fun e => e (hf.old m (by omega)).2), a4⟩
  ·have hn : I.kb = none := hn
   rw [hkb] at hn; cases hn
 ·exact hw1.wor.mod q4 (fun k hk e => by have := c3 k hk; have := c2 k e; omega)
 ·exact fun M hM => (hw1.may M hM).mod q4 (fun k hk e => by have := c6 M hM k hk; have := c2 k e; omega)
 ·exact hw1.told.mod q4 (fun k hk e => by have := c4 k hk; have := c2 k e; omega)
 ·have hz : ∀ k, cls k ≠ 0 → k < w.heap.size := fun k hk => h.lt k (c7 k hk)
  refine ⟨fun k => if k < w.heap.size then cls k else if ow' k ≠ 0 then 2 else 0, ?_, fun k hk => ?_, fun k hk => ?_, fun k hk => ?_, fun k hk => ?_, fun M hM k hk => ?_, fun k hk => ?_⟩
  ·show (if ob < w.heap.size then cls ob else if ow' ob ≠ 0 then 2 else 0) = 1
   rw [if_pos (hz ob (by omega))]; exact c1
  ·have hk : ow' k ≠ 0 := hk
   show (if k < w.heap.size then cls k else if ow' k ≠ 0 then 2 else 0) = 2
   by_cases e : k < w.heap.size
   ·rw [if_pos e]; rw [q2 k (by omega)] at hk; exact c2 k hk
   ·rw [if_neg e, if_pos hk]
  ·have := c3 k hk; show (if k < w.heap.size then cls k else if ow' k ≠ 0 then 2 else 0) = 3; rw [if_pos (hz k (by omega))]; exact this
  ·have := c4 k hk; show (if k < w.heap.size then cls k else if ow' k ≠ 0 then 2 else 0) = 4; rw [if_pos (hz k (by omega))]; exact this
  ·have := c5 k hk; show (if k < w.heap.size then cls k else if ow' k ≠ 0 then 2 else 0) = 5; rw [if_pos (hz k (by omega))]; exact this
  ·have := c6 M hM k hk; show (if k < w.heap.size then cls k else if ow' k ≠ 0 then 2 else 0) = 6; rw [if_pos (hz k (by omega))]; exact this
  ·have hk : (if k < w.heap.size then cls k else if ow' k ≠ 0 then 2 else 0) ≠ 0 := hk
   by_cases e : k < w.heap.size
   ·rw [if_pos e] at hk; exact .inl (c7 k hk)
   ·rw [if_neg e] at hk
    by_cases e2 : ow' k ≠ 0
    ·exact .inr ⟨by omega, q1.keep.old k e2⟩
    ·rw [if_neg e2] at hk; exact absurd rfl hk
 ·intro k hk
  rcases hk with hk | hk
  ·exact Nat.lt_of_lt_of_le (h.lt k hk) hm2.size
  ·exact hk.2
theorem OneX.turn {w w' : World} {O : Nat → Prop} {ob : Nat} {I I' : OneI} {Wn : WI} (h : OneX w O ob I) (hw : WX w Wn) (hn : ∀ k, Wn.ow k ≠ 0 → ¬ O k) (hm : Mod (fun k => k = ob) w w') (hh : Has w' ob (oneV I') 55)
  (e1 : I'.kb = I.kb ∧ I'.okp = I.okp ∧ I'.om = I.om ∧ I'.now = I.now ∧ I'.fl = I.fl ∧ I'.K = I.K ∧ I'.tl = I.tl) (e2 : I'.owt = I.owt ∧ I'.tob = I.tob ∧ I'.vs = I.vs ∧ I'.ns = I.ns ∧ I'.bs = I.bs) (e3 : (I'.W = Wn ∧ I'.mb = I.mb) ∨ (I'.W = I.W ∧ I'.mb = some Wn)) :
  OneX w' (fun k => O k ∨ Wn.ow k ≠ 0) ob I' := by
 obtain ⟨cls, c1, c2, c3, c4, c5, c6, c7⟩ := h.ex
 obtain ⟨a1, a2, a3, a4, a5, a6, a7⟩ := e1
 obtain ⟨b1, b2, b3, b4, b5⟩ := e2
 have g : ∀ k n, cls k = n → n ≠ 0 → n ≠ 1 → ¬ k = ob := fun k n e h0 h1 q => by rw [q, c1] at e; omega
 have hob : O ob := c7 ob (by omega)
 have hwn : WX w' Wn := hw.mod hm (fun k hk e => by subst e; exact hn k hk hob)
 have g2 : ∀ k, cls k ≠ 0 → Wn.ow k = 0 := fun k hk => by
  by_cases e : Wn.ow k = 0
  ·exact e
  ·exact absurd (c7 k hk) (hn k e)
 refine ⟨hh, ?_, ?_, ?_, ?_, ?_, ?_⟩
 ·rw [a1, a2, a3, a4, a5, a6, a7]
  exact h.keep.mod hm (fun k hk => g k _ (c2 k hk) (by omega) (by omega)) (fun k hk => g k _ (c5 k hk) (by omega) (by omega))
 ·rcases e3 with ⟨e, _⟩ | ⟨e, _⟩
  ·rw [e]; exact hwn
  ·rw [e]; exact h.wor.mod hm (fun k hk => g k _ (c3 k hk) (by omega) (by omega))
 ·intro M hM
  rcases e3 with ⟨_, e⟩ | ⟨_, e⟩
  ·rw [e] at hM; exact (h.may M hM).mod hm (fun k hk => g k _ (c6 M hM k hk) (by omega) (by omega))
  ·rw [e] at hM; injection hM with hM; rw [← hM]; exact hwn
 ·rw [b1, b2, b3, b4, b5]
  exact h.told.mod hm (fun k hk => g k _ (c4 k hk) (by omega) (by omega))
 ·refine ⟨fun k => if Wn.ow k ≠ 0 then (if I'.W.ow k ≠ 0 then 3 else 6) else cls k, ?_, fun k hk => ?_, fun k hk => ?_, fun k hk => ?_, fun k hk => ?_, fun M hM k hk => ?_, fun k hk => ?_⟩
  ·show (if Wn.ow ob ≠ 0 then (if I'.W.ow ob ≠ 0 then 3 else 6) else cls ob) = 1
   rw [if_neg (by simpa using g2 ob (by omega))]; exact c1
  ·rw [a2] at hk
   have := c2 k hk
   show (if Wn.ow k ≠ 0 then (if I'.W.ow k ≠ 0 then 3 else 6) else cls k) = 2
   rw [if_neg (by simpa using g2 k (by omega))]; exact this
  ·show (if Wn.ow k ≠ 0 then (if I'.W.ow k ≠ 0 then 3 else 6) else cls k) = 3
   by_cases e : Wn.ow k ≠ 0
   ·rw [if_pos e, if_pos hk]
   ·rw [if_neg e]
    rcases e3 with ⟨q, _⟩ | ⟨q, _⟩
    ·rw [q] at hk; exact absurd hk e
    ·rw [q] at hk; exact c3 k hk
  ·rw [b1] at hk
   have := c4 k hk
   show (if Wn.ow k ≠ 0 then (if I'.W.ow k ≠ 0 then 3 else 6) else cls k) = 4
   rw [if_neg (by simpa using g2 k (by omega))]; exact this
  ·rw [a3] at hk
   have := c5 k hk
   show (if Wn.ow k ≠ 0 then (if I'.W.ow k ≠ 0 then 3 else 6) else cls k) = 5
   rw [if_neg (by simpa using g2 k (by omega))]; exact this
  ·show (if Wn.ow k ≠ 0 then (if I'.W.ow k ≠ 0 then 3 else 6) else cls k) = 6
   rcases e3 with ⟨_, q⟩ | ⟨q1, q⟩
   ·rw [q] at hM
    have := c6 M hM k hk
    rw [if_neg (by simpa using g2 k (by omega))]; exact this
   ·rw [q] at hM; injection hM with hM; rw [← hM] at hk
    rw [if_pos hk, q1]
    have : I.W.ow k = 0 := by
     by_cases e : I.W.ow k = 0
     ·exact e
     ·have := g2 k (by rw [c3 k e]; omega); exact absurd this hk
    rw [if_neg (by simpa using this)]
  ·have hk : (if Wn.ow k ≠ 0 then (if I'.W.ow k ≠ 0 then 3 else 6) else cls k) ≠ 0 := hk
   by_cases e : Wn.ow k ≠ 0
   ·exact .inr e
   ·rw [if_neg e] at hk; exact .inl (c7 k hk)
 ·intro k hk
  rcases hk with hk | hk
  ·exact Nat.lt_of_lt_of_le (h.lt k hk) hm.size
  ·exact Nat.lt_of_lt_of_le (hw.wor.old k hk) hm.size
theorem Same.miss {xs : List FR} {fl : Nat → Option (Pla × List Sea)} (h : Same xs fl) (c : Int) (hc : ¬ (1 ≤ c ∧ c ≤ 20)) : findN xs c = -1 := by
 rcases findN_cases xs c with h1 | ⟨i, hi, h1, h2⟩
 ·exact h1
 ·have := h.rng _ (List.getElem_mem hi)
  omega
theorem wleft_all {w : World} {ow : Nat → Nat} {wb : Nat} {v : Value} {xs : List FR} {now : Int} {fl : Nat → Option (Pla × List Sea)} (h : WorR w ow wb v xs now) (hs : Same xs fl) (n c : Int) :
  Calls Tryz.prog 34 #[.pointer (some ⟨wb, 0, none⟩), .int .i64 n, .int .i64 c] w fun e w' => e = .returned (.tuple #[.int .i64 (leftK fl n c).1, .int .i64 (leftK fl n c).2]) ∧ Mod No w w' := by
 unfold leftK
 by_cases hn : 1 ≤ n ∧ n ≤ 20
 case neg =>
  rw [if_pos hn]
  exact wleft_no h n c (hs.miss n hn)
 rw [if_neg (by omega)]
 rcases hs.find n hn with ⟨f1, f2⟩ | ⟨i, hi, f1, f2, f3⟩
 ·rw [f2]
  exact wleft_no h n c f1
 ·rw [f3]
  simp only
  by_cases hc : 0 ≤ c ∧ c < 4
  ·rw [if_neg (by omega), left_ep]
   obtain ⟨gf, cap, rfl⟩ := h.some (by omega)
   have := wleft_yes h n i hi f1 c.toNat (by omega)
   rw [show ((c.toNat : Nat) : Int) = c by omega] at this
   exact this
  ·rw [if_pos hc]
   exact wleft_class h n c i f1 hc
theorem wcount_all {w : World} {ow : Nat → Nat} {wb : Nat} {v : Value} {xs : List FR} {now : Int} {fl : Nat → Option (Pla × List Sea)} (h : WorR w ow wb v xs now) (hs : Same xs fl) (n : Int) :
  Calls Tryz.prog 36 #[.pointer (some ⟨wb, 0, none⟩), .int .i64 n] w fun e w' => e = .returned (.tuple #[.agg (countK fl n).1, .int .i64 (countK fl n).2]) ∧ Mod No w w' := by
 unfold countK
 by_cases hn : 1 ≤ n ∧ n ≤ 20
 case neg =>
  rw [if_pos hn]
  exact wcount_no h n (hs.miss n hn)
 rw [if_neg (by omega)]
 rcases hs.find n hn with ⟨f1, f2⟩ | ⟨i, hi, f1, f2, f3⟩
 ·rw [f2]
  exact wcount_no h n f1
 ·rw [f3]
  obtain ⟨gf, cap, rfl⟩ := h.some (by omega)
  exact wcount_yes h n i hi f1
theorem countK_tF (fl : Nat → Option (Pla × List Sea)) (n : Int) : ∃ a b s : Nat → Int, (countK fl n).1 = tF a b s := by
 unfold countK
 split
 ·exact ⟨fun _ => 0, fun _ => 0, fun _ => 0, rfl⟩
 ·split
  ·exact ⟨fun _ => 0, fun _ => 0, fun _ => 0, rfl⟩
  ·exact ⟨_, _, _, (tF_full _ _).symm⟩
theorem tot_sets {w : World} {g : Nat} (a b s : Nat → Int) (z : Has w g zero51 91) :
  Has ((((((((((((w.setCell ⟨g, 0, none⟩ (.int .i64 (a 0))).setCell ⟨g, 1, none⟩ (.int .i64 (a 1))).setCell ⟨g, 2, none⟩ (.int .i64 (a 2))).setCell ⟨g, 3, none⟩ (.int .i64 (a 3))).setCell ⟨g, 4, none⟩ (.int .i64 (b 0))).setCell ⟨g, 5, none⟩ (.int .i64 (b 1))).setCell ⟨g, 6, none⟩ (.int .i64 (b 2))).setCell ⟨g, 7, none⟩ (.int .i64 (b 3))).setCell ⟨g, 8, none⟩ (.int .i64 (s 0))).setCell ⟨g, 9, none⟩ (.int .i64 (s 1))).setCell ⟨g, 10, none⟩ (.int .i64 (s 2))).setCell ⟨g, 11, none⟩ (.int .i64 (s 3))) g (tF a b s) 91 ∧ Mod (fun k => k = g) w ((((((((((((w.setCell ⟨g, 0, none⟩ (.int .i64 (a 0))).setCell ⟨g, 1, none⟩ (.int .i64 (a 1))).setCell ⟨g, 2, none⟩ (.int .i64 (a 2))).setCell ⟨g, 3, none⟩ (.int .i64 (a 3))).setCell ⟨g, 4, none⟩ (.int .i64 (b 0))).setCell ⟨g, 5, none⟩ (.int .i64 (b 1))).setCell ⟨g, 6, none⟩ (.int .i64 (b 2))).setCell ⟨g, 7, none⟩ (.int .i64 (b 3))).setCell ⟨g, 8, none⟩ (.int .i64 (s 0))).setCell ⟨g, 9, none⟩ (.int .i64 (s 1))).setCell ⟨g, 10, none⟩ (.int .i64 (s 2))).setCell ⟨g, 11, none⟩ (.int .i64 (s 3))) := by
 unfold zero51 at z
 have e0 : Has (w.setCell ⟨g, 0, none⟩ (.int .i64 (a 0))) g #[.int .i64 (a 0), .int .i64 0, .int .i64 0, .int .i64 0, .int .i64 0, .int .i64 0, .int .i64 0, .int .i64 0, .int .i64 0, .int .i64 0, .int .i64 0, .int .i64 0] 91 := z.set 0 _
 have e1 : Has ((w.setCell ⟨g, 0, none⟩ (.int .i64 (a 0))).setCell ⟨g, 1, none⟩ (.int .i64 (a 1))) g #[.int .i64 (a 0), .int .i64 (a 1), .int .i64 0, .int .i64 0, .int .i64 0, .int .i64 0, .int .i64 0, .int .i64 0, .int .i64 0, .int .i64 0, .int .i64 0, .int .i64 0] 91 := e0.set 1 _
 have e2 : Has (((w.setCell ⟨g, 0, none⟩ (.int .i64 (a 0))).setCell ⟨g, 1, none⟩ (.int .i64 (a 1))).setCell ⟨g, 2, none⟩ (.int .i64 (a 2))) g #[.int .i64 (a 0), .int .i64 (a 1), .int .i64 (a 2), .int .i64 0, .int .i64 0, .int .i64 0, .int .i64 0, .int .i64 0, .int .i64 0, .int .i64 0, .int .i64 0, .int .i64 0] 91 := e1.set 2 _
 have e3 : Has ((((w.setCell ⟨g, 0, none⟩ (.int .i64 (a 0))).setCell ⟨g, 1, none⟩ (.int .i64 (a 1))).setCell ⟨g, 2, none⟩ (.int .i64 (a 2))).setCell ⟨g, 3, none⟩ (.int .i64 (a 3))) g #[.int .i64 (a 0), .int .i64 (a 1), .int .i64 (a 2), .int .i64 (a 3), .int .i64 0, .int .i64 0, .int .i64 0, .int .i64 0, .int .i64 0, .int .i64 0, .int .i64 0, .int .i64 0] 91 := e2.set 3 _
 have e4 : Has (((((w.setCell ⟨g, 0, none⟩ (.int .i64 (a 0))).setCell ⟨g, 1, none⟩ (.int .i64 (a 1))).setCell ⟨g, 2, none⟩ (.int .i64 (a 2))).setCell ⟨g, 3, none⟩ (.int .i64 (a 3))).setCell ⟨g, 4, none⟩ (.int .i64 (b 0))) g #[.int .i64 (a 0), .int .i64 (a 1), .int .i64 (a 2), .int .i64 (a 3), .int .i64 (b 0), .int .i64 0, .int .i64 0, .int .i64 0, .int .i64 0, .int .i64 0, .int .i64 0, .int .i64 0] 91 := e3.set 4 _
 have e5 : Has ((((((w.setCell ⟨g, 0, none⟩ (.int .i64 (a 0))).setCell ⟨g, 1, none⟩ (.int .i64 (a 1))).setCell ⟨g, 2, none⟩ (.int .i64 (a 2))).setCell ⟨g, 3, none⟩ (.int .i64 (a 3))).setCell ⟨g, 4, none⟩ (.int .i64 (b 0))).setCell ⟨g, 5, none⟩ (.int .i64 (b 1))) g #[.int .i64 (a 0), .int .i64 (a 1), .int .i64 (a 2), .int .i64 (a 3), .int .i64 (b 0), .int .i64 (b 1), .int .i64 0, .int .i64 0, .int .i64 0, .int .i64 0, .int .i64 0, .int .i64 0] 91 := e4.set 5 _
 have e6 : Has (((((((w.setCell ⟨g, 0, none⟩ (.int .i64 (a 0))).setCell ⟨g, 1, none⟩ (.int .i64 (a 1))).setCell ⟨g, 2, none⟩ (.int .i64 (a 2))).setCell ⟨g, 3, none⟩ (.int .i64 (a 3))).setCell ⟨g, 4, none⟩ (.int .i64 (b 0))).setCell ⟨g, 5, none⟩ (.int .i64 (b 1))).setCell ⟨g, 6, none⟩ (.int .i64 (b 2))) g #[.int .i64 (a 0), .int .i64 (a 1), .int .i64 (a 2), .int .i64 (a 3), .int .i64 (b 0), .int .i64 (b 1), .int .i64 (b 2), .int .i64 0, .int .i64 0, .int .i64 0, .int .i64 0, .int .i64 0] 91 := e5.set 6 _
 have e7 : Has ((((((((w.setCell ⟨g, 0, none⟩ (.int .i64 (a 0))).setCell ⟨g, 1, none⟩ (.int .i64 (a 1))).setCell ⟨g, 2, none⟩ (.int .i64 (a 2))).setCell ⟨g, 3, none⟩ (.int .i64 (a 3))).setCell ⟨g, 4, none⟩ (.int .i64 (b 0))).setCell ⟨g, 5, none⟩ (.int .i64 (b 1))).setCell ⟨g, 6, none⟩ (.int .i64 (b 2))).setCell ⟨g, 7, none⟩ (.int .i64 (b 3))) g #[.int .i64 (a 0), .int .i64 (a 1), .int .i64 (a 2), .int .i64 (a 3), .int .i64 (b 0), .int .i64 (b 1), .int .i64 (b 2), .int .i64 (b 3), .int .i64 0, .int .i64 0, .int .i64 0, .int .i64 0] 91 := e6.set 7 _
 have e8 : Has (((((((((w.setCell ⟨g, 0, none⟩ (.int .i64 (a 0))).setCell ⟨g, 1, none⟩ (.int .i64 (a 1))).setCell ⟨g, 2, none⟩ (.int .i64 (a 2))).setCell ⟨g, 3, none⟩ (.int .i64 (a 3))).setCell ⟨g, 4, none⟩ (.int .i64 (b 0))).setCell ⟨g, 5, none⟩ (.int .i64 (b 1))).setCell ⟨g, 6, none⟩ (.int .i64 (b 2))).setCell ⟨g, 7, none⟩ (.int .i64 (b 3))).setCell ⟨g, 8, none⟩ (.int .i64 (s 0))) g #[.int .i64 (a 0), .int .i64 (a 1), .int .i64 (a 2), .int .i64 (a 3), .int .i64 (b 0), .int .i64 (b 1), .int .i64 (b 2), .int .i64 (b 3), .int .i64 (s 0), .int .i64 0, .int .i64 0, .int .i64 0] 91 := e7.set 8 _
 have e9 : Has ((((((((((w.setCell ⟨g, 0, none⟩ (.int .i64 (a 0))).setCell ⟨g, 1, none⟩ (.int .i64 (a 1))).setCell ⟨g, 2, none⟩ (.int .i64 (a 2))).setCell ⟨g, 3, none⟩ (.int .i64 (a 3))).setCell ⟨g, 4, none⟩ (.int .i64 (b 0))).setCell ⟨g, 5, none⟩ (.int .i64 (b 1))).setCell ⟨g, 6, none⟩ (.int .i64 (b 2))).setCell ⟨g, 7, none⟩ (.int .i64 (b 3))).setCell ⟨g, 8, none⟩ (.int .i64 (s 0))).setCell ⟨g, 9, none⟩ (.int .i64 (s 1))) g #[.int .i64 (a 0), .int .i64 (a 1), .int .i64 (a 2), .int .i64 (a 3), .int .i64 (b 0), .int .i64 (b 1), .int .i64 (b 2), .int .i64 (b 3), .int .i64 (s 0), .int .i64 (s 1), .int .i64 0, .int .i64 0] 91 := e8.set 9 _
 have e10 : Has (((((((((((w.setCell ⟨g, 0, none⟩ (.int .i64 (a 0))).setCell ⟨g, 1, none⟩ (.int .i64 (a 1))).setCell ⟨g, 2, none⟩ (.int .i64 (a 2))).setCell ⟨g, 3, none⟩ (.int .i64 (a 3))).setCell ⟨g, 4, none⟩ (.int .i64 (b 0))).setCell ⟨g, 5, none⟩ (.int .i64 (b 1))).setCell ⟨g, 6, none⟩ (.int .i64 (b 2))).setCell ⟨g, 7, none⟩ (.int .i64 (b 3))).setCell ⟨g, 8, none⟩ (.int .i64 (s 0))).setCell ⟨g, 9, none⟩ (.int .i64 (s 1))).setCell ⟨g, 10, none⟩ (.int .i64 (s 2))) g #[.int .i64 (a 0), .int .i64 (a 1), .int .i64 (a 2), .int .i64 (a 3), .int .i64 (b 0), .int .i64 (b 1), .int .i64 (b 2), .int .i64 (b 3), .int .i64 (s 0), .int .i64 (s 1), .int .i64 (s 2), .int .i64 0] 91 := e9.set 10 _
 have e11 : Has ((((((((((((w.setCell ⟨g, 0, none⟩ (.int .i64 (a 0))).setCell ⟨g, 1, none⟩ (.int .i64 (a 1))).setCell ⟨g, 2, none⟩ (.int .i64 (a 2))).setCell ⟨g, 3, none⟩ (.int .i64 (a 3))).setCell ⟨g, 4, none⟩ (.int .i64 (b 0))).setCell ⟨g, 5, none⟩ (.int .i64 (b 1))).setCell ⟨g, 6, none⟩ (.int .i64 (b 2))).setCell ⟨g, 7, none⟩ (.int .i64 (b 3))).setCell ⟨g, 8, none⟩ (.int .i64 (s 0))).setCell ⟨g, 9, none⟩ (.int .i64 (s 1))).setCell ⟨g, 10, none⟩ (.int .i64 (s 2))).setCell ⟨g, 11, none⟩ (.int .i64 (s 3))) g #[.int .i64 (a 0), .int .i64 (a 1), .int .i64 (a 2), .int .i64 (a 3), .int .i64 (b 0), .int .i64 (b 1), .int .i64 (b 2), .int .i64 (b 3), .int .i64 (s 0), .int .i64 (s 1), .int .i64 (s 2), .int .i64 (s 3)] 91 := e10.set 11 _
 exact ⟨e11, (((((((((((((Mod.refl _ w).at 0 _).at 1 _).at 2 _).at 3 _).at 4 _).at 5 _).at 6 _).at 7 _).at 8 _).at 9 _).at 10 _).at 11 _)⟩
structure TotB (w wx : World) (g : Nat) (a b s : Nat → Int) : Prop where
 has : Has wx g (tF a b s) 91
 mod : Mod No w wx
theorem TotB.still {w wx wy : World} {g : Nat} {a b s : Nat → Int} (h : TotB w wx g a b s) (hm : Mod No wx wy) : TotB w wy g a b s := ⟨hm.has h.has (fun x => x), h.mod.trans hm⟩
theorem TotB.one {w wr w5 : World} {a b s : Nat → Int} (hr : Mod No w wr) (hm : Mod No wr.drew w5) : TotB w (w5.alloc (.cells #[.int .i64 (a 0), .int .i64 (a 1), .int .i64 (a 2), .int .i64 (a 3), .int .i64 (b 0), .int .i64 (b 1), .int .i64 (b 2), .int .i64 (b 3), .int .i64 (s 0), .int .i64 (s 1), .int .i64 (s 2), .int .i64 (s 3)] 91)) w5.heap.size a b s :=
 ⟨Has.new w5 (tF a b s) 91, (hr.drew.trans hm).alloc _⟩
theorem TotB.two {w wr w5 : World} {a b s : Nat → Int} (hr : Mod No w wr) (hm : Mod No (wr.alloc (.cells #[.int .i64 0, .int .i64 0, .int .i64 0, .int .i64 0, .int .i64 0, .int .i64 0, .int .i64 0, .int .i64 0, .int .i64 0, .int .i64 0, .int .i64 0, .int .i64 0] 91)).drew w5) : TotB w ((((((((((((w5.setCell ⟨wr.heap.size, 0, none⟩ (.int .i64 (a 0))).setCell ⟨wr.heap.size, 1, none⟩ (.int .i64 (a 1))).setCell ⟨wr.heap.size, 2, none⟩ (.int .i64 (a 2))).setCell ⟨wr.heap.size, 3, none⟩ (.int .i64 (a 3))).setCell ⟨wr.heap.size, 4, none⟩ (.int .i64 (b 0))).setCell ⟨wr.heap.size, 5, none⟩ (.int .i64 (b 1))).setCell ⟨wr.heap.size, 6, none⟩ (.int .i64 (b 2))).setCell ⟨wr.heap.size, 7, none⟩ (.int .i64 (b 3))).setCell ⟨wr.heap.size, 8, none⟩ (.int .i64 (s 0))).setCell ⟨wr.heap.size, 9, none⟩ (.int .i64 (s 1))).setCell ⟨wr.heap.size, 10, none⟩ (.int .i64 (s 2))).setCell ⟨wr.heap.size, 11, none⟩ (.int .i64 (s 3))) wr.heap.size a b s := by
 have hz := hm.has (show Has (wr.alloc (.cells #[.int .i64 0, .int .i64 0, .int .i64 0, .int .i64 0, .int .i64 0, .int .i64 0, .int .i64 0, .int .i64 0, .int .i64 0, .int .i64 0, .int .i64 0, .int .i64 0] 91)).drew wr.heap.size zero51 91 from (Has.new wr zero51 91).drew) (fun x => x)
 obtain ⟨h1, h2⟩ := tot_sets a b s hz
 refine ⟨h1, ((hr.alloc _).drew.trans hm).trans' h2 (fun i hi hl => ?_)⟩
 have := hr.size
 omega
structure OpV (S : Array Value) (k b c : Int) : Prop where
 size : S.size = 25
 k0 : S[0]? = some (.int .i64 k)
 b2 : S[2]? = some (.int .i64 b)
 c3 : S[3]? = some (.int .i64 c)
structure AskI where
 kb : Nat
 okp : Nat → Nat
 wb : Nat
 owr : Nat → Nat
 v : Value
 xs : List FR
 now : Int
 fl : Nat → Option (Pla × List Sea)
structure AskX (w : World) (ob : Nat) (I : AskI) : Prop where
 cell1 : w.cell? ⟨ob, 1, none⟩ = some (.pointer (some ⟨I.kb, 0, none⟩))
 cell2 : w.cell? ⟨ob, 2, none⟩ = some (.pointer (some ⟨I.wb, 0, none⟩))
 lt : ob < w.heap.size
 keep : KeepH w I.okp I.kb I.now I.fl
 wor : WorR w I.owr I.wb I.v I.xs I.now
 same : Same I.xs I.fl
theorem AskX.mod {w w' : World} {ob : Nat} {I : AskI} (h : AskX w ob I) (hm : Mod No w w') (hs : ∀ k, No k → ¬ No k) : AskX w' ob I := by
 have hc : ∀ a v, w.cell? a = some v → w'.cell? a = some v := fun a v hc => by
  have hl := World.block_lt_of_cell? w a hc
  unfold World.cell? at hc ⊢
  rw [hm.block _ hl (fun x => x)]
  exact hc
 exact ⟨hc _ _ h.cell1, hc _ _ h.cell2, Nat.lt_of_lt_of_le h.lt hm.size, h.keep.mod hm (fun _ _ x => x), h.wor.mod hm (fun _ _ x => x), h.same⟩
theorem OneX.ask {w : World} {O : Nat → Prop} {ob kb : Nat} {I : OneI} (h : OneX w O ob I) (hkb : I.kb = some kb) (hW : I.W.now = I.now ∧ I.W.fl = I.fl) : AskX w ob ⟨kb, I.okp, I.W.wb, I.W.ow, I.W.v, I.W.xs, I.now, I.fl⟩ := by
 obtain ⟨⟨pt, hk⟩, _⟩ := h.keep.some kb hkb
 have c1 := h.has.cell 1
 rw [show (oneV I)[1]? = some (ptrOf I.kb) from rfl, hkb] at c1
 have hw := h.wor.wor
 have hs := h.wor.same
 rw [hW.1] at hw
 rw [hW.2] at hs
 exact ⟨c1, h.has.cell 2, h.has.lt, ⟨pt, hk.keep⟩, hw, hs⟩
theorem asked_now {w : World} {ob yb : Nat} {I : AskI} (h : AskX w ob I) {S : Array Value} {b c : Int} (hS : OpV S 3 b c) :
  Calls Tryz.prog 17 #[.pointer (some ⟨yb, 0, none⟩), .pointer (some ⟨ob, 0, none⟩), .agg S] w fun e w' => e = .returned (.bool true) ∧ Mod No w w' := by
 have B0 := Has.new w S 45
 have b0 : (w.alloc (.cells S 45)).cell? ⟨w.heap.size, 0, none⟩ = some (.int .i64 3) := (B0.cell 0).trans hS.k0
 have M0 := hide ((Mod.refl No w).alloc (.cells S 45))
 have h0 := h.mod (unhide M0) (fun _ _ x => x)
 obtain ⟨pt, hk⟩ := h0.keep
 have HN := hide fun n => now_any (hk.mod ((Mod.refl No (w.alloc (.cells S 45))).drewN n) (fun _ _ x => x))
 have c1 : (w.alloc (.cells S 45)).cell? ⟨ob, 1, none⟩ = some (.pointer (some ⟨I.kb, 0, none⟩)) := h0.cell1
 have c2 : (w.alloc (.cells S 45)).cell? ⟨ob, 2, none⟩ = some (.pointer (some ⟨I.wb, 0, none⟩)) := h0.cell2
 have v1 : (w.alloc (.cells S 45)).cell? ⟨I.wb, 1, none⟩ = some (.int .i64 I.now) := h0.wor.has.cell 1
 have l1 := h0.lt
 have l2 := h0.wor.has.lt
 have bl := B0.lt
 clear h h0 hk B0 hS
 go_enter Tryz.func17, Tryz.ntmps17
 go_wp2_with fail
 go_quiet ((go_at_call 32; exact Calls.quiet_of_same ((unhide HN) _)))
 go_wp2
 go_ret
 exact ⟨rfl, (unhide M0).drewN _⟩
theorem asked_left {w : World} {ob yb : Nat} {I : AskI} (h : AskX w ob I) {S : Array Value} {b c : Int} (hS : OpV S 4 b c) :
  Calls Tryz.prog 17 #[.pointer (some ⟨yb, 0, none⟩), .pointer (some ⟨ob, 0, none⟩), .agg S] w fun e w' => e = .returned (.bool true) ∧ Mod No w w' := by
 have M0 := (Mod.refl No w).alloc (.cells S 45)
 have h0 := h.mod M0 (fun _ _ x => x)
 have HH := hide fun W (hW : Mod No (w.alloc (.cells S 45)) W) => h0.mod hW (fun _ _ x => x)
 have B0 := Has.new w S 45
 have bk := (B0.cell 0).trans hS.k0
 have BX := hide fun W (hW : Mod No (w.alloc (.cells S 45)) W) => (show (W.cell? ⟨w.heap.size, 2, none⟩ = some (.int .i64 b) ∧ W.cell? ⟨w.heap.size, 3, none⟩ = some (.int .i64 c)) ∧ w.heap.size < W.heap.size from
  ⟨⟨((hW.has B0 (fun x => x)).cell 2).trans hS.b2, ((hW.has B0 (fun x => x)).cell 3).trans hS.c3⟩, (hW.has B0 (fun x => x)).lt⟩)
 have MW := hide fun W (hW : Mod No (w.alloc (.cells S 45)) W) => M0.trans hW
 have bl := B0.lt
 clear h h0 hS M0 B0
 generalize hL : leftK I.fl b c = L at *
 have HL := hide hL
 clear hL
 go_enter Tryz.func17, Tryz.ntmps17
 go_upto_region 5 with fail
 generalize w.alloc (.cells S 45) = w1 at *
 generalize w.heap.size = bb at *
 have c1 : w1.cell? ⟨ob, 1, none⟩ = some (.pointer (some ⟨I.kb, 0, none⟩)) := ((unhide HH) _ (Mod.refl _ _)).cell1
 have ol := ((unhide HH) _ (Mod.refl _ _)).lt
 obtain ⟨⟨b2, b3⟩, _⟩ := (unhide BX) _ (Mod.refl _ _)
 have HC := hide (left_any ((unhide HH) _ (Mod.refl _ w1).drew).keep b c)
 rw [unhide HL] at HC
 go_cut [7, 8] (fun s7 s8 wx => s7 = .int .i64 L.1 ∧ s8 = .int .i64 L.2 ∧ Hid (Mod No w1 wx))
 case first =>
  go_region_law (refine step_call rfl 33 _ _ rfl #[.pointer (some ⟨I.kb, 0, none⟩), .int .i64 b, .int .i64 c] (by simp [Act.eval, Act.put]) (fun W => by kernel_rfl) (.tuple #[.int .i64 L.1, .int .i64 L.2]) _ (unhide HC) ?_; intro w5 hm5)
  all_goals go_wp2
  all_goals go_meet
  all_goals exact ⟨rfl, rfl, (Mod.refl No w1).drew.trans hm5⟩
 case rest =>
  obtain ⟨rfl, rfl, M2⟩ := hcut
  apply_assumption
  clear c1 ol b2 b3 HC bk
  have c2 : wc.cell? ⟨ob, 2, none⟩ = some (.pointer (some ⟨I.wb, 0, none⟩)) := ((unhide HH) _ (unhide M2)).cell2
  have ol := ((unhide HH) _ (unhide M2)).lt
  obtain ⟨⟨b2, b3⟩, bl2⟩ := (unhide BX) _ (unhide M2)
  have HC := hide (wleft_all ((unhide HH) _ (unhide M2).drew).wor ((unhide HH) _ (unhide M2)).same b c)
  rw [unhide HL] at HC
  have MC := hide (unhide M2).drew
  go_upto_region 6 with fail
  go_cut [9, 10] (fun s7 s8 wx => s7 = .int .i64 L.1 ∧ s8 = .int .i64 L.2 ∧ Hid (Mod No w1 wx))
  case first =>
   go_region_law (refine step_call rfl 34 _ _ rfl #[.pointer (some ⟨I.wb, 0, none⟩), .int .i64 b, .int .i64 c] (by simp [Act.eval, Act.put]) (fun W => by kernel_rfl) (.tuple #[.int .i64 L.1, .int .i64 L.2]) _ (unhide HC) ?_; intro w5 hm5)
   all_goals go_wp2
   all_goals go_meet
   all_goals exact ⟨rfl, rfl, (unhide MC).trans hm5⟩
  case rest =>
   obtain ⟨rfl, rfl, M3⟩ := hcut
   apply_assumption
   have FIN := hide ((unhide MW) _ (unhide M3))
   have q1 : (L.1 == L.1) = true := by simp
   have q2 : (L.2 == L.2) = true := by simp
   clear c2 ol b2 b3 HC HH BX MW
   go_wp2
   go_ret
   exact ⟨rfl, unhide FIN⟩
theorem asked_count {w : World} {ob yb : Nat} {I : AskI} (h : AskX w ob I) {S : Array Value} {b c : Int} (hS : OpV S 5 b c) :
  Calls Tryz.prog 17 #[.pointer (some ⟨yb, 0, none⟩), .pointer (some ⟨ob, 0, none⟩), .agg S] w fun e w' => e = .returned (.bool true) ∧ Mod No w w' := by
 have M0 := (Mod.refl No w).alloc (.cells S 45)
 have h0 := h.mod M0 (fun _ _ x => x)
 have HH := hide fun W (hW : Mod No (w.alloc (.cells S 45)) W) => h0.mod hW (fun _ _ x => x)
 have B0 := Has.new w S 45
 have bk := (B0.cell 0).trans hS.k0
 have BX := hide fun W (hW : Mod No (w.alloc (.cells S 45)) W) => (show W.cell? ⟨w.heap.size, 2, none⟩ = some (.int .i64 b) ∧ w.heap.size < W.heap.size from
  ⟨((hW.has B0 (fun x => x)).cell 2).trans hS.b2, (hW.has B0 (fun x => x)).lt⟩)
 have MW := hide fun W (hW : Mod No (w.alloc (.cells S 45)) W) => M0.trans hW
 have bl := B0.lt
 clear h h0 hS M0 B0
 obtain ⟨ca, cb, cs, hT⟩ := countK_tF I.fl b
 have HT := hide hT
 generalize hE : (countK I.fl b).2 = er at *
 have HE := hide hE
 clear hT hE
 go_enter Tryz.func17, Tryz.ntmps17
 go_upto_region 9 with fail
 generalize w.alloc (.cells S 45) = w1 at *
 generalize w.heap.size = bb at *
 have c1 : w1.cell? ⟨ob, 1, none⟩ = some (.pointer (some ⟨I.kb, 0, none⟩)) := ((unhide HH) _ (Mod.refl _ _)).cell1
 have ol := ((unhide HH) _ (Mod.refl _ _)).lt
 obtain ⟨b2, _⟩ := (unhide BX) _ (Mod.refl _ _)
 have HC := hide fun W (hW : Mod No w1 W) => count_any ((unhide HH) _ hW).keep b
 have HX := hide fun W (hW : Mod No w1 W) => wcount_all ((unhide HH) _ hW).wor ((unhide HH) _ hW).same b
 rw [unhide HT, unhide HE] at HC HX
 unfold tF at HC HX
 go_cut [11, 12] (fun s7 s8 wx => ∃ g, s7 = .pointer (some ⟨g, 0, none⟩) ∧ s8 = .int .i64 er ∧ Hid (TotB w1 wx g ca cb cs))
 case first =>
  have R1 := hide (Mod.refl No w1)
  go_region_law (first
   |(refine step_call rfl 35 _ _ rfl #[.pointer (some ⟨I.kb, 0, none⟩), .int .i64 b] (by simp [Act.eval, Act.put]) (fun W => by kernel_rfl) (.tuple #[.agg #[.int .i64 (ca 0), .int .i64 (ca 1), .int .i64 (ca 2), .int .i64 (ca 3), .int .i64 (cb 0), .int .i64 (cb 1), .int .i64 (cb 2), .int .i64 (cb 3), .int .i64 (cs 0), .int .i64 (cs 1), .int .i64 (cs 2), .int .i64 (cs 3)], .int .i64 er]) _ ((unhide HC) w1.drew (unhide R1).drew) ?_; intro w5 hm5)
   |(refine step_call rfl 35 _ _ rfl #[.pointer (some ⟨I.kb, 0, none⟩), .int .i64 b] (by simp [Act.eval, Act.put]) (fun W => by kernel_rfl) (.tuple #[.agg #[.int .i64 (ca 0), .int .i64 (ca 1), .int .i64 (ca 2), .int .i64 (ca 3), .int .i64 (cb 0), .int .i64 (cb 1), .int .i64 (cb 2), .int .i64 (cb 3), .int .i64 (cs 0), .int .i64 (cs 1), .int .i64 (cs 2), .int .i64 (cs 3)], .int .i64 er]) _ ((unhide HC) _ ((unhide R1).alloc _).drew) ?_; intro w5 hm5; have zz := (hm5.has (show Has (w1.alloc (.cells #[.int .i64 0, .int .i64 0, .int .i64 0, .int .i64 0, .int .i64 0, .int .i64 0, .int .i64 0, .int .i64 0, .int .i64 0, .int .i64 0, .int .i64 0, .int .i64 0] 91)).drew w1.heap.size #[.int .i64 0, .int .i64 0, .int .i64 0, .int .i64 0, .int .i64 0, .int .i64 0, .int .i64 0, .int .i64 0, .int .i64 0, .int .i64 0, .int .i64 0, .int .i64 0] 91 from (Has.new _ _ _).drew) (fun x => x)); have zc := zz.cell; have zf := zz.frozen; have zl := zz.lt; clear zz))
  all_goals go_wp2
  all_goals go_meet
  all_goals first
   | with_reducible exact ⟨_, rfl, rfl, hide (TotB.one (unhide R1) hm5)⟩
   | with_reducible exact ⟨_, rfl, rfl, hide (TotB.two (unhide R1) hm5)⟩
 case rest =>
  obtain ⟨g, rfl, rfl, T2⟩ := hcut
  apply_assumption
  have HX2 := hide fun W (hW : Mod No wc W) => (unhide HX) W ((unhide T2).mod.trans hW)
  have c2 : wc.cell? ⟨ob, 2, none⟩ = some (.pointer (some ⟨I.wb, 0, none⟩)) := ((unhide HH) _ (unhide T2).mod).cell2
  have ol2 := ((unhide HH) _ (unhide T2).mod).lt
  obtain ⟨b22, bl22⟩ := (unhide BX) _ (unhide T2).mod
  clear c1 ol b2 HC HX bk
  go_upto_region 10 with fail
  go_cut [13, 14] (fun s7 s8 wx => ∃ g2, s7 = .pointer (some ⟨g2, 0, none⟩) ∧ s8 = .int .i64 er ∧ Hid (TotB wc wx g2 ca cb cs))
  case first =>
   have R1 := hide (Mod.refl No wc)
   go_region_law (first
    |(refine step_call rfl 36 _ _ rfl #[.pointer (some ⟨I.wb, 0, none⟩), .int .i64 b] (by simp [Act.eval, Act.put]) (fun W => by kernel_rfl) (.tuple #[.agg #[.int .i64 (ca 0), .int .i64 (ca 1), .int .i64 (ca 2), .int .i64 (ca 3), .int .i64 (cb 0), .int .i64 (cb 1), .int .i64 (cb 2), .int .i64 (cb 3), .int .i64 (cs 0), .int .i64 (cs 1), .int .i64 (cs 2), .int .i64 (cs 3)], .int .i64 er]) _ ((unhide HX2) wc.drew (unhide R1).drew) ?_; intro w5 hm5)
    |(refine step_call rfl 36 _ _ rfl #[.pointer (some ⟨I.wb, 0, none⟩), .int .i64 b] (by simp [Act.eval, Act.put]) (fun W => by kernel_rfl) (.tuple #[.agg #[.int .i64 (ca 0), .int .i64 (ca 1), .int .i64 (ca 2), .int .i64 (ca 3), .int .i64 (cb 0), .int .i64 (cb 1), .int .i64 (cb 2), .int .i64 (cb 3), .int .i64 (cs 0), .int .i64 (cs 1), .int .i64 (cs 2), .int .i64 (cs 3)], .int .i64 er]) _ ((unhide HX2) _ ((unhide R1).alloc _).drew) ?_; intro w5 hm5; have zz := (hm5.has (show Has (wc.alloc (.cells #[.int .i64 0, .int .i64 0, .int .i64 0, .int .i64 0, .int .i64 0, .int .i64 0, .int .i64 0, .int .i64 0, .int .i64 0, .int .i64 0, .int .i64 0, .int .i64 0] 91)).drew wc.heap.size #[.int .i64 0, .int .i64 0, .int .i64 0, .int .i64 0, .int .i64 0, .int .i64 0, .int .i64 0, .int .i64 0, .int .i64 0, .int .i64 0, .int .i64 0, .int .i64 0] 91 from (Has.new _ _ _).drew) (fun x => x)); have zc := zz.cell; have zf := zz.frozen; have zl := zz.lt; clear zz))
   all_goals go_wp2
   all_goals go_meet
   all_goals first
    | with_reducible exact ⟨_, rfl, rfl, hide (TotB.one (unhide R1) hm5)⟩
    | with_reducible exact ⟨_, rfl, rfl, hide (TotB.two (unhide R1) hm5)⟩
  case rest =>
   obtain ⟨g2, rfl, rfl, T3⟩ := hcut
   apply_assumption
   have t1 := ((unhide T2).still (unhide T3).mod).has
   have t2 := (unhide T3).has
   have d1 := t1.cell
   have d2 := t2.cell
   have dl1 := t1.lt
   have dl2 := t2.lt
   have HSA := hide fun W => same_any ca cb cs W
   have MF := hide (((unhide MW) _ (unhide T2).mod).trans (unhide T3).mod)
   have q2 : (er == er) = true := by simp
   unfold tF at d1 d2 HSA
   clear t1 t2 T2 T3 c2 ol2 b22 bl22 HX2 HH BX MW HT HE
   go_wp2_with fail
   refine ((unhide HSA) _).mono ?_
   rintro e w8 ⟨rfl, m8⟩
   have FIN := hide ((unhide MF).trans m8)
   clear m8 MF d1 d2 dl1 dl2
   go_wp2
   go_ret
   exact ⟨rfl, unhide FIN⟩
end Go.Proofs.YthhibagcpjeihaaGreat
