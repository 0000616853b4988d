import Derived.Test.YthhibagcpjeihaaGreatIFw5
import Derived.Test.YthhibagcpjeihaaGreatIRef36ToLaw5
import Derived.Test.YthhibagcpjeihaaGreatIBook7NToRFacts3
namespace Go.Proofs.YthhibagcpjeihaaGreat
open Go.RowKit
open M
set_option linter.unusedVariables false
set_option linter.unusedSimpArgs false
set_option maxRecDepth 100000
set_option maxHeartbeats 4000000
theorem wfollow_no {w : World} (wb tob : Nat) (f most x : Int) (hx : (¬ (0 ≤ f ∧ f < 8) ∧ x = 14) ∨ ((0 ≤ f ∧ f < 8) ∧ ¬ (1 ≤ most ∧ most ≤ 50) ∧ x = 12)) :
  Calls Tryz.prog 40 #[.pointer (some ⟨wb, 0, none⟩), .pointer (some ⟨tob, 0, none⟩), .int .i64 f, .int .i64 most] w fun e w' => e = .returned (.tuple #[bullV false (.slice none 0 0) false, .int .i64 x]) ∧ Mod No w w' := by
 unfold bullV
 rcases hx with ⟨h1, rfl⟩ | ⟨h1, h2, rfl⟩
 ·rcases (show f < 0 ∨ (¬ f < 0 ∧ 8 ≤ f ∧ f ≥ 8) by omega) with h | ⟨h, h', h''⟩
  all_goals
   go_enter Tryz.func40, Tryz.ntmps40
   go_wp2
   refine bodyPost_ret (by simp [results, Tryz.results40, go_sem]; try rfl) rfl ?_
   exact ⟨rfl, by repeat' (first | with_reducible exact Mod.refl No w | refine Mod.drewN ?_ _ | refine Mod.alloc ?_ _ | refine Mod.setCell ?_ (.inr (Nat.le_refl _)) _)⟩
 ·obtain ⟨h3, h4⟩ := h1
  have h5 : ¬ f < 0 := by omega
  have h6 : ¬ 8 ≤ f := by omega
  have h6' : ¬ f ≥ 8 := by omega
  rcases (show most < 1 ∨ (¬ most < 1 ∧ 50 < most ∧ most > 50) by omega) with h | ⟨h, h', h''⟩
  all_goals
   go_enter Tryz.func40, Tryz.ntmps40
   go_wp2
   refine bodyPost_ret (by simp [results, Tryz.results40, go_sem]; try rfl) rfl ?_
   exact ⟨rfl, by repeat' (first | with_reducible exact Mod.refl No w | refine Mod.drewN ?_ _ | refine Mod.alloc ?_ _ | refine Mod.setCell ?_ (.inr (Nat.le_refl _)) _)⟩
def isFol (W : World) (g : Nat) : Prop := ∃ es clock, W.heap[g]? = some (folObj es clock)
theorem isFol_ne {W : World} {g : Nat} {cs : Array Value} {T : TypeId} (h : isFol W g) (hb : Has W g cs T) : False := by
 obtain ⟨es, clock, h⟩ := h
 exact hb.fol_ne h rfl
def OneI.tell1 (I : OneI) (om' : Nat → Nat) (k : Nat) (es : List FEnt) : OneI := { I with om := om', tl := fun j => if j = k then some es else I.tl j }
theorem OneX.tell1 {w w' : World} {O : Nat → Prop} {ob kb k : Nat} {I : OneI} {pt : Nat → Option Nat} {v : Value} {T : Tel} (h : OneX w O ob I) (hkb : I.kb = some kb) (hk : KeepT w I.okp kb I.now pt I.fl I.K) (hf : FolX w I.okp I.om kb I.tl) (hx : TellX w I.okp I.om kb I.now pt I.fl I.tl k w' v T) :
  ∃ om', OneX w' (fun g => O g ∨ (w.heap.size ≤ g ∧ om' g ≠ 0)) ob (I.tell1 om' k T.es) ∧ (∀ g, g < w.heap.size → om' g = I.om g) ∧ ∀ g, om' g ≠ 0 → w.heap.size ≤ g → isFol w' g := by
 classical
 obtain ⟨pt', hk'⟩ := hk.told hf hx
 obtain ⟨om1, f1, f2⟩ := hx.fol
 obtain ⟨cls, c1, c2, c3, c4, c5, c6, c7⟩ := h.ex
 have hmod := hx.mod
 have hz : ∀ g, cls g ≠ 0 → g < w.heap.size := fun g hg => h.lt g (c7 g hg)
 have hkbm := hk.keep.mine
 have hS : ∀ g n, cls g = n → n ≠ 2 → n ≠ 5 → n ≠ 0 → ¬ (g = kb ∨ I.om g ≠ 0) := fun g n e h2 h5 h0 q => by
  rcases q with q | q
  ·subst q
   have := c2 g (by rw [hkbm]; omega)
   omega
  ·have := c5 g q; omega
 refine ⟨fun g => if g < w.heap.size then I.om g else if isFol w' g then om1 g else 0, ?_, fun g hg => if_pos hg, fun g hg hl => ?_⟩
 ·have e5 : ∀ g, (if g < w.heap.size then I.om g else if isFol w' g then om1 g else 0) ≠ 0 → (g < w.heap.size ∧ I.om g ≠ 0) ∨ (w.heap.size ≤ g ∧ om1 g ≠ 0) := fun g hg => by
   by_cases q : g < w.heap.size
   ·rw [if_pos q] at hg; exact .inl ⟨q, hg⟩
   ·rw [if_neg q] at hg
    by_cases q2 : isFol w' g
    ·rw [if_pos q2] at hg; exact .inr ⟨by omega, hg⟩
    ·rw [if_neg q2] at hg; exact absurd rfl hg
  refine ⟨?_, ⟨fun b hb => ?_, fun hn => ?_⟩, ?_, fun M hM => ?_, ?_, ?_, fun g hg => ?_⟩
  ·show Has w' ob (oneV I) 55
   exact hmod.has h.has (hS ob 1 c1 (by omega) (by omega) (by omega))
  ·have hb : I.kb = some b := hb
   rw [hkb] at hb
   injection hb with hb
   subst hb
   refine ⟨⟨pt', hk'⟩, ⟨fun i hi ht => f1.un i hi ht, fun i hi es ht => ?_, fun g hg => ?_⟩⟩
   ·obtain ⟨m, clock, a1, a2, a3, a4⟩ := f1.is i hi es ht
    refine ⟨m, clock, a1, ?_, a3, a4⟩
    show (if m < w.heap.size then I.om m else if isFol w' m then om1 m else 0) = i + 1
    by_cases q : m < w.heap.size
    ·rw [if_pos q, ← f2 m q]; exact a2
    ·rw [if_neg q, if_pos ⟨es, clock, a3⟩]; exact a2
   ·rcases e5 g hg with ⟨q1, q2⟩ | ⟨q1, q2⟩
    ·exact ⟨Nat.lt_of_lt_of_le q1 hmod.size, (hf.old g q2).2⟩
    ·exact f1.old g q2
  ·have hn : I.kb = none := hn
   rw [hkb] at hn; cases hn
  ·exact h.wor.mod hmod (fun g hg => hS g 3 (c3 g hg) (by omega) (by omega) (by omega))
  ·exact (h.may M hM).mod hmod (fun g hg => hS g 6 (c6 M hM g hg) (by omega) (by omega) (by omega))
  ·exact h.told.mod hmod (fun g hg => hS g 4 (c4 g hg) (by omega) (by omega) (by omega))
  ·refine ⟨fun g => if g < w.heap.size then cls g else if om1 g ≠ 0 ∧ isFol w' g then 5 else 0, ?_, fun g hg => ?_, fun g hg => ?_, fun g hg => ?_, fun g hg => ?_, fun M hM g hg => ?_, fun g hg => ?_⟩
   ·show (if ob < w.heap.size then cls ob else _) = 1
    rw [if_pos (hz ob (by omega))]; exact c1
   ·have := c2 g hg
    show (if g < w.heap.size then cls g else _) = 2
    rw [if_pos (hz g (by omega))]; exact this
   ·have := c3 g hg
    show (if g < w.heap.size then cls g else _) = 3
    rw [if_pos (hz g (by omega))]; exact this
   ·have := c4 g hg
    show (if g < w.heap.size then cls g else _) = 4
    rw [if_pos (hz g (by omega))]; exact this
   ·show (if g < w.heap.size then cls g else if om1 g ≠ 0 ∧ isFol w' g then 5 else 0) = 5
    have hg : (if g < w.heap.size then I.om g else if isFol w' g then om1 g else 0) ≠ 0 := hg
    by_cases q : g < w.heap.size
    ·rw [if_pos q] at hg ⊢; exact c5 g hg
    ·rw [if_neg q] at hg ⊢
     by_cases q2 : isFol w' g
     ·rw [if_pos q2] at hg; rw [if_pos ⟨hg, q2⟩]
     ·rw [if_neg q2] at hg; exact absurd rfl hg
   ·have := c6 M hM g hg
    show (if g < w.heap.size then cls g else _) = 6
    rw [if_pos (hz g (by omega))]; exact this
   ·have hg : (if g < w.heap.size then cls g else if om1 g ≠ 0 ∧ isFol w' g then 5 else 0) ≠ 0 := hg
    by_cases q : g < w.heap.size
    ·rw [if_pos q] at hg; exact .inl (c7 g hg)
    ·rw [if_neg q] at hg
     by_cases q2 : om1 g ≠ 0 ∧ isFol w' g
     ·refine .inr ⟨by omega, ?_⟩
      show (if g < w.heap.size then I.om g else if isFol w' g then om1 g else 0) ≠ 0
      rw [if_neg q, if_pos q2.2]; exact q2.1
     ·rw [if_neg q2] at hg; exact absurd rfl hg
  ·rcases hg with hg | hg
   ·exact Nat.lt_of_lt_of_le (h.lt g hg) hmod.size
   ·rcases e5 g hg.2 with ⟨q1, q2⟩ | ⟨q1, q2⟩
    ·omega
    ·exact (f1.old g q2).1
 ·have hg : (if g < w.heap.size then I.om g else if isFol w' g then om1 g else 0) ≠ 0 := hg
  rw [if_neg (by omega)] at hg
  by_cases q2 : isFol w' g
  ·exact q2
  ·rw [if_neg q2] at hg; exact absurd rfl hg
def OneI.tell2 (I : OneI) (k : Nat) (v2 : Value) (N : List Nw) : OneI := { I with owt := fun g => if v2.ownBlock = some g then k + 2 else I.owt g, vs := ups I.vs k v2, ns := ups I.ns k (I.ns k ++ N), bs := ups I.bs k true }
theorem OneX.tell2 {w w' : World} {O : Nat → Prop} {ob k : Nat} {I : OneI} {N : List Nw} {v v2 : Value} (h : OneX w O ob I) (hk : k < 8) (hx : WFol w w' I.owt I.tob k I.vs I.ns I.bs N v v2) :
  OneX w' (fun g => O g ∨ (w.heap.size ≤ g ∧ v2.ownBlock = some g)) ob (I.tell2 k v2 N) := by
 classical
 obtain ⟨cls, c1, c2, c3, c4, c5, c6, c7⟩ := h.ex
 have hmod := hx.mod
 have hz : ∀ g, cls g ≠ 0 → g < w.heap.size := fun g hg => h.lt g (c7 g hg)
 have hS : ∀ g n, cls g = n → n ≠ 4 → n ≠ 0 → ¬ (I.owt g = 1 ∨ I.owt g = k + 2) := fun g n e h4 h0 q => by
  have := c4 g (by omega)
  omega
 have hown : ∀ g, v2.ownBlock = some g → (g < w.heap.size ∧ I.owt g = k + 2) ∨ w.heap.size ≤ g := fun g hg => by
  rcases hx.own2 g hg with q | q
  ·exact .inl ⟨owns_lt (h.told.rows k hk) g q, h.told.own k hk g q⟩
  ·exact .inr q
 refine ⟨?_, ?_, ?_, fun M hM => ?_, ⟨?_, fun i hi => ?_, fun i hi g hg => ?_, ?_⟩, ?_, fun g hg => ?_⟩
 ·show Has w' ob (oneV I) 55
  exact hmod.has h.has (hS ob 1 c1 (by omega) (by omega))
 ·exact h.keep.mod hmod (fun g hg => hS g 2 (c2 g hg) (by omega) (by omega)) (fun g hg => hS g 5 (c5 g hg) (by omega) (by omega))
 ·exact h.wor.mod hmod (fun g hg => hS g 3 (c3 g hg) (by omega) (by omega))
 ·exact (h.may M hM).mod hmod (fun g hg => hS g 6 (c6 M hM g hg) (by omega) (by omega))
 ·exact hx.told
 ·show w'.ownsRow 0 68 3 (ups I.vs k v2 i) (ups I.ns k (I.ns k ++ N) i).length ((ups I.ns k (I.ns k ++ N) i).flatMap nwL)
  unfold ups
  by_cases e : i = k
  ·subst e
   simp only [if_true]
   exact hx.row2
  ·simp only [if_neg e]
   refine hmod.owns (h.told.rows i hi) (fun g hg q => ?_)
   have := h.told.own i hi g hg
   omega
 ·show (if v2.ownBlock = some g then k + 2 else I.owt g) = i + 2
  have hg : (ups I.vs k v2 i).ownBlock = some g := hg
  unfold ups at hg
  by_cases e : i = k
  ·subst e
   simp only [if_true] at hg
   rw [if_pos hg]
  ·simp only [if_neg e] at hg
   have h1 := h.told.own i hi g hg
   have h2 := owns_lt (h.told.rows i hi) g hg
   by_cases q : v2.ownBlock = some g
   ·rcases hown g q with q1 | q1
    ·omega
    ·omega
   ·rw [if_neg q]; exact h1
 ·show (if v2.ownBlock = some I.tob then k + 2 else I.owt I.tob) = 1
  have hne := row_ne hx.told (by decide) hx.row2
  rw [if_neg hne]
  exact h.told.mine
 ·refine ⟨fun g => if v2.ownBlock = some g then 4 else cls g, ?_, fun g hg => ?_, fun g hg => ?_, fun g hg => ?_, fun g hg => ?_, fun M hM g hg => ?_, fun g hg => ?_⟩
  ·show (if v2.ownBlock = some ob then 4 else cls ob) = 1
   rw [if_neg (fun q => by
    rcases hown ob q with q1 | q1
    ·have := c4 ob (by omega); omega
    ·have := hz ob (by omega); omega)]
   exact c1
  all_goals try
   (show (if v2.ownBlock = some g then 4 else cls g) = _
    rw [if_neg (fun q => by
     rcases hown g q with q1 | q1
     ·have := c4 g (by omega)
      first
       |(have := c2 g hg; omega)
       |(have := c3 g hg; omega)
       |(have := c5 g hg; omega)
       |(have := c6 M hM g hg; omega)
     ·first
       |(have := hz g (by have := c2 g hg; omega); omega)
       |(have := hz g (by have := c3 g hg; omega); omega)
       |(have := hz g (by have := c5 g hg; omega); omega)
       |(have := hz g (by have := c6 M hM g hg; omega); omega))]
    first
     | exact c2 g hg
     | exact c3 g hg
     | exact c5 g hg
     | exact c6 M hM g hg)
  ·show (if v2.ownBlock = some g then 4 else cls g) = 4
   have hg : (if v2.ownBlock = some g then k + 2 else I.owt g) ≠ 0 := hg
   by_cases q : v2.ownBlock = some g
   ·rw [if_pos q]
   ·rw [if_neg q] at hg ⊢
    exact c4 g hg
  ·have hg : (if v2.ownBlock = some g then 4 else cls g) ≠ 0 := hg
   by_cases q : v2.ownBlock = some g
   ·rcases hown g q with q1 | q1
    ·exact .inl (c7 g (by have := c4 g (by omega); omega))
    ·exact .inr ⟨q1, q⟩
   ·rw [if_neg q] at hg
    exact .inl (c7 g hg)
 ·rcases hg with hg | hg
  ·exact Nat.lt_of_lt_of_le (h.lt g hg) hmod.size
  ·exact owns_lt hx.row2 g hg.2
set_option maxHeartbeats 8000000
structure AskD (w w' : World) (S1 S2 : Nat → Prop) (Post2 : World → World → Prop) (D : List Nw) (yb : Nat) (lv av bv : Value) (lb : List Nat) : Prop where
 ex : ∃ (W1 W3 : World) (u : Value) (bv' : Value) (rb : Nat) (hs : Array Value), w.heap.size ≤ W1.heap.size ∧ Mod (fun g => S1 g ∨ S2 g) w W3 ∧ Post2 W1 W3 ∧ W3.ownsRow 0 68 3 u D.length (D.flatMap nwL) ∧ (∀ g, u.ownBlock = some g → w.heap.size ≤ g ∧ g < W1.heap.size) ∧ BkDN W3 w' yb lb.length lv bv av u (lb.map hdrN) bv' rb hs
theorem asked_news {w : World} {F O : Nat → Prop} {yb ob kb wb tob : Nat} {J : OneI} {lv av bv : Value} {lb : List Nat} {S : Array Value} {b c : Int} (hS : OpV S 8 b c) (hone : Has w ob (oneV J) 55) (h1c : (oneV J)[1]? = some (.pointer (some ⟨kb, 0, none⟩))) (h2c : (oneV J)[2]? = some (.pointer (some ⟨wb, 0, none⟩))) (h4c : (oneV J)[4]? = some (.pointer (some ⟨tob, 0, none⟩)))
  (hy : Has w yb #[lv, av, bv] 34) (hx : BkXN w F bv lb) (hyF : F yb) (hOF : ∀ g, O g → F g) (hOl : ∀ g, O g → g < w.heap.size) (hyO : ¬ O yb) (hL : lb.length ≤ 1099511627776)
  {S1 S2 : Nat → Prop} {Post1 : World → Prop} {Post2 : World → World → Prop} {D : List Nw} {fre mo : Bool} {err : Int} (hD : D.length ≤ 50) (hS1 : ∀ g, S1 g → O g ∧ g ≠ ob) (hS2 : ∀ g, S2 g → O g ∧ g ≠ ob)
  (hP1 : PostOk (w.alloc (.cells S 45)) Post1) (hP2 : ∀ W1, PostOk W1 (Post2 W1))
  (hc1 : ∀ W, Mod No (w.alloc (.cells S 45)) W → Calls Tryz.prog 39 #[.pointer (some ⟨kb, 0, none⟩), .int .i64 b, .int .i64 c] W fun e' W' => CallF (w.alloc (.cells S 45)) D fre mo err S1 Post1 W e' W')
  (hc2 : ∀ W1, Mod S1 (w.alloc (.cells S 45)) W1 → Post1 W1 → ∀ W, Mod No W1 W → Calls Tryz.prog 40 #[.pointer (some ⟨wb, 0, none⟩), .pointer (some ⟨tob, 0, none⟩), .int .i64 b, .int .i64 c] W fun e' W' => CallF W1 D fre mo err S2 (Post2 W1) W e' W') :
  Calls Tryz.prog 17 #[.pointer (some ⟨yb, 0, none⟩), .pointer (some ⟨ob, 0, none⟩), .agg S] w fun e w' => e = .returned (.bool true) ∧ AskD w w' S1 S2 Post2 D yb lv av bv lb := by
 have M0 : Mod No w (w.alloc (.cells S 45)) := (Mod.refl No w).alloc _
 have B0 := Has.new w S 45
 have k0 := (B0.cell 0).trans hS.k0
 have k2 := (B0.cell 2).trans hS.b2
 have k3 := (B0.cell 3).trans hS.c3
 have bl := B0.lt
 have ONE := hide (M0.has hone (fun x => x))
 have BOX := hide B0
 have MM := hide M0
 have o1 := ((unhide ONE).cell 1).trans h1c
 have C17 := hide (show (w.alloc (.cells S 45)).cell? ⟨ob, 1, none⟩ = some (.pointer (some ⟨kb, 0, none⟩)) ∧ (w.alloc (.cells S 45)).cell? ⟨w.heap.size, 2, none⟩ = some (.int .i64 b) ∧ (w.alloc (.cells S 45)).cell? ⟨w.heap.size, 3, none⟩ = some (.int .i64 c) from ⟨o1, k2, k3⟩)
 have S17 := hide (fun g (hg : S1 g) => (show g < (w.alloc (.cells S 45)).heap.size ∧ g ≠ ob ∧ g ≠ w.heap.size from by
  have h1 := hS1 g hg
  have h2 := hOl g h1.1
  exact ⟨by rw [World.size_alloc]; omega, h1.2, by omega⟩))
 have HY := hide hy
 have HX := hide hx
 have HYF := hide hyF
 have HL := hide hL
 have HD := hide hD
 have HC1 := hide hc1
 have HC2 := hide hc2
 have HP1 := hide hP1
 have HP2 := hide hP2
 have HS1 := hide hS1
 have HS2 := hide hS2
 have HOF := hide hOF
 have HOL := hide hOl
 have HYO := hide hyO
 have H2C := hide h2c
 have H4C := hide h4c
 have WS := hide (show (w.alloc (.cells S 45)).heap.size = w.heap.size + 1 from by simp)
 clear hS hone h1c h2c h4c hy hx hyF hOF hOl hyO hL hD hS1 hS2 hP1 hP2 hc1 hc2 M0 B0 o1 k2 k3
 go_enter Tryz.func17, Tryz.ntmps17
 go_upto_region 17 with fail
 clear k0 bl
 generalize w.alloc (.cells S 45) = w1 at *
 refine fwr17 (S := S1) (Post := Post1) (D := D) (fre := fre) (mo := mo) (err := err) (unhide C17) (unhide S17) (unhide HP1) (unhide HC1) _ _ _ _ _ _ _ _ _ _ _ _ _ _ _ _ _ _ _ _ _ _ _ _ _ _ _ _ _ _ _ _ _ _ _ _ _ _ _ _ _ _ _ _ _ _ _ _ _ _ _ _ _ _ _ _ _ _ _ _ _ _ _ _ _ _ _ _ _ _ _ _ _ _ _ _ _ _ _ _ _ _ _ _ _ _ _ _ _ _ _ _ _ _ _ _ _ _ _ _ _ _ _ _ _ _ _ _ _ _ _ _ _ _ _ _ _ _ _ _ _ _ _ _ _ _ _ _ _ _ _ _ _ _ _ _ _ _ _ _ _ _ _ _ _ _ _ _ _ _ _ _ _ _ _ _ _ _ _ _ _ _ _ _ _ _ _ _ _ _ _ _ _ _ _ _ _ _ _ _ _ _ _ _ _ ?_
 intro x128 x129 x130 x131 x132 x133 x134 x135 x136 x127 x137 x138 b1 u1 W1 H1
 have G1 := hide (unhide H1).1
 have ONE1 := hide ((unhide G1).has (unhide ONE) (fun e => ((unhide HS1) ob e).2 rfl))
 have BOX1 := hide ((unhide G1).has (unhide BOX) (fun e => by have := (unhide HOL) _ ((unhide HS1) _ e).1; omega))
 have C18 := hide (show W1.cell? ⟨ob, 2, none⟩ = some (.pointer (some ⟨wb, 0, none⟩)) ∧ W1.cell? ⟨ob, 4, none⟩ = some (.pointer (some ⟨tob, 0, none⟩)) ∧ W1.cell? ⟨w.heap.size, 2, none⟩ = some (.int .i64 b) ∧ W1.cell? ⟨w.heap.size, 3, none⟩ = some (.int .i64 c) from
  ⟨((unhide ONE1).cell 2).trans (unhide H2C), ((unhide ONE1).cell 4).trans (unhide H4C), ((unhide BOX1).cell 2).trans (((unhide BOX).cell 2).symm.trans (unhide C17).2.1), ((unhide BOX1).cell 3).trans (((unhide BOX).cell 3).symm.trans (unhide C17).2.2)⟩)
 have S18 := hide (fun g (hg : S2 g) => (show g < W1.heap.size ∧ g ≠ ob ∧ g ≠ w.heap.size from by
  have h1 := (unhide HS2) g hg
  have h2 := (unhide HOL) g h1.1
  have h3 := (unhide G1).size
  have h4 := unhide WS
  exact ⟨by omega, h1.2, by omega⟩))
 go_upto_region 18 with fail
 refine fwr18 (S := S2) (Post := Post2 W1) (D := D) (fre := fre) (mo := mo) (err := err) (unhide C18) (unhide S18) ((unhide HP2) W1) ((unhide HC2) W1 (unhide G1) (unhide H1).2.1) _ _ _ _ _ _ _ _ _ _ _ _ _ _ _ _ _ _ _ _ _ _ _ _ _ _ _ _ _ _ _ _ _ _ _ _ _ _ _ _ _ _ _ _ _ _ _ _ _ _ _ _ _ _ _ _ _ _ _ _ _ _ _ _ _ _ _ _ _ _ _ _ _ _ _ _ _ _ _ _ _ _ _ _ _ _ _ _ _ _ _ _ _ _ _ _ _ _ _ _ _ _ _ _ _ _ _ _ _ _ _ _ _ _ _ _ _ _ _ _ _ _ _ _ _ _ _ _ _ _ _ _ _ _ _ _ _ _ _ _ _ _ _ _ _ _ _ _ _ _ _ _ _ _ _ _ _ _ _ _ _ _ _ _ _ _ _ _ _ _ _ _ _ _ _ _ _ _ _ _ _ _ _ _ _ ?_
 intro x140 x141 x142 x143 x144 x145 x146 x147 x148 x149 x150 x151 x152 x139 x153 x154 b2 u2 W2 H2
 obtain ⟨m1, q1, p1, n1, l1⟩ := unhide H1
 obtain ⟨m2, q2, p2, n2, l2⟩ := unhide H2
 have hsz1 := m1.size
 have hws := unhide WS
 have hS2l : ∀ g, S2 g → g < w.heap.size := fun g hg => (unhide HOL) g ((unhide HS2) g hg).1
 have hb1 := p1.lt
 have P1 := hide (m2.has p1 (fun e => by have := hS2l b1 e; omega))
 have P2 := hide p2
 obtain ⟨a1, c1, rfl⟩ := slice_of_owns n1.1
 obtain ⟨a2, c2, rfl⟩ := slice_of_owns n2.1
 have ULT := hide (show ∀ g, (Value.slice a1 D.length c1).ownBlock = some g → w.heap.size ≤ g ∧ g < W1.heap.size from fun g hg => ⟨by have := n1.2 g hg; omega, owns_lt n1.1 g hg⟩)
 have K1 := hide (m2.owns n1.1 (fun g hg e => by have := hS2l g e; have := n1.2 g hg; omega))
 have K2 := hide n2.1
 have MT := hide (show Mod (fun g => S1 g ∨ S2 g) w W2 from (((unhide MM).mono (S' := fun g => S1 g ∨ S2 g) (fun _ _ x => x.elim)).trans (m1.mono (fun _ _ x => .inl x))).trans (m2.mono (fun _ _ x => .inr x)))
 have WW := hide (show w.heap.size ≤ W1.heap.size from by omega)
 have POST := hide q2
 have SAME := hide (same_news (unhide K1) (unhide K2) (by have := unhide HD; omega))
 have d0 : W2.cell? ⟨b1, 0, none⟩ = some (.bool fre) := (unhide P1).cell 0
 have d1 : W2.cell? ⟨b1, 1, none⟩ = some (.slice a1 D.length c1) := (unhide P1).cell 1
 have d2 : W2.cell? ⟨b1, 2, none⟩ = some (.bool mo) := (unhide P1).cell 2
 have e1 : W2.cell? ⟨b2, 1, none⟩ = some (.slice a2 D.length c2) := (unhide P2).cell 1
 clear m1 q1 p1 n1 l1 m2 q2 p2 n2 l2 H1 H2 G1 ONE1 BOX1 C18 S18 HC1 HC2 HP1 C17 S17 hsz1 hws hS2l hb1
 go_upto_region 19 with fail
 go_wp2_with fail
 refine (unhide SAME).mono ?_
 rintro e3 W3 ⟨rfl, m3⟩
 have M3 := hide m3
 have P13 := hide (m3.has (unhide P1) (fun x => x))
 have P23 := hide (m3.has (unhide P2) (fun x => x))
 have K13 := hide (m3.owns (unhide K1) (fun _ _ x => x))
 have POST3 := hide (((unhide HP2) W1).no _ _ (unhide POST) m3.drew)
 have MT3 := hide ((unhide MT).trans (m3.mono (fun _ _ x => x.elim)))
 have OF := hide (show ∀ g, S1 g ∨ S2 g → O g from fun g hg => by
  rcases hg with e | e
  ·exact ((unhide HS1) g e).1
  ·exact ((unhide HS2) g e).1)
 have HY3 := hide ((unhide MT3).has (unhide HY) (fun e => (unhide HYO) ((unhide OF) yb e)))
 have HX3 := hide ((unhide MT3).owns (unhide HX).row (fun g hg e => (unhide HX).far g hg ((unhide HOF) g ((unhide OF) g e))))
 clear d0 d1 d2 e1 m3 P1 P2 K1 K2 SAME POST MT HP2
 have d1 : W3.cell? ⟨b1, 1, none⟩ = some (.slice a1 D.length c1) := (unhide P13).cell 1
 have yl := (unhide HY3).lt
 have HLEN2 := hide (show D.length + 3 ≤ 1000000 from by have := unhide HD; omega)
 have SL := hide (⟨_, unhide K13⟩ : Sl 68 3 W3 (.slice a1 D.length c1) D.length)
 have LY := hide (show ∀ g, (Value.slice a1 D.length c1).ownBlock = some g → g ≠ yb ∧ bv.ownBlock ≠ some g from fun g hg => by
  obtain ⟨cap, cur, _, hh, _⟩ := Sl.owns (unhide SL) hg
  refine ⟨hh.ne (unhide HY3) (by decide), fun e => ?_⟩
  obtain ⟨_, h1 | ⟨g', cap', cur', rfl, _, hh', _⟩⟩ := unhide HX3
  ·rw [h1.1] at e; simp [Value.ownBlock] at e
  ·simp [Value.ownBlock] at e
   subst e
   exact hh.ne hh' (by decide) rfl)
 have XY := hide (show bv.ownBlock ≠ some yb from fun e => (unhide HX).far yb e (unhide HYF))
 have CALLD := hide (bkN_any (w := W3.drew) (ov := av) (lv := lv) (unhide HY3) (unhide HX3) (unhide HL) (unhide SL) (unhide HLEN2) (unhide LY) (unhide XY))
 go_upto_region 20 with fail
 go_region_law (refine step_call rfl 42 _ _ rfl #[.pointer (some ⟨yb, 1, none⟩), .slice a1 D.length c1] (by simp [Act.eval, Act.put]) (fun W => by kernel_rfl) (.tuple #[]) _ (unhide CALLD) ?_; intro W4 hd4)
 obtain ⟨bv', rb, hs, hD⟩ := hd4
 have FIN := hide (show AskD w W4 S1 S2 Post2 D yb lv av bv lb from ⟨W1, W3.drew, _, bv', rb, hs, unhide WW, (unhide MT3).drew, unhide POST3, unhide K13, unhide ULT, hD⟩)
 have T1 := hide (show ∀ g cs T', Has W3 g cs T' → T' ≠ 34 → T' ≠ 68 → T' ≠ 65 → Has W4 g cs T' from fun g cs T' hh t1 t2 t3 => hD.mod.has hh (by
  rintro (e | e | e)
  ·subst e; exact hh.ne (unhide HY3) t1 rfl
  ·obtain ⟨cap, cur, _, hh', _⟩ := Sl.owns (unhide SL) e
   exact hh.ne hh' t2 rfl
  ·obtain ⟨_, h1 | ⟨g', cap', cur', rfl, _, hh', _⟩⟩ := unhide HX3
   ·rw [h1.1] at e; simp [Value.ownBlock] at e
   ·simp [Value.ownBlock] at e
    subst e
    exact hh.ne hh' t3 rfl))
 have P14 := (unhide T1) b1 _ _ (unhide P13) (by decide) (by decide) (by decide)
 have P24 := (unhide T1) b2 _ _ (unhide P23) (by decide) (by decide) (by decide)
 have f0 : W4.cell? ⟨b1, 0, none⟩ = some (.bool fre) := P14.cell 0
 have f2 : W4.cell? ⟨b1, 2, none⟩ = some (.bool mo) := P14.cell 2
 have g0 : W4.cell? ⟨b2, 0, none⟩ = some (.bool fre) := P24.cell 0
 have g2 : W4.cell? ⟨b2, 2, none⟩ = some (.bool mo) := P24.cell 2
 have bf : (fre == fre) = true := by cases fre <;> rfl
 have bm : (mo == mo) = true := by cases mo <;> rfl
 have be : (err == err) = true := by simp
 clear hD P14 P24 d1 yl CALLD HY3 HX3 SL LY XY K13 P13 P23 T1
 go_wp2
 go_ret
 exact ⟨rfl, unhide FIN⟩
set_option maxHeartbeats 4000000
def stepN (most : Int) (ns : List Nw) (s : List Nw × Bool) (x : Nw) : List Nw × Bool := if x.l = lastN (ns ++ s.1) x.n x.c then s else if (s.1.length : Int) = most then (s.1, true) else (s.1 ++ [x], s.2)
def tellsN (most : Int) (ns : List Nw) (s : List Nw × Bool) (l : List Nw) : List Nw × Bool := l.foldl (stepN most ns) s
theorem tellsN_eq {most : Int} {ns : List Nw} : ∀ (l : List Nw) (s : Tel), Rl s.es (ns ++ s.news) → (∀ x ∈ l, x.ok) → (tells most s l).news = (tellsN most ns (s.news, s.more) l).1 ∧ (tells most s l).more = (tellsN most ns (s.news, s.more) l).2
 | [], s, _, _ => ⟨rfl, rfl⟩
 | x :: l, s, h, hx => by
  have ih := tellsN_eq (most := most) (ns := ns) l (tellStep most s x) (rl_step h (hx x (by simp))) (fun y hy => hx y (by simp [hy]))
  have e : stepN most ns (s.news, s.more) x = ((tellStep most s x).news, (tellStep most s x).more) := by
   unfold stepN tellStep
   rw [← h.2]
   simp only
   split
   ·rfl
   ·split <;> rfl
  show (tells most (tellStep most s x) l).news = (tellsN most ns (stepN most ns (s.news, s.more) x) l).1 ∧ (tells most (tellStep most s x) l).more = (tellsN most ns (stepN most ns (s.news, s.more) x) l).2
  rw [e]
  exact ih
theorem itemsF_ok {fl : Nat → Option (Pla × List Sea)} : ∀ x ∈ itemsK fl 21, x.ok := fun x hx => by
 obtain ⟨n, hn, hx⟩ := List.mem_flatMap.1 hx
 have hn : n < 21 := List.mem_range.1 hn
 unfold itemsF at hx
 split at hx
 ·cases hx
 ·exact items_ok ⟨by omega, by omega⟩ (Nat.le_refl 4) x hx
def FolK (I I' : OneI) : Prop := ∃ (om : Nat → Nat) (tl : Nat → Option (List FEnt)) (owt : Nat → Nat) (vs : Nat → Value) (ns : Nat → List Nw) (bs : Nat → Bool), I' = { I with om := om, tl := tl, owt := owt, vs := vs, ns := ns, bs := bs } ∧ (∀ k, k < 8 → FolR (tl k) (ns k) (bs k)) ∧ ∀ k, k < 8 → (ns k).length ≤ (I.ns k).length + 50
def PostE (s : Nat) (O : Nat → Prop) (ob : Nat) (I : OneI) (W1 W : World) : Prop := s ≤ W1.heap.size ∧ ∃ (I' : OneI) (G : Nat → Prop), OneX W (fun g => O g ∨ G g) ob I' ∧ FolK I I' ∧ ∀ g, G g → s ≤ g ∧ (isFol W g ∨ (W1.heap.size ≤ g ∧ ∃ cs, Has W g cs 68))
theorem isFol_mod {W W' : World} {S : Nat → Prop} {g : Nat} (h : isFol W g) (hm : Mod S W W') (hg : ¬ S g) : isFol W' g := by
 obtain ⟨es, clock, h⟩ := h
 exact ⟨es, clock, mod_fol hm h hg⟩
theorem postE_ok {s : Nat} {O : Nat → Prop} {ob : Nat} {I : OneI} (hO : ∀ g, O g → g < s) (W1 : World) : PostOk W1 (PostE s O ob I W1) := by
 refine ⟨fun W W' h hm => ?_, fun W W' b cs hb h hh hm => ?_⟩
 ·obtain ⟨h0, I', G, h1, h2, h3⟩ := h
  refine ⟨h0, I', G, h1.mod hm (fun _ _ x => x), h2, fun g hg => ⟨(h3 g hg).1, ?_⟩⟩
  rcases (h3 g hg).2 with q | ⟨q1, cs, q2⟩
  ·exact .inl (isFol_mod q hm (fun x => x))
  ·exact .inr ⟨q1, cs, hm.has q2 (fun x => x)⟩
 ·obtain ⟨h0, I', G, h1, h2, h3⟩ := h
  have hne : ∀ g, G g → g ≠ b := fun g hg e => by
   subst e
   rcases (h3 g hg).2 with q | ⟨q1, cs', q2⟩
   ·exact isFol_ne q hh
   ·exact q2.ne hh (by decide) rfl
  refine ⟨h0, I', G, h1.mod hm (fun g hg e => ?_), h2, fun g hg => ⟨(h3 g hg).1, ?_⟩⟩
  ·rcases hg with q | q
   ·have := hO g q; omega
   ·exact hne g q e
  ·rcases (h3 g hg).2 with q | ⟨q1, cs', q2⟩
   ·exact .inl (isFol_mod q hm (hne g hg))
   ·exact .inr ⟨q1, cs', hm.has q2 (hne g hg)⟩
theorem OneX.ownsF {w : World} {O O' : Nat → Prop} {ob : Nat} {I : OneI} (h : OneX w O ob I) (he : ∀ g, O g ↔ O' g) : OneX w O' ob I := by
 have e : O = O' := funext fun g => propext (he g)
 exact e ▸ h
def PostA (s : Nat) (O : Nat → Prop) (ob k : Nat) (I : OneI) (D : List Nw) (W : World) : Prop := ∃ es om', Rl es (I.ns k ++ D) ∧ OneX W (fun g => O g ∨ (s ≤ g ∧ om' g ≠ 0)) ob (I.tell1 om' k es) ∧ ∀ g, om' g ≠ 0 → s ≤ g → isFol W g
theorem postA_ok {w : World} {O : Nat → Prop} {ob k : Nat} {I : OneI} {D : List Nw} (hO : ∀ g, O g → g < w.heap.size) : PostOk w (PostA w.heap.size O ob k I D) := by
 refine ⟨fun W W' h hm => ?_, fun W W' b cs hb h hh hm => ?_⟩
 ·obtain ⟨es, om', h1, h2, h3⟩ := h
  exact ⟨es, om', h1, h2.mod hm (fun _ _ x => x), fun g hg hl => isFol_mod (h3 g hg hl) hm (fun x => x)⟩
 ·obtain ⟨es, om', h1, h2, h3⟩ := h
  have hne : ∀ g, om' g ≠ 0 → w.heap.size ≤ g → g ≠ b := fun g hg hl e => by
   subst e
   exact isFol_ne (h3 g hg hl) hh
  refine ⟨es, om', h1, h2.mod hm (fun g hg e => ?_), fun g hg hl => isFol_mod (h3 g hg hl) hm (hne g hg hl)⟩
  rcases hg with q | q
  ·have := hO g q; omega
  ·exact hne g q.2 q.1 e
theorem asked_follow {w : World} {O F : Nat → Prop} {ob kb yb : Nat} {I : OneI} {lv av bv : Value} {lb : List Nat} {S : Array Value} {b c : Int} (hS : OpV S 8 b c) (hI : OneX w O ob I) (hkb : I.kb = some kb) (hsame : I.W.now = I.now ∧ I.W.fl = I.fl) (hR : ∀ k, k < 8 → FolR (I.tl k) (I.ns k) (I.bs k)) (hns : ∀ k, k < 8 → (I.ns k).length ≤ 1099511627000)
  (hy : Has w yb #[lv, av, bv] 34) (hx : BkXN w F bv lb) (hyF : F yb) (hOF : ∀ g, O g → F g) (hyO : ¬ O yb) (hL : lb.length ≤ 1099511627776) :
  Calls Tryz.prog 17 #[.pointer (some ⟨yb, 0, none⟩), .pointer (some ⟨ob, 0, none⟩), .agg S] w fun e w' => e = .returned (.bool true) ∧ ∃ (S1 S2 : Nat → Prop) (D : List Nw), (∀ g, S1 g ∨ S2 g → O g) ∧ AskD w w' S1 S2 (PostE (w.heap.size + 1) O ob I) D yb lv av bv lb := by
 have M0 : Mod No w (w.alloc (.cells S 45)) := (Mod.refl No w).alloc _
 have hI1 := hI.mod M0 (fun _ _ x => x)
 have hws : (w.alloc (.cells S 45)).heap.size = w.heap.size + 1 := by simp
 have hOl : ∀ g, O g → g < (w.alloc (.cells S 45)).heap.size := hI1.lt
 obtain ⟨cls, c1, c2, c3, c4, c5, c6, c7⟩ := hI.ex
 have h1c : (oneV I)[1]? = some (.pointer (some ⟨kb, 0, none⟩)) := by
  show some (ptrOf I.kb) = _
  rw [hkb]; rfl
 obtain ⟨⟨pt0, hk0⟩, hf0⟩ := hI.keep.some kb hkb
 by_cases hok : (0 ≤ b ∧ b < 8) ∧ 1 ≤ c ∧ c ≤ 50
 ·obtain ⟨k, rfl⟩ : ∃ k : Nat, b = (k : Int) := ⟨b.toNat, by omega⟩
  have hk : k < 8 := by omega
  have hRk := hR k hk
  have e0 := fun clock => tellsN_eq (most := c) (ns := I.ns k) (itemsK I.fl 21) ⟨[], false, (I.tl k).getD [], clock⟩ (by show Rl ((I.tl k).getD []) (I.ns k ++ []); rw [List.append_nil]; exact hRk.rl) itemsF_ok
  have er := fun clock => rl_tells (most := c) (ns := I.ns k) (itemsK I.fl 21) ⟨[], false, (I.tl k).getD [], clock⟩ (by show Rl ((I.tl k).getD []) (I.ns k ++ []); rw [List.append_nil]; exact hRk.rl) itemsF_ok
  obtain ⟨D, hDe⟩ : ∃ D, (tellsN c (I.ns k) ([], false) (itemsK I.fl 21)).1 = D := ⟨_, rfl⟩
  obtain ⟨mo, hmoe⟩ : ∃ mo, (tellsN c (I.ns k) ([], false) (itemsK I.fl 21)).2 = mo := ⟨_, rfl⟩
  simp only at e0
  rw [hDe, hmoe] at e0
  have hDl : D.length ≤ 50 := by
   have := tells_len (most := c) (itemsK I.fl 21) ⟨[], false, (I.tl k).getD [], 0⟩ (by simp; omega)
   rw [(e0 0).1] at this
   omega
  refine (asked_news (S1 := fun g => g = kb ∨ I.om g ≠ 0) (S2 := fun g => I.owt g = 1 ∨ I.owt g = k + 2) (Post1 := PostA (w.alloc (.cells S 45)).heap.size O ob k I D) (Post2 := PostE (w.heap.size + 1) O ob I) (D := D) (fre := (I.tl k).isNone) (mo := mo) (err := 0) (O := O) (kb := kb) (wb := I.W.wb) (tob := I.tob) hS hI.has h1c rfl rfl hy hx hyF hOF hI.lt hyO hL hDl
   (fun g hg => ?_) (fun g hg => ?_) (postA_ok hOl) (fun W1 => postE_ok (fun g hg => by rw [← hws]; exact hOl g hg) W1) (fun W hW => ?_) (fun W1 hW1 hP W hW => ?_)).mono (fun e w' ⟨he, hd⟩ => ⟨he, _, _, D, ?_, hd⟩)
  ·have hkc : cls kb = 2 := c2 kb (by rw [hk0.keep.mine]; omega)
   rcases hg with e | e
   ·subst e; exact ⟨c7 _ (by omega), fun q => by subst q; omega⟩
   ·have := c5 g e; exact ⟨c7 _ (by omega), fun q => by subst q; omega⟩
  ·have := c4 g (by omega); exact ⟨c7 _ (by omega), fun q => by subst q; omega⟩
  ·have hIW := hI1.mod hW (fun _ _ x => x)
   obtain ⟨⟨pt, hkt⟩, hf⟩ := hIW.keep.some kb hkb
   refine (follow_any hkt.keep hf k hk c hok.2).mono ?_
   rintro e' W' ⟨v, clock, rfl, hx'⟩
   have hrow := hx'.row
   rw [(e0 clock).1] at hrow
   refine ⟨⟨v, by rw [(e0 clock).2], hrow, fun g hg => Nat.le_trans hW.size (hx'.own g hg)⟩, hx'.mod, ?_⟩
   obtain ⟨om', t1, t2, t3⟩ := hIW.tell1 hkb hkt hf hx'
   have hz : ∀ g, (w.alloc (.cells S 45)).heap.size ≤ g → g < W.heap.size → om' g = 0 := fun g h1 h2 => by
    rw [t2 g h2]
    by_cases q : I.om g = 0
    ·exact q
    ·have := (hf0.old g q).1; omega
   have hrl := er clock
   rw [(e0 clock).1] at hrl
   refine ⟨_, om', hrl, t1.ownsF (fun g => ?_), fun g hg hl => ?_⟩
   ·constructor
    ·rintro (q | ⟨q1, q2⟩)
     ·exact .inl q
     ·exact .inr ⟨Nat.le_trans hW.size q1, q2⟩
    ·rintro (q | ⟨q1, q2⟩)
     ·exact .inl q
     ·refine .inr ⟨?_, q2⟩
      by_cases q3 : W.heap.size ≤ g
      ·exact q3
      ·exact absurd (hz g q1 (by omega)) q2
   ·by_cases q3 : W.heap.size ≤ g
    ·exact t3 g hg q3
    ·exact absurd (hz g hl (by omega)) hg
  ·obtain ⟨es, om', p1, p2, p3⟩ := hP
   have hIW := p2.mod hW (fun _ _ x => x)
   have hS : Same I.W.xs I.fl := by rw [← hsame.2]; exact hIW.wor.same
   refine (wfollow_any hIW.wor.wor hS hIW.told (fun g hg => ?_) k hk (t := I.tl k) hRk (hns k hk) c hok.2 0).mono ?_
   ·by_cases q : I.owt g = 0
    ·exact q
    ·have h3 := c3 g hg; have h4 := c4 g q; omega
   ·rintro e' W' ⟨v, v2, rfl, hw'⟩
    have hw'' : WFol W W' I.owt I.tob k I.vs I.ns I.bs D v v2 := by
     have := (e0 0).1
     rw [← this]
     exact hw'
    refine ⟨⟨v, by rw [(e0 0).2], hw''.row, fun g hg => Nat.le_trans hW.size (hw''.own g hg)⟩, hw''.mod, ?_, (I.tell1 om' k es).tell2 k v2 D, fun g => ((w.alloc (.cells S 45)).heap.size ≤ g ∧ om' g ≠ 0) ∨ (W.heap.size ≤ g ∧ v2.ownBlock = some g), (hIW.tell2 hk hw'').ownsF (fun g => or_assoc), ?_, fun g hg => ?_⟩
    ·rw [← hws]; exact hW1.size
    ·refine ⟨_, _, _, _, _, _, rfl, fun j hj => ?_, fun j hj => ?_⟩
     ·show FolR (if j = k then some es else I.tl j) (ups I.ns k (I.ns k ++ D) j) (ups I.bs k true j)
      unfold ups
      by_cases e : j = k
      ·simp only [if_pos e]
       exact .inr ⟨es, rfl, rfl, p1⟩
      ·simp only [if_neg e]
       exact hR j hj
     ·show (ups I.ns k (I.ns k ++ D) j).length ≤ _
      unfold ups
      by_cases e : j = k
      ·simp only [if_pos e]
       rw [List.length_append, e]
       omega
      ·simp only [if_neg e]
       omega
    ·rcases hg with ⟨q1, q2⟩ | ⟨q1, q2⟩
     ·refine ⟨by omega, .inl (isFol_mod (isFol_mod (p3 g q2 q1) hW (fun x => x)) hw''.mod (fun e => ?_))⟩
      have h4 := c4 g (by omega)
      have := hOl g (c7 g (by omega))
      omega
     ·have hsz := hW.size
      have hsz1 := hW1.size
      obtain ⟨cap, cur, _, hh, _⟩ := Sl.owns ⟨_, hw''.row2⟩ q2
      exact ⟨by omega, .inr ⟨by omega, cur, hh⟩⟩
  ·intro g hg
   rcases hg with e | e
   ·have hkc : cls kb = 2 := c2 kb (by rw [hk0.keep.mine]; omega)
    rcases e with e | e
    ·subst e; exact c7 _ (by omega)
    ·have := c5 _ e; exact c7 _ (by omega)
   ·have := c4 g (by omega); exact c7 _ (by omega)
 ·obtain ⟨x, hx'⟩ : ∃ x, (¬ (0 ≤ b ∧ b < 8) ∧ x = (14 : Int)) ∨ ((0 ≤ b ∧ b < 8) ∧ ¬ (1 ≤ c ∧ c ≤ 50) ∧ x = 12) := by
   by_cases q : 0 ≤ b ∧ b < 8
   ·exact ⟨12, .inr ⟨q, fun q2 => hok ⟨q, q2⟩, rfl⟩⟩
   ·exact ⟨14, .inl ⟨q, rfl⟩⟩
  have nok : ∀ (w1 W : World), NOK w1 [] W (.slice none 0 0) := fun w1 W => ⟨World.ownsRow_nil _ _ _ _, fun g hg => by simp [Value.ownBlock] at hg⟩
  refine (asked_news (S1 := No) (S2 := No) (Post1 := fun W => OneX W O ob I) (Post2 := PostE (w.heap.size + 1) O ob I) (D := []) (fre := false) (mo := false) (err := x) (O := O) (kb := kb) (wb := I.W.wb) (tob := I.tob) hS hI.has h1c rfl rfl hy hx hyF hOF hI.lt hyO hL (by simp) (fun g hg => hg.elim) (fun g hg => hg.elim)
   ⟨fun W W' h hm => h.mod hm (fun _ _ x => x), fun W W' b cs hb h hh hm => h.mod hm (fun g hg e => by have := hOl g hg; omega)⟩ (fun W1 => postE_ok (fun g hg => by rw [← hws]; exact hOl g hg) W1) (fun W hW => ?_) (fun W1 hW1 hP W hW => ?_)).mono (fun e w' ⟨he, hd⟩ => ⟨he, _, _, [], fun g hg => by rcases hg with q | q <;> exact q.elim, hd⟩)
  ·refine (follow_no kb b c x hx').mono ?_
   rintro e' W' ⟨rfl, hm⟩
   exact ⟨⟨_, rfl, nok _ _⟩, hm, hI1.mod (hW.trans hm) (fun _ _ x => x)⟩
  ·refine (wfollow_no I.W.wb I.tob b c x hx').mono ?_
   rintro e' W' ⟨rfl, hm⟩
   have hh := hP.mod (hW.trans hm) (fun _ _ x => x)
   refine ⟨⟨_, rfl, nok _ _⟩, hm, by rw [← hws]; exact hW1.size, I, No, hh.ownsF (fun g => ⟨.inl, fun q => q.elim id (fun q => q.elim)⟩), ⟨_, _, _, _, _, _, rfl, hR, fun k hk => by omega⟩, fun g hg => hg.elim⟩
end Go.Proofs.YthhibagcpjeihaaGreat
