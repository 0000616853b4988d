import Derived.Test.YthhibagcpjeihaaGreatIBook7NToRFacts3
import Derived.Test.YthhibagcpjeihaaGreatIFw6ToFw8
import Derived.Test.YthhibagcpjeihaaGreatIAppend2ToBook2N
import Derived.Test.YthhibagcpjeihaaGreatRows
namespace Go.Proofs.YthhibagcpjeihaaGreat
open Go.RowKit
open M
set_option linter.unusedVariables false
set_option linter.unusedSimpArgs false
set_option maxRecDepth 100000
set_option maxHeartbeats 4000000
theorem BkXN.more2 {wS w w' : World} {F F' : Nat → Prop} {xv xv' lv ov l : Value} {ls : List Nat} {yb rb : Nat} {hs : Array Value} (h : BkXN wS F xv ls) (hm : Mod F wS w) (hd : BkDN w w' yb ls.length lv xv ov l (ls.map hdrN) xv' rb hs) (hy : F yb) (hl : ∀ g, l.ownBlock = some g → wS.heap.size ≤ g) (hF : ∀ k, F' k → (k < wS.heap.size ∧ F k) ∨ (wS.heap.size ≤ k ∧ k < w.heap.size ∧ l.ownBlock ≠ some k)) :
  BkXN w' F' xv' (ls ++ [rb]) := by
 have hx := fun g hg => owns_lt h.row g hg
 have hs1 := hm.size
 have hF2 : ∀ k, F' k → k < wS.heap.size → F k := fun k hk hl => by
  rcases hF k hk with q | q
  ·exact q.2
  ·omega
 have hF3 : ∀ k, F' k → k < w.heap.size := fun k hk => by
  rcases hF k hk with q | q <;> omega
 have mm : Mod (fun g => F g ∨ g = yb ∨ xv.ownBlock = some g) wS w' := (hm.mono (S' := fun g => F g ∨ g = yb ∨ xv.ownBlock = some g) (fun _ _ x => .inl x)).trans' hd.mod (fun k hk hl' => by
  rcases hk with q | q | q
  ·exact .inr (.inl q)
  ·have := hl k q; omega
  ·exact .inr (.inr q))
 refine ⟨?_, fun g hg e => ?_, fun i hi => ?_⟩
 ·rw [List.length_append, List.map_append]
  exact hd.row
 ·rcases (hd.own g hg).2 with q | q
  ·exact h.far g q (hF2 g e (hx g q))
  ·have := hF3 g e; omega
 ·by_cases hil : i < ls.length
  ·rw [List.getElem_append_left hil]
   obtain ⟨h1, h2, hs', h3, h4, h5⟩ := h.each i hil
   have hlt := h3.lt
   have f1 : ¬ (F ls[i] ∨ ls[i] = yb ∨ xv.ownBlock = some ls[i]) := by
    rintro (e | e | e)
    ·exact h1 e
    ·exact h1 (e ▸ hy)
    ·exact h2 e
   refine ⟨fun e => h1 (hF2 _ e hlt), fun e => ?_, hs', mm.has h3 f1, h4, fun j v hv => ?_⟩
   ·rcases (hd.own _ e).2 with q | q
    ·exact h2 q
    ·omega
   ·obtain ⟨m, q1, q2, q3, q4⟩ := h5 j v hv
    have f2 : ∀ g, v.ownBlock = some g → ¬ (F g ∨ g = yb ∨ xv.ownBlock = some g) := fun g hg e => by
     rcases e with e | e | e
     ·exact (q4 g hg).1 e
     ·exact (q4 g hg).1 (e ▸ hy)
     ·exact (q4 g hg).2 e
    refine ⟨m, q1.mod mm f2, q2.mod mm (fun g hg => ⟨q1.lt g hg, f2 g hg⟩), q3, fun g hg => ⟨fun e => (q4 g hg).1 (hF2 g e (q1.lt g hg)), fun e => ?_⟩⟩
    rcases (hd.own _ e).2 with q | q
    ·exact (q4 g hg).2 q
    ·have := q1.lt g hg; omega
  ·obtain rfl : i = ls.length := by simp at hi; omega
   have g : (ls ++ [rb])[ls.length]'hi = rb := by simp
   rw [g]
   refine ⟨fun e => by have := hF3 rb e; have := hd.rb0.1; omega, hd.rb0.2, hs, hd.box, hd.size, fun j v hv => ?_⟩
   obtain ⟨m, q1, q2, q3, q4⟩ := hd.each j v hv
   refine ⟨m, q1, q2, q3, fun g hg => ⟨fun e => ?_, (q4 g hg).2.2.1⟩⟩
   rcases (q4 g hg).2.2.2 with q | q
   ·rcases hF g e with r | r
    ·have := hl g q; omega
    ·exact r.2.2 q
   ·have := hF3 g e; omega
structure PF (n : Nat) (I : OneI) : Prop where
 pd : PD n I
 fol : ∀ k, k < 8 → FolR (I.tl k) (I.ns k) (I.bs k)
 len : ∀ k, k < 8 → (I.ns k).length ≤ 50 * n
theorem PF.more (n : Nat) (I : OneI) (h : PF n I) : PF (n + 1) I := ⟨PD.more n I h.pd, h.fol, fun k hk => by have := h.len k hk; omega⟩
theorem pf_new (n tb kb wb tob : Nat) (room : Int) : PF n (newI tb kb wb tob room) := ⟨pd_new n tb kb wb tob room, fun k hk => .inl ⟨rfl, rfl, rfl⟩, fun k hk => Nat.zero_le _⟩
theorem PF.of {n : Nat} {I I' : OneI} (h : PF n I) (e : I'.tl = I.tl ∧ I'.ns = I.ns ∧ I'.bs = I.bs) (hp : PD (n + 1) I') : PF (n + 1) I' := ⟨hp, fun k hk => by rw [e.1, e.2.1, e.2.2]; exact h.fol k hk, fun k hk => by rw [e.2.1]; have := h.len k hk; omega⟩
theorem DoneR.keep {I I' : OneI} {c : Cmd} (h : DoneR I c I') : I'.tl = I.tl ∧ I'.ns = I.ns ∧ I'.bs = I.bs := by
 rcases h with ⟨_, okp, rfl⟩ | ⟨_, _, okp, rfl⟩ | ⟨_, _, _, okp, Wn, _, _, rfl⟩ | ⟨_, _, _, okp, rfl⟩ | ⟨_, _, _, okp, Wn, _, _, rfl⟩ <;> exact ⟨rfl, rfl, rfl⟩
theorem PF.folk {n : Nat} {I I' : OneI} (h : PF n I) (hk : FolK I I') : PF (n + 1) I' := by
 obtain ⟨om, tl, owt, vs, ns, bs, rfl, h1, h2⟩ := hk
 have p := PD.more n I h.pd
 exact ⟨⟨p.kb, p.mb, p.sh, p.same, p.live, p.torn, p.file, p.fuse, p.ch, p.used, p.now, p.most⟩, h1, fun k hk => by have := h2 k hk; have := h.len k hk; show (ns k).length ≤ _; omega⟩
theorem pf_pick (n : Nat) (I : OneI) (h : PF n I) : (∃ b, I.kb = some b) ∧ I.sh = false := ⟨h.pd.kb, h.pd.sh⟩
theorem done_pf {w : World} {O : Nat → Prop} {ob n : Nat} {I : OneI} (h : OneX w O ob I) (hpf : PF n I) (hn : n ≤ 1048576) (c : Cmd) (ht : -9223372036854775808 ≤ c.time ∧ c.time ≤ 9223372036854775807) :
  Calls Tryz.prog 15 #[.pointer (some ⟨ob, 0, none⟩), .agg (cmdCells c)] w fun e w' => e = .returned (.bool true) ∧ OneD w w' O ob (PF (n + 1)) := by
 have hp := hpf.pd
 obtain ⟨kb, hkb⟩ := hp.kb
 have hc := hp.ch
 have hnow := hp.now
 have hmo := hp.most
 have hused := hp.used
 have hfile := hp.file
 have hN : 0 ≤ I.now ∧ I.now ≤ 4611686018427387000 := by omega
 have hb : (I.K.T.b I.K.file).length ≤ I.K.T.used := by
  have : I.K.file = 0 ∨ I.K.file = 1 := by omega
  unfold TP.used
  rcases this with e | e <;> rw [e] <;> omega
 obtain ⟨⟨pt0, hk0⟩, _⟩ := h.keep.some kb hkb
 by_cases hz : (doK I.now I.fl c).1 = 0
 ·have hfit := doK_cfit hN (fun m p l hn' hf => (hk0.keep.here m p l hn' hf).elim fun b hb => hb.2.1) hz
  have hl := rec1_len hfit
  obtain ⟨s1, s2, s3⟩ := saveI_live hp c hl
  refine (done_any h hkb c ht hN hmo (by omega) (by rw [hp.sh, hp.live]; rfl) hp.same (fun W pt hk => do_t hk hN hp.torn hfile (by omega) c) (fun _ e q => ?_) (fun _ e => ?_)).mono ?_
  ·rw [s2] at q
   have := s1 q
   omega
  ·rcases s3 with s | s <;> (have := s.1; omega)
  ·rintro e w' ⟨he, ⟨I', hI, hR⟩, hm⟩
   refine ⟨he, ⟨I', hI, hpf.of hR.keep ?_⟩, hm⟩
   have hdt := doK_time I.now I.fl c
   rcases hR with ⟨q, _⟩ | ⟨_, q, _⟩ | ⟨_, _, q, okp, Wn, e1, e2, rfl⟩ | ⟨_, _, q, okp, rfl⟩ | ⟨_, _, q, _⟩
   ·exact absurd hz q
   ·rw [hp.sh] at q; cases q
   ·have hwt := worR_weight hI.wor.wor
    have hwt : 200 ≤ weightOf Wn.xs ∧ weightOf Wn.xs ≤ 100000 := hwt
    rcases s3 with s | s
    ·obtain ⟨_, t1, t2, t3, t4, t5⟩ := s
     refine ⟨⟨kb, hkb⟩, hp.mb, hp.sh, ⟨e1, e2⟩, t1, t2, t3, t4, ?_, t5, ?_, ?_⟩
     ·show 0 ≤ I.ch + 1 ∧ I.ch + 1 ≤ ((n + 1 : Nat) : Int); omega
     ·show 0 ≤ (doK I.now I.fl c).2.1 ∧ (doK I.now I.fl c).2.1 ≤ 100 * (I.ch + 1); omega
     ·show 0 ≤ max I.most (weightOf Wn.xs) ∧ max I.most (weightOf Wn.xs) ≤ 1000000; omega
    ·have := s.1; omega
   ·rcases s3 with s | s
    ·have := s.1; omega
    ·obtain ⟨_, t1, t2, t3, t4, t5⟩ := s
     exact ⟨⟨kb, hkb⟩, hp.mb, hp.sh, hp.same, t1, t2, t3, t4, ⟨hc.1, by show I.ch ≤ ((n + 1 : Nat) : Int); omega⟩, t5, hnow, hmo⟩
   ·rcases s3 with s | s <;> (have := s.1; omega)
 ·refine (done_any h hkb c ht hN hmo (by omega) (by rw [hp.sh, hp.live]; rfl) hp.same (fun W pt hk => do_t hk hN hp.torn hfile (by omega) c) (fun q => absurd q hz) (fun q => absurd q hz)).mono ?_
  rintro e w' ⟨he, ⟨I', hI, hR⟩, hm⟩
  refine ⟨he, ⟨I', hI, hpf.of hR.keep ?_⟩, hm⟩
  rcases hR with ⟨_, okp, rfl⟩ | ⟨q, _⟩ | ⟨q, _⟩ | ⟨q, _⟩ | ⟨q, _⟩
  ·exact PD.more _ _ ⟨hp.kb, hp.mb, hp.sh, hp.same, hp.live, hp.torn, hp.file, hp.fuse, hp.ch, hp.used, hp.now, hp.most⟩
  all_goals exact absurd q hz
theorem PlayX.followed {P : Nat → OneI → Prop} (hP : ∀ n I, P n I → P (n + 1) I) {w0 w w' : World} {who : Nat → Nat} {yb : Nat} {lv av bv : Value} {os : List Nat} {n j b : Nat} {la lb : List Nat} (h : PlayX P (bkB av bv b) w0 w who yb lv av bv os n) (hj : j < os.length) {I : OneI} {D : List Nw} {S1 S2 : Nat → Prop} (hP1 : ∀ I', FolK I I' → P (n + 1) I')
  (hla : la.length ≤ b ∧ lb.length ≤ b ∧ BkXS w (fun k => farX who yb lv k ∨ bv.ownBlock = some k) av la ∧ BkXN w (fun k => farX who yb lv k ∨ av.ownBlock = some k) bv lb) (hbv : ∀ g, bv.ownBlock = some g → w0.heap.size ≤ g) (hS : ∀ g, S1 g ∨ S2 g → who g = j + 1)
  (hd : AskD w w' S1 S2 (PostE (w.heap.size + 1) (fun k => who k = j + 1) os[j] I) D yb lv av bv lb) :
  ∃ who' bv', PlayX P (bkB av bv' (b + 1)) w0 w' who' yb lv av bv' os (n + 1) ∧ ∀ g, bv'.ownBlock = some g → w0.heap.size ≤ g := by
 classical
 obtain ⟨l1, l2, l3, l4⟩ := hla
 obtain ⟨W1, W3, u, bv', rb, hs, e1, e2, e3, e4, e5, e6⟩ := hd.ex
 obtain ⟨e0, I', G, hX, hK, hG⟩ := e3
 have hm0 := h.mod.size
 have s3 := e2.size
 have s4 := e6.mod.size
 have hyb := h.has.lt
 have hz : ∀ k, w.heap.size ≤ k → who k = 0 := fun k hk => by
  by_cases e : who k = 0
  ·exact e
  ·have := (h.wlt k e).2; omega
 have hlt3 : ∀ k, (who k = j + 1 ∨ G k) → k < W3.heap.size := hX.lt
 have hGn : ∀ k, k < w.heap.size → ¬ G k := fun k hk e => by have := (hG k e).1; omega
 have hfar : ∀ g, bv.ownBlock = some g → g < w.heap.size ∧ who g = 0 ∧ g ≠ yb ∧ lv.ownBlock ≠ some g ∧ av.ownBlock ≠ some g := fun g hg => by
  have q := l4.far g hg
  refine ⟨owns_lt l4.row g hg, ?_, fun e => q (.inl (.inr (.inl e))), fun e => q (.inl (.inr (.inr e))), fun e => q (.inr e)⟩
  by_cases z : who g = 0
  ·exact z
  ·exact absurd (.inl (.inl z)) q
 have hu : ∀ g, u.ownBlock = some g → ¬ G g := fun g hg e => by
  obtain ⟨cap, cur, _, hh, _⟩ := Sl.owns (m := D.length) ⟨_, e4⟩ hg
  rcases (hG g e).2 with q | ⟨q, _⟩
  ·exact isFol_ne q hh
  ·have := (e5 g hg).2; omega
 have MM : Mod (fun k => who k = j + 1 ∨ k = yb ∨ bv.ownBlock = some k) w w' := (e2.mono (S' := fun k => who k = j + 1 ∨ k = yb ∨ bv.ownBlock = some k) (fun g _ x => .inl (hS g x))).trans' e6.mod (fun k hk hl => by
  rcases hk with q | q | q
  ·exact .inr (.inl q)
  ·have := (e5 k q).1; omega
  ·exact .inr (.inr q))
 have hbv' : ∀ g, bv'.ownBlock = some g → bv.ownBlock = some g ∨ W3.heap.size ≤ g := fun g hg => (e6.own g hg).2
 refine ⟨fun k => if G k then j + 1 else who k, bv', ⟨e6.has, MM.owns h.row (fun k hk hs => ?_), fun i hi => ?_, fun k hk => ?_, ?_, fun k hk => ?_, by have := h.cnt; omega, fun k => ?_, h.mod.trans' MM (fun k hk hl => ?_), ?_⟩, fun g hg => ?_⟩
 ·obtain ⟨q1, q2, q3⟩ := h.lv0 k hk
  rcases hs with e | e | e
  ·omega
  ·exact q3 e
  ·exact (hfar k e).2.2.2.1 hk
 ·by_cases e : i = j
  ·subst e
   refine ⟨I', (hX.mod e6.mod (fun k hk hs => ?_)).owns (fun k => ?_), hP1 I' hK⟩
   ·rcases hk with q | q
    ·have hkl := (h.wlt k (by omega)).2
     rcases hs with e | e | e
     ·subst e; have := h.yb0.1; omega
     ·have := (e5 k e).1; omega
     ·have := (hfar k e).2.1; omega
    ·have := (hG k q).1
     rcases hs with e | e | e
     ·omega
     ·exact hu k e q
     ·have := (hfar k e).1; omega
   ·by_cases c : G k
    ·simp only [if_pos c]
     exact ⟨fun _ => trivial, fun _ => .inr c⟩
    ·simp only [if_neg c]
     exact ⟨fun x => x.elim id (fun y => absurd y c), fun x => .inl x⟩
  ·obtain ⟨J, r1, r2⟩ := h.ones i hi
   refine ⟨J, (r1.mod MM (fun k hk hs => ?_)).owns (fun k => ?_), hP _ _ r2⟩
   ·have hk : who k = i + 1 := hk
    rcases hs with q | q | q
    ·omega
    ·subst q; have := h.yb0.1; omega
    ·have := (hfar k q).2.1; omega
   ·by_cases c : G k
    ·simp only [if_pos c]
     have := hz k (by have := (hG k c).1; omega)
     omega
    ·simp only [if_neg c]
 ·have hk : (if G k then j + 1 else who k) ≠ 0 := hk
  by_cases c : G k
  ·have := (hG k c).1
   have := hlt3 k (.inr c)
   omega
  ·rw [if_neg c] at hk
   have := h.wlt k hk
   omega
 ·rw [if_neg (hGn yb hyb)]
  exact h.yb0
 ·show (if G k then j + 1 else who k) = 0 ∧ _
  rw [if_neg (hGn k (owns_lt h.row k hk))]
  exact h.lv0 k hk
 ·show (if G k then j + 1 else who k) ≤ _
  have := h.top k
  split <;> omega
 ·rcases hk with q | q | q
  ·have := (h.wlt k (by omega)).1; omega
  ·subst q; have := h.yb0.2; omega
  ·have := hbv k q; omega
 ·refine ⟨la, lb ++ [rb], by omega, by simp; omega, l3.mod (MM.mono (fun k _ e => ?_)) (fun k hk e => ?_), l4.more2 (e2.mono (fun k _ e => ?_)) e6 (.inl (.inr (.inl rfl))) (fun g hg => (e5 g hg).1) (fun k e => ?_)⟩
  ·rcases e with e | e | e
   ·exact .inl (.inl (by omega))
   ·exact .inl (.inr (.inl e))
   ·exact .inr e
  ·unfold farX at e
   simp only [if_neg (hGn k hk)] at e
   rcases e with e | e
   ·exact .inl e
   ·rcases hbv' k e with q | q
    ·exact .inr q
    ·omega
  ·exact .inl (.inl (by have := hS k e; omega))
  ·by_cases c : G k
   ·have := (hG k c).1
    exact .inr ⟨by omega, hlt3 k (.inr c), fun q => hu k q c⟩
   ·unfold farX at e
    simp only [if_neg c] at e
    refine .inl ⟨?_, e⟩
    rcases e with (e | e | e) | e
    ·exact (h.wlt k e).2
    ·omega
    ·exact owns_lt h.row k e
    ·exact owns_lt l3.row k e
 ·rcases hbv' g hg with q | q
  ·exact hbv g q
  ·omega
def JF (w0 : World) (yb : Nat) (m : Nat) (W : World) : Prop := ∃ who lv av bv os b, (b ≤ m ∧ b ≤ 1048577) ∧ PlayX PF (bkB av bv b) w0 W who yb lv av bv os m ∧ ∀ g, bv.ownBlock = some g → w0.heap.size ≤ g
theorem JF.start (w : World) : JF w w.heap.size 0 (w.alloc (.cells #[.slice none 0 0, .slice none 0 0, .slice none 0 0] 34)) :=
 ⟨fun _ => 0, .slice none 0 0, .slice none 0 0, .slice none 0 0, [], 0, by omega, ⟨Has.new w _ _, by simpa using World.ownsRow_nil _ _ _ _, fun j hj => absurd hj (Nat.not_lt_zero _), fun k hk => absurd rfl hk, ⟨rfl, Nat.le_refl _⟩, fun k hk => by simp [Value.ownBlock] at hk, Nat.zero_le _, fun k => Nat.zero_le _, (Mod.refl No w).alloc _,
  ⟨[], [], Nat.le_refl _, Nat.le_refl _, BkXS.nil _ _, BkXN.nil _ _⟩⟩, fun g hg => by simp [Value.ownBlock] at hg⟩
theorem step_follows {w0 w : World} {yb m : Nat} (h : JF w0 yb m w) (hm : m ≤ 1048576) (x : OpL) {k : Int} (hk : x.S[0]? = some (.int .i64 k)) (h1 : k = 1 ∨ k = 2 ∨ k = 4 ∨ k = 8) :
  Calls Tryz.prog 10 #[ptrTo yb, .agg x.S] w fun e w' => e = .returned (.bool true) ∧ JF w0 yb (m + 1) w' := by
 obtain ⟨who, lv, av, bv, os, bd, hbd, hP, hbv⟩ := h
 obtain ⟨k', a, b, c, cm, hS, ha, hr, hC, ht⟩ := x.ok.nums
 have ek : k' = k := by
  have := hS.k0
  rw [hk] at this
  injection this with e
  injection e with _ e
  exact e.symm
 subst ek
 have toJ : ∀ (w' : World), PlayD PF (bkB av bv bd) w0 w' yb av bv m → JF w0 yb (m + 1) w' := fun w' hd => by
  obtain ⟨⟨who', lv', os', q⟩⟩ := hd
  exact ⟨who', lv', av, bv, os', bd, by omega, q, hbv⟩
 by_cases k1 : k' = 1
 ·subst k1
  have c0 : c = 0 := by
   have h3 := x.live hk
   have := hS.c3
   rw [h3] at this
   injection this with e
   injection e with _ e
   exact e.symm
  subst c0
  exact (step_new (bkB_ok _ _ _) PF.more hP (by omega) hS (fun tb kb wb tob _ => pf_new _ _ _ _ _ _)).mono fun e w' ⟨he, hd⟩ => ⟨he, toJ w' hd⟩
 ·by_cases hne : 0 < os.length
  case neg =>
   obtain rfl : os = [] := List.eq_nil_of_length_eq_zero (by omega)
   exact (step_none (bkB_ok _ _ _) PF.more hP hS k1).mono fun e w' ⟨he, hd⟩ => ⟨he, toJ w' hd⟩
  have hp := pickN_range a (os.length : Int) (by omega)
  obtain ⟨j, hja⟩ : ∃ j : Nat, pickN a (os.length : Int) = (j : Int) := ⟨(pickN a (os.length : Int)).toNat, by omega⟩
  have hj : j < os.length := by rw [hja] at hp; omega
  have hW := fun n' => hP.still (bkB_ok _ _ _) (((Mod.refl No w).alloc (.cells x.S 45)).drewN n')
  refine (step_pick (bkB_ok _ _ _) pf_pick hP (by omega) hne hS ha hr (by omega) (cmdCells cm) rfl hC j hj hja (Q := fun _ w' => JF w0 yb (m + 1) w') (fun e n' => ?_) (fun e n' => ?_))
  ·obtain ⟨I, hI, hch⟩ := (hW n').ones j hj
   refine (done_pf hI hch hm cm ht).mono ?_
   rintro e' w' ⟨he, hd⟩
   obtain ⟨who', q1, _⟩ := (hW n').step (bkB_ok _ _ _) PF.more hj (fun _ q => q) hd
   exact ⟨he, who', _, _, _, _, bd, by omega, q1, hbv⟩
  ·obtain ⟨I, hI, hch⟩ := (hW n').ones j hj
   obtain ⟨kb, hkb⟩ := hch.pd.kb
   have : k' = 4 ∨ k' = 8 := by omega
   rcases this with rfl | rfl
   ·exact (asked_left (hI.ask hkb hch.pd.same) hS).mono fun e w' h => ⟨h.1, who, lv, av, bv, os, bd, by omega, ((hW n').still (bkB_ok _ _ _) h.2).more PF.more, hbv⟩
   ·obtain ⟨la, lb, l1, l2, l3, l4⟩ := (hW n').book
    refine (asked_follow (F := fun k => farX who yb lv k ∨ av.ownBlock = some k) hS hI hkb hch.pd.same hch.fol (fun k hk => by have := hch.len k hk; omega) (hW n').has l4 (.inl (.inr (.inl rfl))) (fun g (hg : who g = j + 1) => .inl (.inl (by omega))) (by rw [(hW n').yb0.1]; omega) (by omega)).mono ?_
    rintro e' w' ⟨he, S1, S2, D, hSS, hd⟩
    obtain ⟨who', bv', q1, q2⟩ := (hW n').followed PF.more hj (fun I' hK => hch.folk hK) ⟨l1, l2, l3, l4⟩ hbv hSS hd
    exact ⟨he, who', lv, av, bv', os, bd + 1, by omega, q1, q2⟩
set_option maxHeartbeats 8000000
theorem whole_all {w : World} {F F' : Nat → Prop} {yb : Nat} {lv av bv : Value} {la lb : List Nat} (hy : Has w yb #[lv, av, bv] 34) (ha : BkXS w F av la) (hb : BkXN w F' bv lb) (hla : la.length ≤ 1099511627776) (hlb : lb.length ≤ 1099511627776) :
  Calls Tryz.prog 11 #[.pointer (some ⟨yb, 1, none⟩)] w fun e w' => e = .returned (.bool true) ∧ Mod No w w' := by
 have HY := hide hy
 have HA := hide ha
 have HB := hide hb
 have HLA := hide hla
 have HLB := hide hlb
 clear hy ha hb hla hlb
 go_enter Tryz.func11, Tryz.ntmps11
 go_upto_block 0 with fail
 refine wp_block ?_
 refine wl1S (unhide HA) ((unhide HY).cell 1) (unhide HY).lt (unhide HLA) _ _ _ _ _ _ _ _ _ _ _ _ _ _ _ _ _ _ _ _ _ _ _ _ _ _ _ _ _ _ _ _ _ _ _ _ _ _ _ _ _ _ _ _ _ _ _ _ _ _ _ _ _ _ _ _ _ _ _ _ _ _ _ _ _ _ _ _ _ _ _ _ _ _ _ _ _ _ _ _ _ _ _ _ _ _ _ _ _ _ _ _ _ _ _ _ _ _ _ _ _ _ _ _ _ _ _ _ _ _ _ _ _ _ _ _ _ _ _ _ _ _ _ _ _ _ _ _ _ _ _ _ _ _ _ _ _ _ _ _ _ _ _ _ _ _ _ _ _ _ _ _ _ ?_
 intro x2 x3 x4 x5 x6 x11 x12 x13 x14 x15 x16 x17 x18 x19 x20 x21 x22 x23 x24 x25 x26 x27 x28 x29 x30 x31 x32 x33 x34 x35 x36 x37 x38 x39 x40 x41 x42 x43 x44 x45 x46 x47 x48 x49 x50 x51 x52 x53 x54 x55 x56 x57 x58 x59 x60 x61 x62 x63 x64 x65 x66 x67 x68 x69 x70 x71 x72 x73 x74 x75 x76 x77 x78 x79 x80 x81 x82 x83 x84 x85 x86 x87 x88 x89 x90 W1 M1
 have HB1 := hide ((unhide HB).mod (F' := F') ((unhide M1).mono (S' := F') (fun _ _ x => x.elim)) (fun _ _ x => x))
 have HY1 := hide ((unhide M1).has (unhide HY) (fun x => x))
 go_upto_block 6 with fail
 refine wp_block ?_
 refine wl1N (unhide HB1) ((unhide HY1).cell 2) (unhide HY1).lt (unhide HLB) _ _ _ _ _ _ _ _ _ _ _ _ _ _ _ _ _ _ _ _ _ _ _ _ _ _ _ _ _ _ _ _ _ _ _ _ _ _ _ _ _ _ _ _ _ _ _ _ _ _ _ _ _ _ _ _ _ _ _ _ _ _ _ _ _ _ _ _ _ _ _ _ _ _ _ _ _ _ _ _ _ _ _ _ _ _ _ _ _ _ _ _ _ _ _ _ _ _ _ _ _ _ _ _ _ _ _ _ _ _ _ _ _ _ _ _ _ _ _ _ _ _ _ _ _ _ _ _ _ _ _ _ _ _ _ _ _ _ _ _ _ _ _ _ _ _ _ _ _ _ _ _ _ ?_
 intro y2 y7 y8 y9 y10 y91 y92 y93 y94 y95 y96 y97 y98 y99 y100 y101 y102 y103 y104 y105 y106 y107 y108 y109 y110 y111 y112 y113 y114 y115 y116 y117 y118 y119 y120 y121 y122 y123 y124 y125 y126 y127 y128 y129 y130 y131 y132 y133 y134 y135 y136 y137 y138 y139 y140 y141 y142 y143 y144 y145 y146 y147 y148 y149 y150 y151 y152 y153 W2 M2
 have FIN := hide ((unhide M1).trans (unhide M2))
 go_wp2
 go_ret
 exact ⟨rfl, unhide FIN⟩
set_option maxHeartbeats 4000000
theorem JF.whole {w0 w : World} {yb m : Nat} (h : JF w0 yb m w) : Calls Tryz.prog 11 #[.pointer (some ⟨yb, 1, none⟩)] w fun e w' => e = .returned (.bool true) ∧ JF w0 yb m w' := by
 obtain ⟨who, lv, av, bv, os, b, hb, q, h1⟩ := h
 obtain ⟨la, lb, l1, l2, l3, l4⟩ := q.book
 exact (whole_all q.has l3 l4 (by omega) (by omega)).mono fun e w' ⟨he, hw⟩ => ⟨he, who, lv, av, bv, os, b, hb, q.still (bkB_ok _ _ _) hw, h1⟩
theorem follows_any (a : Option Addr) (n cap : Nat) (hn : n ≤ 1048576) (w : World) (hs : Ops w a n) :
  Calls Tryz.prog 5 #[.slice a n cap] w fun e w' => e = .returned (.bool true) ∧ Mod No w w' := by
 have HL := hide (living_any a n cap (by omega) w hs)
 clear hs
 go_enter Tryz.func5, Tryz.ntmps5
 go_wp2_with fail
 refine (unhide HL).mono ?_
 rintro e w1 ⟨v, rfl, ⟨l, hl, ho, hb⟩, hm⟩
 obtain ⟨a1, c1, rfl⟩ := slice_of_owns ho
 subst hl
 have hlive := live_of ho rfl
 have mA : Mod No w1 (w1.alloc (.cells #[.int .i64 1, .int .i64 2, .int .i64 4, .int .i64 8] 3)) := (Mod.refl _ _).alloc _
 have hK := Has.new w1 #[.int .i64 1, .int .i64 2, .int .i64 4, .int .i64 8] 3
 have HP := hide (plays_any (w := w1.alloc (.cells #[.int .i64 1, .int .i64 2, .int .i64 4, .int .i64 8] 3)) a1 l.length c1 (by omega) (hlive.mod mA (fun _ _ _ _ x => x)) w1.heap.size 4 [1, 2, 4, 8] (fun q hq => by
   have : q = 0 ∨ q = 1 ∨ q = 2 ∨ q = 3 := by simp at hq; omega
   rw [hK.cell]
   rcases this with rfl | rfl | rfl | rfl <;> rfl) hK.lt (by simp) true (JF _ _) (JF.start _)
  (fun m W h => by obtain ⟨_, _, _, _, _, _, _, q, _⟩ := h; exact q.mod) (fun m W h => by obtain ⟨who, lv, av, bv, os, b, hb, q, h1⟩ := h; exact ⟨who, lv, av, bv, os, b, by omega, q.more PF.more, h1⟩) (fun m W W' h hm => by obtain ⟨who, lv, av, bv, os, b, hb, q, h1⟩ := h; exact ⟨who, lv, av, bv, os, b, hb, q.still (bkB_ok _ _ _) hm, h1⟩)
  (fun m W x k ck hm hJ hk hck hin hsw => step_follows hJ (by omega) x hk (by
    simp [inK] at hin
    omega))
  (fun m W hJ => hJ.whole))
 have MM := hide (hm.trans mA)
 clear HL ho hb hm hlive mA hK
 go_wp2_with fail
 refine (unhide HP).mono ?_
 rintro e w2 ⟨rfl, hm2⟩
 have M2 := hide ((unhide MM).trans hm2)
 clear hm2 HP MM
 go_wp2
 go_ret
 exact ⟨rfl, unhide M2⟩
theorem bulk_one {H : Type} (d : DataW H) : 1 ≤ Rows.uptoBulk d := by
 cases d with
 | lit l => cases l <;> simp [Rows.uptoBulk]
 | nil => simp [Rows.uptoBulk]
 | ptr d => simp [Rows.uptoBulk]
 | slice elems spare => simp [Rows.uptoBulk]
 | agg parts => simp [Rows.uptoBulk]
 | iface t d => simp [Rows.uptoBulk]
 | map entries => simp [Rows.uptoBulk]
 | held h => simp [Rows.uptoBulk]
theorem bulk_part {H : Type} {d : DataW H} {l : List (DataW H)} (h : d ∈ l) : Rows.uptoBulk d ≤ Rows.uptoBulkAll l := by
 induction l with
 | nil => cases h
 | cons x r ih =>
  simp only [Rows.uptoBulkAll]
  cases List.mem_cons.1 h with
  | inl e => subst e; omega
  | inr e => have := ih e; omega
theorem bulk_len {H : Type} (l : List (DataW H)) : l.length ≤ Rows.uptoBulkAll l := by
 induction l with
 | nil => simp [Rows.uptoBulkAll]
 | cons x r ih => have := bulk_one x; simp only [Rows.uptoBulkAll, List.length_cons]; omega
theorem bulk_slice {H : Type} {es sp : List (DataW H)} {l : List (DataW H)} (h : (DataW.slice es sp : DataW H) ∈ l) (hk : Rows.uptoSmall H l = true) : es.length ≤ 1048576 := by
 have h1 : Rows.uptoBulkAll l ≤ 1048576 := of_decide_eq_true hk
 have h2 := bulk_part h
 have h3 := bulk_len es
 simp only [Rows.uptoBulk] at h2
 omega
end Go.Proofs.YthhibagcpjeihaaGreat
