import Derived.Test.YthhibagcpjeihaaGreatHLaw9ToLaw12
import Derived.Test.YthhibagcpjeihaaGreatHLaw3ToLaw6
import Derived.Test.YthhibagcpjeihaaGreatHLaw31ToArgsG
import Derived.Test.YthhibagcpjeihaaGreatHRef26ToRef30
import Derived.Test.YthhibagcpjeihaaGreatHBaseToMaps
import Derived.Orders
namespace Go.Proofs.YthhibagcpjeihaaGreat
open Go.RowKit
open M
set_option linter.unusedVariables false
set_option linter.unusedSimpArgs false
set_option maxRecDepth 100000
set_option maxHeartbeats 4000000
structure PD (n : Nat) (I : OneI) : Prop where
 kb : ∃ b, I.kb = some b
 mb : I.mb = none
 sh : I.sh = false
 same : I.W.now = I.now ∧ I.W.fl = I.fl
 live : I.K.live = true
 torn : I.K.torn = false
 file : I.K.file < 2
 fuse : I.K.T.fuse < 0
 ch : 0 ≤ I.ch ∧ I.ch ≤ n
 used : (I.K.T.used : Int) ≤ 60 * I.ch
 now : 0 ≤ I.now ∧ I.now ≤ 100 * I.ch
 most : 0 ≤ I.most ∧ I.most ≤ 1000000
theorem PD.more (n : Nat) (I : OneI) (h : PD n I) : PD (n + 1) I := ⟨h.kb, h.mb, h.sh, h.same, h.live, h.torn, h.file, h.fuse, by have := h.ch; omega, h.used, h.now, h.most⟩
theorem pd_new (n tb kb wb tob : Nat) (room : Int) : PD n (newI tb kb wb tob room) := by
 refine ⟨⟨_, rfl⟩, rfl, rfl, ⟨rfl, rfl⟩, rfl, rfl, ?_, ?_, ?_, ?_, ?_, ?_⟩
 ·show (0 : Nat) < 2; omega
 ·show (-1 : Int) < 0; omega
 ·show (0 : Int) ≤ 0 ∧ (0 : Int) ≤ (n : Int); omega
 ·show (((0 : Nat) + 0 + 0 + 0 : Nat) : Int) ≤ 60 * 0; omega
 ·show (0 : Int) ≤ 0 ∧ (0 : Int) ≤ 100 * 0; omega
 ·show (0 : Int) ≤ 200 ∧ (200 : Int) ≤ 1000000; omega
theorem saveI_live {n : Nat} {I : OneI} (h : PD n I) (c : Cmd) (hl : (recB I.now [entOf I.now c]).length ≤ 42) :
  (2 * I.most + 60 * (I.ch + 1) + 180 ≤ I.K.T.room → (saveI I c).1 = 0) ∧ (saveI I c).2.T.room = I.K.T.room ∧
  ((saveI I c).1 = 0 ∧ (saveI I c).2.live = true ∧ (saveI I c).2.torn = false ∧ (saveI I c).2.file < 2 ∧ (saveI I c).2.T.fuse < 0 ∧ ((saveI I c).2.T.used : Int) ≤ 60 * (I.ch + 1) ∨
   (saveI I c).1 = 15 ∧ (saveI I c).2.live = true ∧ (saveI I c).2.torn = false ∧ (saveI I c).2.file < 2 ∧ (saveI I c).2.T.fuse < 0 ∧ ((saveI I c).2.T.used : Int) ≤ 60 * I.ch) := by
 have e1 : saveI I c = layK I.K (recB I.now [entOf I.now c]) := by
  unfold saveI saveK
  rw [if_neg (by rw [h.torn]; simp)]
 rw [e1]
 unfold layK
 rw [if_neg (by rw [h.live]; simp)]
 have hu := h.used
 have hm := h.most
 have hc := h.ch
 by_cases hr : I.K.T.room < (I.K.T.used : Int) + (recB I.now [entOf I.now c]).length
 ·have e2 : layP I.K.T I.K.file (recB I.now [entOf I.now c]) = (15, I.K.T) := by unfold layP; rw [if_pos hr]
  rw [e2]
  refine ⟨fun q => by omega, rfl, .inr ⟨rfl, rfl, h.torn, h.file, h.fuse, hu⟩⟩
 ·obtain ⟨l1, l2, l3, l4⟩ := layP_ok (r := recB I.now [entOf I.now c]) h.file h.fuse (by omega)
  refine ⟨fun _ => l1, l3, .inl ⟨l1, ?_, h.torn, h.file, ?_, ?_⟩⟩
  ·show ((layP I.K.T I.K.file (recB I.now [entOf I.now c])).1 != 16) = true
   rw [l1]; rfl
  ·show (layP I.K.T I.K.file (recB I.now [entOf I.now c])).2.fuse < 0
   rw [l2]; exact h.fuse
  ·show ((layP I.K.T I.K.file (recB I.now [entOf I.now c])).2.used : Int) ≤ _
   rw [l4]; omega
theorem done_pd {w : World} {O : Nat → Prop} {ob n : Nat} {I : OneI} (h : OneX w O ob I) (hp : PD n I) (hn : n ≤ 1048576) (c : Cmd) (ht : -9223372036854775808 ≤ c.time ∧ c.time ≤ 9223372036854775807) :
  Calls Tryz.prog 15 #[.pointer (some ⟨ob, 0, none⟩), .agg (cmdCells c)] w fun e w' => e = .returned (.bool true) ∧ OneD w w' O ob (PD (n + 1)) := by
 obtain ⟨kb, hkb⟩ := hp.kb
 have hc := hp.ch
 have hnow := hp.now
 have hmo := hp.most
 have hused := hp.used
 have hfile := hp.file
 have hN : 0 ≤ I.now ∧ I.now ≤ 4611686018427387000 := by omega
 have hb : (I.K.T.b I.K.file).length ≤ I.K.T.used := by
  have : I.K.file = 0 ∨ I.K.file = 1 := by omega
  unfold TP.used
  rcases this with e | e <;> rw [e] <;> omega
 obtain ⟨⟨pt0, hk0⟩, _⟩ := h.keep.some kb hkb
 by_cases hz : (doK I.now I.fl c).1 = 0
 ·have hfit := doK_cfit hN (fun m p l hn' hf => (hk0.keep.here m p l hn' hf).elim fun b hb => hb.2.1) hz
  have hl := rec1_len hfit
  obtain ⟨s1, s2, s3⟩ := saveI_live hp c hl
  refine (done_any h hkb c ht hN hmo (by omega) (by rw [hp.sh, hp.live]; rfl) hp.same (fun W pt hk => do_t hk hN hp.torn hfile (by omega) c) (fun _ e q => ?_) (fun _ e => ?_)).mono ?_
  ·rw [s2] at q
   have := s1 q
   omega
  ·rcases s3 with s | s <;> (have := s.1; omega)
  ·rintro e w' ⟨he, ⟨I', hI, hR⟩, hm⟩
   refine ⟨he, ⟨I', hI, ?_⟩, hm⟩
   have hdt := doK_time I.now I.fl c
   rcases hR with ⟨q, _⟩ | ⟨_, q, _⟩ | ⟨_, _, q, okp, Wn, e1, e2, rfl⟩ | ⟨_, _, q, okp, rfl⟩ | ⟨_, _, q, _⟩
   ·exact absurd hz q
   ·rw [hp.sh] at q; cases q
   ·have hwt := worR_weight hI.wor.wor
    have hwt : 200 ≤ weightOf Wn.xs ∧ weightOf Wn.xs ≤ 100000 := hwt
    rcases s3 with s | s
    ·obtain ⟨_, t1, t2, t3, t4, t5⟩ := s
     refine ⟨⟨kb, hkb⟩, hp.mb, hp.sh, ⟨e1, e2⟩, t1, t2, t3, t4, ?_, t5, ?_, ?_⟩
     ·show 0 ≤ I.ch + 1 ∧ I.ch + 1 ≤ ((n + 1 : Nat) : Int); omega
     ·show 0 ≤ (doK I.now I.fl c).2.1 ∧ (doK I.now I.fl c).2.1 ≤ 100 * (I.ch + 1); omega
     ·show 0 ≤ max I.most (weightOf Wn.xs) ∧ max I.most (weightOf Wn.xs) ≤ 1000000; omega
    ·have := s.1; omega
   ·rcases s3 with s | s
    ·have := s.1; omega
    ·obtain ⟨_, t1, t2, t3, t4, t5⟩ := s
     exact ⟨⟨kb, hkb⟩, hp.mb, hp.sh, hp.same, t1, t2, t3, t4, ⟨hc.1, by show I.ch ≤ ((n + 1 : Nat) : Int); omega⟩, t5, hnow, hmo⟩
   ·rcases s3 with s | s <;> (have := s.1; omega)
 ·refine (done_any h hkb c ht hN hmo (by omega) (by rw [hp.sh, hp.live]; rfl) hp.same (fun W pt hk => do_t hk hN hp.torn hfile (by omega) c) (fun q => absurd q hz) (fun q => absurd q hz)).mono ?_
  rintro e w' ⟨he, ⟨I', hI, hR⟩, hm⟩
  refine ⟨he, ⟨I', hI, ?_⟩, hm⟩
  rcases hR with ⟨_, okp, rfl⟩ | ⟨q, _⟩ | ⟨q, _⟩ | ⟨q, _⟩ | ⟨q, _⟩
  ·exact PD.more _ _ ⟨hp.kb, hp.mb, hp.sh, hp.same, hp.live, hp.torn, hp.file, hp.fuse, hp.ch, hp.used, hp.now, hp.most⟩
  all_goals exact absurd q hz
theorem pd_pick (n : Nat) (I : OneI) (h : PD n I) : (∃ b, I.kb = some b) ∧ I.sh = false := ⟨h.kb, h.sh⟩
section
variable {P : Program} {ops : Array Oper} {Q : Exit → Act → World → Prop} {md : Region.Mode}
theorem ready_done {L : Array Bool} (hL : L.size = ops.size) (hac : ∀ (i : Nat) (o : Oper), ops[i]? = some o → ∀ e ∈ o.after, e.on < i) (hr : Region.ready md ops L = []) : ∀ i, i < ops.size → L.getD i true = true := by
 intro i
 induction i using Nat.strongRecOn with
 | ind i ih =>
  intro hi
  by_cases h : L.getD i true = true
  ·exact h
  ·exfalso
   have hm : i ∈ Region.ready md ops L := by
    rw [mem_ready]
    refine ⟨by simpa using h, ops[i], Array.getElem?_eq_getElem hi, fun e he hb => ?_⟩
    have h1 := hac i _ (Array.getElem?_eq_getElem hi) e he
    have h2 := ih e.on h1 (by omega)
    have h3 : e.on < L.size := by omega
    simpa [h3] using h2
   rw [hr] at hm
   cases hm
theorem wpAny_facts (G : Act → Prop) (inv : World → Prop) (stp : World → World → Prop) (fact : Nat → Act → World → Prop)
  (hac : ∀ (i : Nat) (o : Oper), ops[i]? = some o → ∀ e ∈ o.after, e.on < i)
  (hkeep : ∀ (i j : Nat) (o : Oper) (v : Value) (a : Act) (w w' : World), i ≠ j → i < ops.size → j < ops.size → ops[i]? = some o → G a → fact j a w → stp w w' → fact j (a.put o.dst v) w')
  (hput : ∀ (i : Nat) (o : Oper) (v : Value) (a : Act), ops[i]? = some o → G a → G (a.put o.dst v))
  (hstep : ∀ (i : Nat) (o : Oper) (a : Act) (w : World), ops[i]? = some o → G a → inv w → (∀ e ∈ o.after, Region.binds md e = true → fact e.on a w) → o.guard = none ∧ Oper.wp P o a w (fun a' w' => ∃ v, a' = a.put o.dst v ∧ inv w' ∧ stp w w' ∧ fact i a' w') Q)
  (hend : ∀ a w, G a → inv w → (∀ i, i < ops.size → fact i a w) → Q .normal a w) :
  ∀ (fuel : Nat) (L : Array Bool) (a : Act) (w : World), L.size = ops.size → (List.range ops.size).countP (fun i => !L.getD i true) ≤ fuel → G a → inv w → (∀ i, i < ops.size → L.getD i true = true → fact i a w) → wpAny P md ops Q fuel L a w := by
 intro fuel
 have none_left : ∀ (L : Array Bool) (a : Act) (w : World), L.size = ops.size → G a → inv w → (∀ i, i < ops.size → L.getD i true = true → fact i a w) → Region.ready md ops L = [] → Q .normal a w := fun L a w hL hG hI hF hr =>
  hend a w hG hI (fun i hi => hF i hi (ready_done hL hac hr i hi))
 induction fuel with
 | zero =>
  intro L a w hL hc hG hI hF
  have hr : Region.ready md ops L = [] := by
   cases hr : Region.ready md ops L with
   | nil => rfl
   | cons i r =>
    exfalso
    have hm : i ∈ Region.ready md ops L := by rw [hr]; exact List.mem_cons_self ..
    obtain ⟨h0, o, ho, _⟩ := mem_ready.1 hm
    have h1 : i < ops.size := (Array.getElem?_eq_some_iff.1 ho).1
    have : 0 < (List.range ops.size).countP (fun i => !L.getD i true) := List.countP_pos_iff.2 ⟨i, List.mem_range.2 h1, by rw [h0]; rfl⟩
    omega
  exact ⟨hr, none_left L a w hL hG hI hF hr⟩
 | succ fuel ih =>
  intro L a w hL hc hG hI hF
  refine ⟨none_left L a w hL hG hI hF, fun i hi => ?_⟩
  obtain ⟨h0, o, ho, hall⟩ := mem_ready.1 hi
  have h1 : i < ops.size := (Array.getElem?_eq_some_iff.1 ho).1
  have hdeps : ∀ e ∈ o.after, Region.binds md e = true → fact e.on a w := fun e he hb => by
   have q := hall e he hb
   have q1 := hac i o ho e he
   have q2 : e.on < L.size := by omega
   exact hF e.on (by omega) (by simpa [q2] using q)
  obtain ⟨hg, hs⟩ := hstep i o a w ho hG hI hdeps
  unfold wpOp
  rw [ho]
  simp only
  rw [if_pos (by simp [Region.wanted, hg])]
  refine .inl (Oper.wp_mono (fun a' w' h => ?_) hs)
  obtain ⟨v, rfl, hI', hst, hf⟩ := h
  refine ih _ _ _ (by simp [hL]) ?_ (hput i o v a ho hG) hI' (fun j hj hl => ?_)
  ·have hcount : (List.range ops.size).countP (fun j => !(L.setIfInBounds i true).getD j true) + 1 ≤ (List.range ops.size).countP (fun j => !L.getD j true) := by
    have hiL : i < L.size := by omega
    have key : ∀ (l : List Nat), i ∈ l → l.Nodup → l.countP (fun j => !(L.setIfInBounds i true).getD j true) + 1 ≤ l.countP (fun j => !L.getD j true) := by
     intro l
     induction l with
     | nil => intro h; cases h
     | cons x l ihl =>
      intro hm hn
      have hle : ∀ (l : List Nat), l.countP (fun j => !(L.setIfInBounds i true).getD j true) ≤ l.countP (fun j => !L.getD j true) := fun l => List.countP_mono_left (fun j _ hj => by
       by_cases hij : i = j
       ·subst hij; simp [hiL] at hj
       ·rw [getD_set_ne true hij] at hj; exact hj)
      rw [List.countP_cons, List.countP_cons]
      by_cases hx : x = i
      ·subst hx
       have e1 : (!(L.setIfInBounds x true).getD x true) = false := by simp [hiL]
       have e2 : (!L.getD x true) = true := by rw [h0]; rfl
       rw [e1, e2]
       have := hle l
       simp only [Bool.false_eq_true, if_false, if_true]
       omega
      ·have hm' : i ∈ l := by rcases List.mem_cons.1 hm with q | q; exact absurd q.symm hx; exact q
       have := ihl hm' (List.nodup_cons.1 hn).2
       rw [getD_set_ne true (Ne.symm hx)]
       omega
    exact key _ (List.mem_range.2 h1) List.nodup_range
   omega
  ·by_cases hij : i = j
   ·subst hij; exact hf
   ·rw [getD_set_ne true hij] at hl
    exact hkeep i j o v a w w' hij h1 hj ho hG (hF j hj hl) hst
theorem wp_region_facts {id : Nat} {a : Act} {w : World} (G : Act → Prop) (inv : World → Prop) (stp : World → World → Prop) (fact : Nat → Act → World → Prop) (hm : P.follows .mixedOrders = true)
  (hac : ∀ (i : Nat) (o : Oper), ops[i]? = some o → ∀ e ∈ o.after, e.on < i)
  (hkeep : ∀ (i j : Nat) (o : Oper) (v : Value) (a : Act) (w w' : World), i ≠ j → i < ops.size → j < ops.size → ops[i]? = some o → G a → fact j a w → stp w w' → fact j (a.put o.dst v) w')
  (hput : ∀ (i : Nat) (o : Oper) (v : Value) (a : Act), ops[i]? = some o → G a → G (a.put o.dst v))
  (hstep : ∀ (i : Nat) (o : Oper) (a : Act) (w : World), ops[i]? = some o → G a → inv w → (∀ e ∈ o.after, Region.binds .any e = true → fact e.on a w) → o.guard = none ∧ Oper.wp P o a w (fun a' w' => ∃ v, a' = a.put o.dst v ∧ inv w' ∧ stp w w' ∧ fact i a' w') Q)
  (hend : ∀ a w, G a → inv w → (∀ i, i < ops.size → fact i a w) → Q .normal a w) (hG : G a) (hI : inv w.drew) : (Code.region id ops true).wp P Q a w := by
 refine wp_region_any hm (wpAny_facts G inv stp fact hac hkeep hput hstep hend _ _ _ _ (by simp) ?_ hG hI (fun i hi h => ?_))
 ·exact Nat.le_trans List.countP_le_length (by simp)
 ·simp [hi] at h
end
def slotv (ops : Array Oper) (i : Nat) (a : Act) : Value := match (ops[i]?).bind (·.dst) with | some d => a.tmps.getD d undef | none => undef
structure FrameOf (ops : Array Oper) (a0 a : Act) : Prop where
 defers : a.defers = a0.defers
 size : a.tmps.size = a0.tmps.size
 rest : ∀ s, ops.all (fun o => o.dst != some s) = true → a.tmps.getD s undef = a0.tmps.getD s undef
def factsOk (ops : Array Oper) (n : Nat) : Bool :=
 ((List.range ops.size).all fun i => match ops[i]? with
  | some o => o.after.all (fun e => decide (e.on < i)) && o.guard.isNone && (match o.dst with | some d => decide (d < n) | none => true) && ((List.range ops.size).all fun j => j == i || (match ops[j]? with | some o' => o.dst.isNone || o'.dst != o.dst | none => true))
  | none => false)
section
variable {P : Program} {ops : Array Oper} {Q : Exit → Act → World → Prop}
theorem factsOk_at {n : Nat} (h : factsOk ops n = true) (i : Nat) (o : Oper) (ho : ops[i]? = some o) : (∀ e ∈ o.after, e.on < i) ∧ o.guard = none ∧ (∀ d, o.dst = some d → d < n) ∧ ∀ (j : Nat) (o' : Oper) (d : Nat), j ≠ i → ops[j]? = some o' → o.dst = some d → o'.dst ≠ some d := by
 have hi : i < ops.size := (Array.getElem?_eq_some_iff.1 ho).1
 unfold factsOk at h
 have h := List.all_eq_true.1 h i (List.mem_range.2 hi)
 rw [ho] at h
 simp only [Bool.and_eq_true] at h
 obtain ⟨⟨⟨h1, h2⟩, h3⟩, h4⟩ := h
 refine ⟨fun e he => ?_, by simpa using h2, fun d hd => ?_, fun j o' d hj ho' hd e => ?_⟩
 ·have := Array.all_eq_true_iff_forall_mem.1 h1 e he
  simpa using this
 ·rw [hd] at h3
  simpa using h3
 ·have h4 := List.all_eq_true.1 h4 j (List.mem_range.2 (Array.getElem?_eq_some_iff.1 ho').1)
  rw [ho'] at h4
  simp [hj, hd, e] at h4
theorem wp_region_F {id n : Nat} {a0 : Act} {w : World} (inv : World → Prop) (stp : World → World → Prop) (F : Nat → Value → World → Prop) (hm : P.follows .mixedOrders = true) (hn : a0.tmps.size = n) (hok : factsOk ops n = true)
  (hF : ∀ (i : Nat) (v : Value) (w w' : World), stp w w' → F i v w → F i v w')
  (hstep : ∀ (i : Nat) (o : Oper) (a : Act) (w : World), ops[i]? = some o → FrameOf ops a0 a → inv w → (∀ e ∈ o.after, Region.binds .any e = true → F e.on (slotv ops e.on a) w) → Oper.wp P o a w (fun a' w' => ∃ v, a' = a.put o.dst v ∧ inv w' ∧ stp w w' ∧ F i (if o.dst.isSome then v else undef) w') Q)
  (hend : ∀ (a : Act) (w : World), FrameOf ops a0 a → inv w → (∀ i, i < ops.size → F i (slotv ops i a) w) → Q .normal a w) (hI : inv w.drew) : (Code.region id ops true).wp P Q a0 w := by
 have slot_put : ∀ (i : Nat) (o : Oper) (a : Act) (v : Value), ops[i]? = some o → a.tmps.size = n → slotv ops i (a.put o.dst v) = if o.dst.isSome then v else undef := fun i o a v ho hs => by
  unfold slotv
  rw [ho]
  cases hd : o.dst with
  | none => simp [hd]
  | some d =>
   have := (factsOk_at hok i o ho).2.2.1 d hd
   simp [hd, Act.put, hs, this]
 refine wp_region_facts (G := FrameOf ops a0) (inv := inv) (stp := stp) (fact := fun i a w => F i (slotv ops i a) w) hm (fun i o ho => (factsOk_at hok i o ho).1) (fun i j o v a w w' hij hi hj ho hG hf hs => ?_) (fun i o v a ho hG => ?_) (fun i o a w ho hG hI hd => ⟨(factsOk_at hok i o ho).2.1, ?_⟩) hend ⟨rfl, rfl, fun _ _ => rfl⟩ hI
 ·have e : slotv ops j (a.put o.dst v) = slotv ops j a := by
   unfold slotv
   rw [Array.getElem?_eq_getElem hj]
   simp only [Option.bind_some]
   cases hdj : (ops[j]).dst with
   | none => rfl
   | some d =>
    cases hdi : o.dst with
    | none => rfl
    | some d' =>
     have hne : d' ≠ d := fun e => (factsOk_at hok i o ho).2.2.2 j _ d' (Ne.symm hij) (Array.getElem?_eq_getElem hj) hdi (by rw [hdj, e])
     simp [Act.put, Array.getElem?_setIfInBounds_ne hne]
  rw [e]
  exact hF _ _ _ _ hs hf
 ·refine ⟨?_, ?_, fun s hs => ?_⟩
  ·cases hd : o.dst <;> simp [Act.put, hG.defers]
  ·cases hd : o.dst <;> simp [Act.put, hG.size]
  ·have hne := Array.all_eq_true_iff_forall_mem.1 hs o (Array.mem_of_getElem? ho)
   rw [← hG.rest s hs]
   cases hd : o.dst with
   | none => rfl
   | some d =>
    have : d ≠ s := by
     rw [hd] at hne
     simpa using hne
    simp [Act.put, Array.getElem?_setIfInBounds_ne this]
 ·refine Oper.wp_mono (fun a' w' h => ?_) (hstep i o a w ho hG hI hd)
  obtain ⟨v, rfl, h1, h2, h3⟩ := h
  refine ⟨v, rfl, h1, h2, ?_⟩
  rw [slot_put i o a v ho (hG.size.trans hn)]
  exact h3
theorem FrameOf.lit {a0 a : Act} (h : FrameOf ops a0 a) : a = ⟨(ops.toList.filterMap (·.dst)).foldl (fun t s => t.setIfInBounds s (a.tmps.getD s undef)) a0.tmps, a0.defers⟩ := by
 cases a with
 | mk t d =>
  obtain ⟨h1, h2, h3⟩ := h
  simp only at h1 h2 h3
  subst h1
  congr 1
  have key : ∀ (l : List Nat) (t0 : Array Value), (l.foldl (fun t' s => t'.setIfInBounds s (t.getD s undef)) t0).size = t0.size ∧ ∀ s, s < t0.size → (l.foldl (fun t' s => t'.setIfInBounds s (t.getD s undef)) t0).getD s undef = if s ∈ l then t.getD s undef else t0.getD s undef := by
   intro l
   induction l with
   | nil => intro t0; exact ⟨rfl, fun s _ => by simp⟩
   | cons x l ih =>
    intro t0
    obtain ⟨i1, i2⟩ := ih (t0.setIfInBounds x (t.getD x undef))
    refine ⟨by rw [List.foldl_cons, i1]; simp, fun s hs => ?_⟩
    rw [List.foldl_cons, i2 s (by simpa using hs)]
    by_cases hsl : s ∈ l
    ·simp [hsl]
    ·rw [if_neg hsl]
     by_cases hx : x = s
     ·subst hx
      rw [if_pos (List.mem_cons_self ..)]
      simp [hs]
     ·rw [if_neg (by simp [hsl, Ne.symm hx])]
      simp [Array.getElem?_setIfInBounds_ne hx]
  obtain ⟨k1, k2⟩ := key (ops.toList.filterMap (·.dst)) a0.tmps
  apply Array.ext
  ·rw [k1, h2]
  ·intro i hi hi2
   have k3 := k2 i (by omega)
   have e1 : ∀ (u : Array Value) (hu : i < u.size), u.getD i undef = u[i] := fun u hu => by simp [hu]
   rw [e1 _ hi2, e1 _ hi, e1 a0.tmps (by omega)] at k3
   rw [k3]
   by_cases hm : i ∈ ops.toList.filterMap (·.dst)
   ·rw [if_pos hm]
   ·rw [if_neg hm]
    have h4 := h3 i (by
     rw [Array.all_eq_true_iff_forall_mem]
     intro o ho
     have : o.dst ≠ some i := fun e => hm (List.mem_filterMap.2 ⟨o, by simpa using ho, e⟩)
     simpa using this)
    rw [e1 _ hi, e1 a0.tmps (by omega)] at h4
    exact h4
end
section
variable {P : Program} {ops : Array Oper} {Q : Exit → Act → World → Prop}
def lastOk (ops : Array Oper) (l : Nat) : Bool := match ops[l]? with
 | some o => (List.range ops.size).all fun j => j == l || o.after.any (fun e => e.on == j && Region.binds .any e)
 | none => false
theorem wpAny_last {n : Nat} {a0 : Act} (last : Nat) (inv : World → Prop) (stp : World → World → Prop) (F : Nat → Value → World → Prop) (hn : a0.tmps.size = n) (hok : factsOk ops n = true) (hlo : lastOk ops last = true)
  (hF : ∀ (i : Nat) (v : Value) (w w' : World), stp w w' → F i v w → F i v w')
  (hstep : ∀ (i : Nat) (o : Oper) (a : Act) (w : World), i ≠ last → ops[i]? = some o → FrameOf ops a0 a → inv w → (∀ e ∈ o.after, Region.binds .any e = true → F e.on (slotv ops e.on a) w) → Oper.wp P o a w (fun a' w' => ∃ v, a' = a.put o.dst v ∧ inv w' ∧ stp w w' ∧ F i (if o.dst.isSome then v else undef) w') Q)
  (hlast : ∀ (o : Oper) (a : Act) (w : World), ops[last]? = some o → FrameOf ops a0 a → inv w → (∀ i, i < ops.size → i ≠ last → F i (slotv ops i a) w) → Oper.wp P o a w (fun a' w' => Q .normal a' w') Q) :
  ∀ (fuel : Nat) (L : Array Bool) (a : Act) (w : World), L.size = ops.size → (List.range ops.size).countP (fun i => !L.getD i true) ≤ fuel → FrameOf ops a0 a → L.getD last true = false → inv w → (∀ i, i < ops.size → L.getD i true = true → F i (slotv ops i a) w) → wpAny P .any ops Q fuel L a w := by
 have slot_put : ∀ (i : Nat) (o : Oper) (a : Act) (v : Value), ops[i]? = some o → a.tmps.size = n → slotv ops i (a.put o.dst v) = if o.dst.isSome then v else undef := fun i o a v ho hs => by
  unfold slotv
  rw [ho]
  cases hd : o.dst with
  | none => simp [hd]
  | some d =>
   have := (factsOk_at hok i o ho).2.2.1 d hd
   simp [hd, Act.put, hs, this]
 have hac : ∀ (i : Nat) (o : Oper), ops[i]? = some o → ∀ e ∈ o.after, e.on < i := fun i o ho => (factsOk_at hok i o ho).1
 have hkeep : ∀ (i j : Nat) (o : Oper) (v : Value) (a : Act) (w w' : World), i ≠ j → i < ops.size → j < ops.size → ops[i]? = some o → F j (slotv ops j a) w → stp w w' → F j (slotv ops j (a.put o.dst v)) w' := fun i j o v a w w' hij hi hj ho hf hs => by
  have e : slotv ops j (a.put o.dst v) = slotv ops j a := by
   unfold slotv
   rw [Array.getElem?_eq_getElem hj]
   simp only [Option.bind_some]
   cases hdj : (ops[j]).dst with
   | none => rfl
   | some d =>
    cases hdi : o.dst with
    | none => rfl
    | some d' =>
     have hne : d' ≠ d := fun e => (factsOk_at hok i o ho).2.2.2 j _ d' (Ne.symm hij) (Array.getElem?_eq_getElem hj) hdi (by rw [hdj, e])
     simp [Act.put, Array.getElem?_setIfInBounds_ne hne]
  rw [e]
  exact hF _ _ _ _ hs hf
 have hput : ∀ (i : Nat) (o : Oper) (v : Value) (a : Act), ops[i]? = some o → FrameOf ops a0 a → FrameOf ops a0 (a.put o.dst v) := fun i o v a ho hG => by
  refine ⟨?_, ?_, fun s hs => ?_⟩
  ·cases hd : o.dst <;> simp [Act.put, hG.defers]
  ·cases hd : o.dst <;> simp [Act.put, hG.size]
  ·have hne := Array.all_eq_true_iff_forall_mem.1 hs o (Array.mem_of_getElem? ho)
   rw [← hG.rest s hs]
   cases hd : o.dst with
   | none => rfl
   | some d =>
    have : d ≠ s := by
     rw [hd] at hne
     simpa using hne
    simp [Act.put, Array.getElem?_setIfInBounds_ne this]
 intro fuel
 induction fuel with
 | zero =>
  intro L a w hL hc hG hl hI hf
  exfalso
  have h1 : last < ops.size := by
   by_cases h : last < L.size
   ·omega
   ·simp [show L.size ≤ last by omega] at hl
  have : 0 < (List.range ops.size).countP (fun i => !L.getD i true) := List.countP_pos_iff.2 ⟨last, List.mem_range.2 h1, by rw [hl]; rfl⟩
  omega
 | succ fuel ih =>
  intro L a w hL hc hG hl hI hf
  have h1 : last < ops.size := by
   by_cases h : last < L.size
   ·omega
   ·simp [show L.size ≤ last by omega] at hl
  refine ⟨fun hr => ?_, fun i hi => ?_⟩
  ·have := ready_done hL hac hr last h1
   rw [hl] at this; cases this
  obtain ⟨h0, o, ho, hall⟩ := mem_ready.1 hi
  have hi1 : i < ops.size := (Array.getElem?_eq_some_iff.1 ho).1
  have hlis : ∀ e ∈ o.after, Region.binds .any e = true → e.on < ops.size ∧ L.getD e.on true = true := fun e he hb => by
   have q := hall e he hb
   have q1 := hac i o ho e he
   have q2 : e.on < L.size := by omega
   exact ⟨by omega, by simpa [q2] using q⟩
  unfold wpOp
  rw [ho]
  simp only
  rw [if_pos (by simp [Region.wanted, (factsOk_at hok i o ho).2.1])]
  by_cases hil : i = last
  ·subst hil
   have hothers : ∀ j, j < ops.size → j ≠ i → L.getD j true = true := fun j hj hne => by
    unfold lastOk at hlo
    rw [ho] at hlo
    have := List.all_eq_true.1 hlo j (List.mem_range.2 hj)
    simp only [Bool.or_eq_true, beq_iff_eq, hne, false_or] at this
    obtain ⟨e, he, hb⟩ := Array.any_eq_true'.1 this
    simp only [Bool.and_eq_true, beq_iff_eq] at hb
    have := (hlis e he hb.2).2
    rw [hb.1] at this
    exact this
   refine .inl (Oper.wp_mono (fun a' w' h => ?_) (hlast o a w ho hG hI (fun j hj hne => hf j hj (hothers j hj hne))))
   refine wpAny_done ?_ h fuel
   cases hr : Region.ready .any ops (L.setIfInBounds i true) with
   | nil => rfl
   | cons j r =>
    exfalso
    have hm : j ∈ Region.ready .any ops (L.setIfInBounds i true) := by rw [hr]; exact List.mem_cons_self ..
    obtain ⟨g0, o', ho', _⟩ := mem_ready.1 hm
    have hj : j < ops.size := (Array.getElem?_eq_some_iff.1 ho').1
    by_cases hij : i = j
    ·subst hij
     simp [hL, hj] at g0
    ·rw [getD_set_ne true hij, hothers j hj (Ne.symm hij)] at g0
     cases g0
  ·refine .inl (Oper.wp_mono (fun a' w' h => ?_) (hstep i o a w hil ho hG hI (fun e he hb => hf e.on (hlis e he hb).1 (hlis e he hb).2)))
   obtain ⟨v, rfl, hI', hst, hfn⟩ := h
   refine ih _ _ _ (by simp [hL]) ?_ (hput i o v a ho hG) (by rw [getD_set_ne true hil]; exact hl) hI' (fun j hj hl => ?_)
   ·have hiL : i < L.size := by omega
    have key : ∀ (l : List Nat), i ∈ l → l.Nodup → l.countP (fun j => !(L.setIfInBounds i true).getD j true) + 1 ≤ l.countP (fun j => !L.getD j true) := by
     intro l
     induction l with
     | nil => intro h; cases h
     | cons x l ihl =>
      intro hm hn
      have hle : ∀ (l : List Nat), l.countP (fun j => !(L.setIfInBounds i true).getD j true) ≤ l.countP (fun j => !L.getD j true) := fun l => List.countP_mono_left (fun j _ hj => by
       by_cases hij : i = j
       ·subst hij; simp [hiL] at hj
       ·rw [getD_set_ne true hij] at hj; exact hj)
      rw [List.countP_cons, List.countP_cons]
      by_cases hx : x = i
      ·subst hx
       have e1 : (!(L.setIfInBounds x true).getD x true) = false := by simp [hiL]
       have e2 : (!L.getD x true) = true := by rw [h0]; rfl
       rw [e1, e2]
       have := hle l
       simp only [Bool.false_eq_true, if_false, if_true]
       omega
      ·have hm' : i ∈ l := by rcases List.mem_cons.1 hm with q | q; exact absurd q.symm hx; exact q
       have := ihl hm' (List.nodup_cons.1 hn).2
       rw [getD_set_ne true (Ne.symm hx)]
       omega
    have := key _ (List.mem_range.2 hi1) List.nodup_range
    omega
   ·by_cases hij : i = j
    ·subst hij
     rw [slot_put i o a v ho (hG.size.trans hn)]
     exact hfn
    ·rw [getD_set_ne true hij] at hl
     exact hkeep i j o v a w w' hij hi1 hj ho (hf j hj hl) hst
theorem wp_region_L {id n : Nat} {a0 : Act} {w : World} (last : Nat) (inv : World → Prop) (stp : World → World → Prop) (F : Nat → Value → World → Prop) (hm : P.follows .mixedOrders = true) (hn : a0.tmps.size = n) (hok : factsOk ops n = true) (hlo : lastOk ops last = true)
  (hF : ∀ (i : Nat) (v : Value) (w w' : World), stp w w' → F i v w → F i v w')
  (hstep : ∀ (i : Nat) (o : Oper) (a : Act) (w : World), i ≠ last → ops[i]? = some o → FrameOf ops a0 a → inv w → (∀ e ∈ o.after, Region.binds .any e = true → F e.on (slotv ops e.on a) w) → Oper.wp P o a w (fun a' w' => ∃ v, a' = a.put o.dst v ∧ inv w' ∧ stp w w' ∧ F i (if o.dst.isSome then v else undef) w') Q)
  (hlast : ∀ (o : Oper) (a : Act) (w : World), ops[last]? = some o → FrameOf ops a0 a → inv w → (∀ i, i < ops.size → i ≠ last → F i (slotv ops i a) w) → Oper.wp P o a w (fun a' w' => Q .normal a' w') Q)
  (hI : inv w.drew) : (Code.region id ops true).wp P Q a0 w := by
 have hl : last < ops.size := by
  unfold lastOk at hlo
  by_cases h : last < ops.size
  ·exact h
  ·rw [Array.getElem?_eq_none (by omega)] at hlo; cases hlo
 refine wp_region_any hm (wpAny_last last inv stp F hn hok hlo hF hstep hlast _ _ _ _ (by simp) (Nat.le_trans List.countP_le_length (by simp)) ⟨rfl, rfl, fun _ _ => rfl⟩ (by simp [hl]) hI (fun i hi h => ?_))
 simp [hi] at h
end
theorem wp_move_op {P : Program} {o : Oper} {a : Act} {w : World} {K : Act → World → Prop} {Q : Exit → Act → World → Prop} (x : Operand) (ho : o.op = .move x) (h : K (a.put o.dst (a.eval x)) w) : o.wp P a w K Q := by
 unfold Oper.wp execOp
 simp only [ho]
 exact h
theorem wp_assign_op {P : Program} {o : Oper} {a : Act} {w : World} {K : Act → World → Prop} {Q : Exit → Act → World → Prop} (x : Operand) (ho : o.op = .assign x) (h : K (a.put o.dst (a.eval x)) w) : o.wp P a w K Q := by
 unfold Oper.wp execOp
 simp only [ho]
 exact h
def regionsOf : Code → List Code
 | .region i o d => [.region i o d]
 | .loop c => regionsOf c
 | .seq a b => regionsOf a ++ regionsOf b
 | .block _ c => regionsOf c
 | .scope c => regionsOf c
 | .cond _ a b => regionsOf a ++ regionsOf b
 | _ => []
def regionNo (c : Code) (n : Nat) : Code := ((regionsOf c).find? fun | .region i _ _ => i == n | _ => false).getD .skip
def factsOkB (ops : Array Oper) (n : Nat) : Bool :=
 ((List.range ops.size).all fun i => match ops[i]? with
  | some o => o.after.all (fun e => !Region.binds .any e || decide (e.on < i)) && o.guard.isNone && (match o.dst with | some d => decide (d < n) | none => true) && ((List.range ops.size).all fun j => j == i || (match ops[j]? with | some o' => o.dst.isNone || o'.dst != o.dst | none => true))
  | none => false)
theorem factsOkB_at {ops : Array Oper} {n : Nat} (h : factsOkB ops n = true) (i : Nat) (o : Oper) (ho : ops[i]? = some o) : (∀ e ∈ o.after, Region.binds .any e = true → e.on < i) ∧ o.guard = none ∧ (∀ d, o.dst = some d → d < n) ∧ ∀ (j : Nat) (o' : Oper) (d : Nat), j ≠ i → ops[j]? = some o' → o.dst = some d → o'.dst ≠ some d := by
 have hi : i < ops.size := (Array.getElem?_eq_some_iff.1 ho).1
 unfold factsOkB at h
 have h := List.all_eq_true.1 h i (List.mem_range.2 hi)
 rw [ho] at h
 simp only [Bool.and_eq_true] at h
 obtain ⟨⟨⟨h1, h2⟩, h3⟩, h4⟩ := h
 refine ⟨fun e he hb => ?_, by simpa using h2, fun d hd => ?_, fun j o' d hj ho' hd e => ?_⟩
 ·have := Array.all_eq_true_iff_forall_mem.1 h1 e he
  rw [hb] at this
  simpa using this
 ·rw [hd] at h3
  simpa using h3
 ·have h4 := List.all_eq_true.1 h4 j (List.mem_range.2 (Array.getElem?_eq_some_iff.1 ho').1)
  rw [ho'] at h4
  simp [hj, hd, e] at h4
theorem ready_doneB {ops : Array Oper} {L : Array Bool} (hL : L.size = ops.size) (hac : ∀ (i : Nat) (o : Oper), ops[i]? = some o → ∀ e ∈ o.after, Region.binds .any e = true → e.on < i) (hr : Region.ready .any ops L = []) : ∀ i, i < ops.size → L.getD i true = true := by
 intro i
 induction i using Nat.strongRecOn with
 | ind i ih =>
  intro hi
  by_cases h : L.getD i true = true
  ·exact h
  ·exfalso
   have hm : i ∈ Region.ready .any ops L := by
    rw [mem_ready]
    refine ⟨by simpa using h, ops[i], Array.getElem?_eq_getElem hi, fun e he hb => ?_⟩
    have h1 := hac i _ (Array.getElem?_eq_getElem hi) e he hb
    have h2 := ih e.on h1 (by omega)
    have h3 : e.on < L.size := by omega
    simpa [h3] using h2
   rw [hr] at hm
   cases hm
section
variable {P : Program} {ops : Array Oper} {Q : Exit → Act → World → Prop}
def maskv (ops : Array Oper) (j : Nat) (a : Act) (k : Nat) : Value := match ops[j]? with
 | some o => if o.after.any (fun e => e.on == k && Region.binds .any e) then slotv ops k a else undef
 | none => undef
theorem wpAny_mask {n : Nat} {a0 : Act} (inv : World → Prop) (stp : World → World → Prop) (F : Nat → Value → (Nat → Value) → World → Prop) (hn : a0.tmps.size = n) (hok : factsOkB ops n = true)
  (hF : ∀ (i : Nat) (v : Value) (s : Nat → Value) (w w' : World), stp w w' → F i v s w → F i v s w')
  (hstep : ∀ (i : Nat) (o : Oper) (a : Act) (w : World), ops[i]? = some o → FrameOf ops a0 a → inv w → (∀ e ∈ o.after, Region.binds .any e = true → F e.on (slotv ops e.on a) (maskv ops e.on a) w) → Oper.wp P o a w (fun a' w' => ∃ v, a' = a.put o.dst v ∧ inv w' ∧ stp w w' ∧ F i (if o.dst.isSome then v else undef) (maskv ops i a) w') Q)
  (hend : ∀ (a : Act) (w : World), FrameOf ops a0 a → inv w → (∀ i, i < ops.size → F i (slotv ops i a) (maskv ops i a) w) → Q .normal a w) :
  ∀ (fuel : Nat) (L : Array Bool) (a : Act) (w : World), L.size = ops.size → (List.range ops.size).countP (fun i => !L.getD i true) ≤ fuel → FrameOf ops a0 a → inv w → (∀ i, i < ops.size → L.getD i true = true → F i (slotv ops i a) (maskv ops i a) w) →
   (∀ (i : Nat) (o : Oper), ops[i]? = some o → L.getD i true = true → ∀ e ∈ o.after, Region.binds .any e = true → L.getD e.on true = true) → wpAny P .any ops Q fuel L a w := by
 have slot_put : ∀ (i : Nat) (o : Oper) (a : Act) (v : Value), ops[i]? = some o → a.tmps.size = n → slotv ops i (a.put o.dst v) = if o.dst.isSome then v else undef := fun i o a v ho hs => by
  unfold slotv
  rw [ho]
  cases hd : o.dst with
  | none => simp [hd]
  | some d =>
   have := (factsOkB_at hok i o ho).2.2.1 d hd
   simp [hd, Act.put, hs, this]
 have hac : ∀ (i : Nat) (o : Oper), ops[i]? = some o → ∀ e ∈ o.after, Region.binds .any e = true → e.on < i := fun i o ho => (factsOkB_at hok i o ho).1
 have slot_other : ∀ (i j : Nat) (o : Oper) (v : Value) (a : Act), i ≠ j → ops[i]? = some o → slotv ops j (a.put o.dst v) = slotv ops j a := fun i j o v a hij ho => by
  unfold slotv
  cases hoj : ops[j]? with
  | none => rfl
  | some oj =>
   simp only [Option.bind_some]
   cases hdj : oj.dst with
   | none => rfl
   | some d =>
    cases hdi : o.dst with
    | none => rfl
    | some d' =>
     have hne : d' ≠ d := fun e => (factsOkB_at hok i o ho).2.2.2 j _ d' (Ne.symm hij) hoj hdi (by rw [hdj, e])
     simp [Act.put, Array.getElem?_setIfInBounds_ne hne]
 have mask_other : ∀ (i j : Nat) (o : Oper) (v : Value) (a : Act), ops[i]? = some o → (∀ oj, ops[j]? = some oj → ∀ e ∈ oj.after, Region.binds .any e = true → e.on ≠ i) → maskv ops j (a.put o.dst v) = maskv ops j a := fun i j o v a ho hnd => by
  funext k
  unfold maskv
  cases hoj : ops[j]? with
  | none => rfl
  | some oj =>
   simp only
   by_cases hk : oj.after.any (fun e => e.on == k && Region.binds .any e) = true
   ·rw [if_pos hk, if_pos hk]
    obtain ⟨e, he, hb⟩ := Array.any_eq_true'.1 hk
    simp only [Bool.and_eq_true, beq_iff_eq] at hb
    have := hnd oj hoj e he hb.2
    rw [hb.1] at this
    exact slot_other i k o v a (Ne.symm this) ho
   ·rw [if_neg hk, if_neg hk]
 have hput : ∀ (i : Nat) (o : Oper) (v : Value) (a : Act), ops[i]? = some o → FrameOf ops a0 a → FrameOf ops a0 (a.put o.dst v) := fun i o v a ho hG => by
  refine ⟨?_, ?_, fun s hs => ?_⟩
  ·cases hd : o.dst <;> simp [Act.put, hG.defers]
  ·cases hd : o.dst <;> simp [Act.put, hG.size]
  ·have hne := Array.all_eq_true_iff_forall_mem.1 hs o (Array.mem_of_getElem? ho)
   rw [← hG.rest s hs]
   cases hd : o.dst with
   | none => rfl
   | some d =>
    have : d ≠ s := by
     rw [hd] at hne
     simpa using hne
    simp [Act.put, Array.getElem?_setIfInBounds_ne this]
 intro fuel
 have none_left : ∀ (L : Array Bool) (a : Act) (w : World), L.size = ops.size → FrameOf ops a0 a → inv w → (∀ i, i < ops.size → L.getD i true = true → F i (slotv ops i a) (maskv ops i a) w) → Region.ready .any ops L = [] → Q .normal a w := fun L a w hL hG hI hf hr =>
  hend a w hG hI (fun i hi => hf i hi (ready_doneB hL hac hr i hi))
 induction fuel with
 | zero =>
  intro L a w hL hc hG hI hf hcl
  have hr : Region.ready .any ops L = [] := by
   cases hr : Region.ready .any ops L with
   | nil => rfl
   | cons i r =>
    exfalso
    have hm : i ∈ Region.ready .any ops L := by rw [hr]; exact List.mem_cons_self ..
    obtain ⟨h0, o, ho, _⟩ := mem_ready.1 hm
    have h1 : i < ops.size := (Array.getElem?_eq_some_iff.1 ho).1
    have : 0 < (List.range ops.size).countP (fun i => !L.getD i true) := List.countP_pos_iff.2 ⟨i, List.mem_range.2 h1, by rw [h0]; rfl⟩
    omega
  exact ⟨hr, none_left L a w hL hG hI hf hr⟩
 | succ fuel ih =>
  intro L a w hL hc hG hI hf hcl
  refine ⟨none_left L a w hL hG hI hf, fun i hi => ?_⟩
  obtain ⟨h0, o, ho, hall⟩ := mem_ready.1 hi
  have h1 : i < ops.size := (Array.getElem?_eq_some_iff.1 ho).1
  have hlis : ∀ e ∈ o.after, Region.binds .any e = true → e.on < ops.size ∧ L.getD e.on true = true := fun e he hb => by
   have q := hall e he hb
   have q1 := hac i o ho e he hb
   have q2 : e.on < L.size := by omega
   exact ⟨by omega, by simpa [q2] using q⟩
  unfold wpOp
  rw [ho]
  simp only
  rw [if_pos (by simp [Region.wanted, (factsOkB_at hok i o ho).2.1])]
  refine .inl (Oper.wp_mono (fun a' w' h => ?_) (hstep i o a w ho hG hI (fun e he hb => hf e.on (hlis e he hb).1 (hlis e he hb).2)))
  obtain ⟨v, rfl, hI', hst, hfn⟩ := h
  refine ih _ _ _ (by simp [hL]) ?_ (hput i o v a ho hG) hI' (fun j hj hl => ?_) (fun j oj hoj hl e he hb => ?_)
  ·have hiL : i < L.size := by omega
   have key : ∀ (l : List Nat), i ∈ l → l.Nodup → l.countP (fun j => !(L.setIfInBounds i true).getD j true) + 1 ≤ l.countP (fun j => !L.getD j true) := by
    intro l
    induction l with
    | nil => intro h; cases h
    | cons x l ihl =>
     intro hm hn
     have hle : ∀ (l : List Nat), l.countP (fun j => !(L.setIfInBounds i true).getD j true) ≤ l.countP (fun j => !L.getD j true) := fun l => List.countP_mono_left (fun j _ hj => by
      by_cases hij : i = j
      ·subst hij; simp [hiL] at hj
      ·rw [getD_set_ne true hij] at hj; exact hj)
     rw [List.countP_cons, List.countP_cons]
     by_cases hx : x = i
     ·subst hx
      have e1 : (!(L.setIfInBounds x true).getD x true) = false := by simp [hiL]
      have e2 : (!L.getD x true) = true := by rw [h0]; rfl
      rw [e1, e2]
      have := hle l
      simp only [Bool.false_eq_true, if_false, if_true]
      omega
     ·have hm' : i ∈ l := by rcases List.mem_cons.1 hm with q | q; exact absurd q.symm hx; exact q
      have := ihl hm' (List.nodup_cons.1 hn).2
      rw [getD_set_ne true (Ne.symm hx)]
      omega
   have := key _ (List.mem_range.2 h1) List.nodup_range
   omega
  ·by_cases hij : i = j
   ·subst hij
    rw [slot_put i o a v ho (hG.size.trans hn), mask_other i i o v a ho (fun oj hoj e he hb => Nat.ne_of_lt (hac i oj hoj e he hb))]
    exact hfn
   ·rw [getD_set_ne true hij] at hl
    rw [slot_other i j o v a hij ho, mask_other i j o v a ho (fun oj hoj e he hb eq => by
     have := hcl j oj hoj hl e he hb
     rw [eq] at this
     rw [this] at h0
     cases h0)]
    exact hF _ _ _ _ _ hst (hf j hj hl)
  ·by_cases hij : i = j
   ·subst hij
    have hoo : oj = o := Option.some.inj (hoj.symm.trans ho)
    subst hoo
    have q := hlis e he hb
    have hne : i ≠ e.on := fun eq => by have := hac i oj ho e he hb; omega
    rw [getD_set_ne true hne]
    exact q.2
   ·rw [getD_set_ne true hij] at hl
    have q := hcl j oj hoj hl e he hb
    by_cases hie : i = e.on
    ·rw [← hie] at q
     rw [q] at h0
     cases h0
    ·rw [getD_set_ne true hie]
     exact q
theorem wp_region_M {id n : Nat} {a0 : Act} {w : World} (inv : World → Prop) (stp : World → World → Prop) (F : Nat → Value → (Nat → Value) → World → Prop) (hm : P.follows .mixedOrders = true) (hn : a0.tmps.size = n) (hok : factsOkB ops n = true)
  (hF : ∀ (i : Nat) (v : Value) (s : Nat → Value) (w w' : World), stp w w' → F i v s w → F i v s w')
  (hstep : ∀ (i : Nat) (o : Oper) (a : Act) (w : World), ops[i]? = some o → FrameOf ops a0 a → inv w → (∀ e ∈ o.after, Region.binds .any e = true → F e.on (slotv ops e.on a) (maskv ops e.on a) w) → Oper.wp P o a w (fun a' w' => ∃ v, a' = a.put o.dst v ∧ inv w' ∧ stp w w' ∧ F i (if o.dst.isSome then v else undef) (maskv ops i a) w') Q)
  (hend : ∀ (a : Act) (w : World), FrameOf ops a0 a → inv w → (∀ i, i < ops.size → F i (slotv ops i a) (maskv ops i a) w) → Q .normal a w) (hI : inv w.drew) : (Code.region id ops true).wp P Q a0 w := by
 refine wp_region_any hm (wpAny_mask inv stp F hn hok hF hstep hend _ _ _ _ (by simp) (Nat.le_trans List.countP_le_length (by simp)) ⟨rfl, rfl, fun _ _ => rfl⟩ hI (fun i hi h => ?_) (fun i o ho h => ?_))
 ·simp [hi] at h
 ·have hi : i < ops.size := (Array.getElem?_eq_some_iff.1 ho).1
  simp [hi] at h
end
theorem wp_call_op {P : Program} {o : Oper} {a : Act} {w : World} {K : Act → World → Prop} {Q : Exit → Act → World → Prop} (f : FuncId) (args : Array Operand) (tys : Array TypeId) (hop : o.op = Op.call { callee := Callee.value (Operand.func f), args := args, argTypes := tys })
  (vs : Array Value) (hvs : args.map a.eval = vs) (hcf : ∀ W, (callFunc f vs).run P W = .ok (.enter f vs) W) {C : Ending → World → Prop} (hc : Calls P f vs w C)
  (hK : ∀ e w', C e w' → ∃ v, e = .returned v ∧ K (a.put o.dst v) w') : o.wp P a w K Q := by
 unfold Oper.wp execOp
 simp [go_sem, hop, hvs]
 rw [hcf]
 simp [go_sem]
 refine hc.mono ?_
 intro e w' h
 obtain ⟨v, rfl, hk⟩ := hK e w' h
 exact hk
section
variable {P : Program} {ops : Array Oper} {Q : Exit → Act → World → Prop}
end
end Go.Proofs.YthhibagcpjeihaaGreat
