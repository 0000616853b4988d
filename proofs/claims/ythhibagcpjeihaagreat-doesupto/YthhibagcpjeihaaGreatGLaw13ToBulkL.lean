import Derived.Test.YthhibagcpjeihaaGreatGLaw9ToLaw12
import Derived.Test.YthhibagcpjeihaaGreatGLaw5ToLaw31
import Derived.Test.YthhibagcpjeihaaGreatGRef29ToKeepM
import Derived.Test.YthhibagcpjeihaaGreatRows
/- Tapes that do not fail: a command is done. -/
namespace Go.Proofs.YthhibagcpjeihaaGreat
open Go.RowKit
open M
set_option linter.unusedVariables false
set_option linter.unusedSimpArgs false
set_option maxRecDepth 100000
set_option maxHeartbeats 4000000

/-- A keeper that lives, on a tape that does not fail, behind so many steps. -/
structure PD (n : Nat) (I : OneI) : Prop where
  kb : ∃ b, I.kb = some b
  mb : I.mb = none
  sh : I.sh = false
  same : I.W.now = I.now ∧ I.W.fl = I.fl
  live : I.K.live = true
  torn : I.K.torn = false
  file : I.K.file < 2
  fuse : I.K.T.fuse < 0
  ch : 0 ≤ I.ch ∧ I.ch ≤ n
  used : (I.K.T.used : Int) ≤ 60 * I.ch
  now : 0 ≤ I.now ∧ I.now ≤ 100 * I.ch
  most : 0 ≤ I.most ∧ I.most ≤ 1000000

theorem PD.more (n : Nat) (I : OneI) (h : PD n I) : PD (n + 1) I := ⟨h.kb, h.mb, h.sh, h.same, h.live, h.torn, h.file, h.fuse, by have := h.ch; omega, h.used, h.now, h.most⟩

theorem pd_new (n tb kb wb tob : Nat) (room : Int) : PD n (newI tb kb wb tob room) := by
  refine ⟨⟨_, rfl⟩, rfl, rfl, ⟨rfl, rfl⟩, rfl, rfl, ?_, ?_, ?_, ?_, ?_, ?_⟩
  · show (0 : Nat) < 2; omega
  · show (-1 : Int) < 0; omega
  · show (0 : Int) ≤ 0 ∧ (0 : Int) ≤ (n : Int); omega
  · show (((0 : Nat) + 0 + 0 + 0 : Nat) : Int) ≤ 60 * 0; omega
  · show (0 : Int) ≤ 0 ∧ (0 : Int) ≤ 100 * 0; omega
  · show (0 : Int) ≤ 200 ∧ (200 : Int) ≤ 1000000; omega

/-- On such a tape a record that may be spelt is laid, if there is room for it. -/
theorem saveI_live {n : Nat} {I : OneI} (h : PD n I) (c : Cmd) (hl : (recB I.now [entOf I.now c]).length ≤ 42) :
    (2 * I.most + 60 * (I.ch + 1) + 180 ≤ I.K.T.room → (saveI I c).1 = 0) ∧ (saveI I c).2.T.room = I.K.T.room ∧
    ((saveI I c).1 = 0 ∧ (saveI I c).2.live = true ∧ (saveI I c).2.torn = false ∧ (saveI I c).2.file < 2 ∧ (saveI I c).2.T.fuse < 0 ∧ ((saveI I c).2.T.used : Int) ≤ 60 * (I.ch + 1) ∨
     (saveI I c).1 = 15 ∧ (saveI I c).2.live = true ∧ (saveI I c).2.torn = false ∧ (saveI I c).2.file < 2 ∧ (saveI I c).2.T.fuse < 0 ∧ ((saveI I c).2.T.used : Int) ≤ 60 * I.ch) := by
  have e1 : saveI I c = layK I.K (recB I.now [entOf I.now c]) := by
    unfold saveI saveK
    rw [if_neg (by rw [h.torn]; simp)]
  rw [e1]
  unfold layK
  rw [if_neg (by rw [h.live]; simp)]
  have hu := h.used
  have hm := h.most
  have hc := h.ch
  by_cases hr : I.K.T.room < (I.K.T.used : Int) + (recB I.now [entOf I.now c]).length
  · have e2 : layP I.K.T I.K.file (recB I.now [entOf I.now c]) = (15, I.K.T) := by unfold layP; rw [if_pos hr]
    rw [e2]
    refine ⟨fun q => by omega, rfl, .inr ⟨rfl, rfl, h.torn, h.file, h.fuse, hu⟩⟩
  · obtain ⟨l1, l2, l3, l4⟩ := layP_ok (r := recB I.now [entOf I.now c]) h.file h.fuse (by omega)
    refine ⟨fun _ => l1, l3, .inl ⟨l1, ?_, h.torn, h.file, ?_, ?_⟩⟩
    · show ((layP I.K.T I.K.file (recB I.now [entOf I.now c])).1 != 16) = true
      rw [l1]; rfl
    · show (layP I.K.T I.K.file (recB I.now [entOf I.now c])).2.fuse < 0
      rw [l2]; exact h.fuse
    · show ((layP I.K.T I.K.file (recB I.now [entOf I.now c])).2.used : Int) ≤ _
      rw [l4]; omega

/-- A command on such a keeper. -/
theorem done_pd {w : World} {O : Nat → Prop} {ob n : Nat} {I : OneI} (h : OneX w O ob I) (hp : PD n I) (hn : n ≤ 1048576) (c : Cmd) (ht : -9223372036854775808 ≤ c.time ∧ c.time ≤ 9223372036854775807) :
    Calls Tryz.prog 15 #[.pointer (some ⟨ob, 0, none⟩), .agg (cmdCells c)] w fun e w' => e = .returned (.bool true) ∧ OneD w w' O ob (PD (n + 1)) := by
  obtain ⟨kb, hkb⟩ := hp.kb
  have hc := hp.ch
  have hnow := hp.now
  have hmo := hp.most
  have hused := hp.used
  have hfile := hp.file
  have hN : 0 ≤ I.now ∧ I.now ≤ 4611686018427387000 := by omega
  have hb : (I.K.T.b I.K.file).length ≤ I.K.T.used := by
    have : I.K.file = 0 ∨ I.K.file = 1 := by omega
    unfold TP.used
    rcases this with e | e <;> rw [e] <;> omega
  obtain ⟨⟨pt0, hk0⟩, _⟩ := h.keep.some kb hkb
  by_cases hz : (doK I.now I.fl c).1 = 0
  · have hfit := doK_cfit hN (fun m p l hn' hf => (hk0.keep.here m p l hn' hf).elim fun b hb => hb.2.1) hz
    have hl := rec1_len hfit
    obtain ⟨s1, s2, s3⟩ := saveI_live hp c hl
    refine (done_any h hkb c ht hN hmo (by omega) (by rw [hp.sh, hp.live]; rfl) hp.same (fun W pt hk => do_t hk hN hp.torn hfile (by omega) c) (fun _ e q => ?_) (fun _ e => ?_)).mono ?_
    · rw [s2] at q
      have := s1 q
      omega
    · rcases s3 with s | s <;> (have := s.1; omega)
    · rintro e w' ⟨he, ⟨I', hI, hR⟩, hm⟩
      refine ⟨he, ⟨I', hI, ?_⟩, hm⟩
      have hdt := doK_time I.now I.fl c
      rcases hR with ⟨q, _⟩ | ⟨_, q, _⟩ | ⟨_, _, q, okp, Wn, e1, e2, rfl⟩ | ⟨_, _, q, okp, rfl⟩ | ⟨_, _, q, _⟩
      · exact absurd hz q
      · rw [hp.sh] at q; cases q
      · have hwt := worR_weight hI.wor.wor
        have hwt : 200 ≤ weightOf Wn.xs ∧ weightOf Wn.xs ≤ 100000 := hwt
        rcases s3 with s | s
        · obtain ⟨_, t1, t2, t3, t4, t5⟩ := s
          refine ⟨⟨kb, hkb⟩, hp.mb, hp.sh, ⟨e1, e2⟩, t1, t2, t3, t4, ?_, t5, ?_, ?_⟩
          · show 0 ≤ I.ch + 1 ∧ I.ch + 1 ≤ ((n + 1 : Nat) : Int); omega
          · show 0 ≤ (doK I.now I.fl c).2.1 ∧ (doK I.now I.fl c).2.1 ≤ 100 * (I.ch + 1); omega
          · show 0 ≤ max I.most (weightOf Wn.xs) ∧ max I.most (weightOf Wn.xs) ≤ 1000000; omega
        · have := s.1; omega
      · rcases s3 with s | s
        · have := s.1; omega
        · obtain ⟨_, t1, t2, t3, t4, t5⟩ := s
          exact ⟨⟨kb, hkb⟩, hp.mb, hp.sh, hp.same, t1, t2, t3, t4, ⟨hc.1, by show I.ch ≤ ((n + 1 : Nat) : Int); omega⟩, t5, hnow, hmo⟩
      · rcases s3 with s | s <;> (have := s.1; omega)
  · refine (done_any h hkb c ht hN hmo (by omega) (by rw [hp.sh, hp.live]; rfl) hp.same (fun W pt hk => do_t hk hN hp.torn hfile (by omega) c) (fun q => absurd q hz) (fun q => absurd q hz)).mono ?_
    rintro e w' ⟨he, ⟨I', hI, hR⟩, hm⟩
    refine ⟨he, ⟨I', hI, ?_⟩, hm⟩
    rcases hR with ⟨_, okp, rfl⟩ | ⟨q, _⟩ | ⟨q, _⟩ | ⟨q, _⟩ | ⟨q, _⟩
    · exact PD.more _ _ ⟨hp.kb, hp.mb, hp.sh, hp.same, hp.live, hp.torn, hp.file, hp.fuse, hp.ch, hp.used, hp.now, hp.most⟩
    all_goals exact absurd q hz
end Go.Proofs.YthhibagcpjeihaaGreat
/- Does: the walk. -/
namespace Go.Proofs.YthhibagcpjeihaaGreat
open Go.RowKit
open M
set_option linter.unusedVariables false
set_option linter.unusedSimpArgs false
set_option maxRecDepth 100000
set_option maxHeartbeats 4000000

/-- No lists. -/
def noB : World → (Nat → Prop) → Prop := fun _ _ => True
theorem noB_ok : BookOk noB := fun _ _ _ _ _ _ _ => trivial

/-- A script is played so far. -/
def JX (w0 : World) (yb : Nat) (m : Nat) (W : World) : Prop := ∃ who lv os, PlayX PD noB w0 W who yb lv (.slice none 0 0) (.slice none 0 0) os m

theorem JX.start (w : World) : JX w w.heap.size 0 (w.alloc (.cells #[.slice none 0 0, .slice none 0 0, .slice none 0 0] 34)) :=
  ⟨fun _ => 0, .slice none 0 0, [], Has.new w _ _, by simpa using World.ownsRow_nil _ _ _ _, fun j hj => absurd hj (Nat.not_lt_zero _), fun k hk => absurd rfl hk, ⟨rfl, Nat.le_refl _⟩, fun k hk => by simp [Value.ownBlock] at hk, Nat.zero_le _, fun k => Nat.zero_le _, (Mod.refl No w).alloc _, trivial⟩

theorem pd_pick (n : Nat) (I : OneI) (h : PD n I) : (∃ b, I.kb = some b) ∧ I.sh = false := ⟨h.kb, h.sh⟩

theorem step_does {w0 w : World} {yb m : Nat} (h : JX w0 yb m w) (hm : m ≤ 1048576) (x : OpL) {k ck : Int} (hk : x.S[0]? = some (.int .i64 k)) (hck : x.S[4]? = some (.int .i64 ck)) (h1 : 1 ≤ k ∧ k ≤ 5) (h9 : ¬ (k = 2 ∧ ck = 9)) :
    Calls Tryz.prog 10 #[ptrTo yb, .agg x.S] w fun e w' => e = .returned (.bool true) ∧ JX w0 yb (m + 1) w' := by
  obtain ⟨who, lv, os, hP⟩ := h
  obtain ⟨k', a, b, c, cm, hS, ha, hr, hC, ht⟩ := x.ok.nums
  have ek : k' = k := by
    have := hS.k0
    rw [hk] at this
    injection this with e
    injection e with _ e
    exact e.symm
  subst ek
  have toJ : ∀ (w' : World), PlayD PD noB w0 w' yb (.slice none 0 0) (.slice none 0 0) m → JX w0 yb (m + 1) w' := fun w' hd => by
    obtain ⟨⟨who', lv', os', q⟩⟩ := hd
    exact ⟨who', lv', os', q⟩
  by_cases k1 : k' = 1
  · subst k1
    have c0 : c = 0 := by
      have h3 := x.live hk
      have := hS.c3
      rw [h3] at this
      injection this with e
      injection e with _ e
      exact e.symm
    subst c0
    exact (step_new noB_ok PD.more hP (by omega) hS (fun tb kb wb tob _ => pd_new _ _ _ _ _ _)).mono fun e w' ⟨he, hd⟩ => ⟨he, toJ w' hd⟩
  · by_cases hne : 0 < os.length
    case neg =>
      obtain rfl : os = [] := List.eq_nil_of_length_eq_zero (by omega)
      exact (step_none noB_ok PD.more hP hS k1).mono fun e w' ⟨he, hd⟩ => ⟨he, toJ w' hd⟩
    have hp := pickN_range a (os.length : Int) (by omega)
    obtain ⟨j, hja⟩ : ∃ j : Nat, pickN a (os.length : Int) = (j : Int) := ⟨(pickN a (os.length : Int)).toNat, by omega⟩
    have hj : j < os.length := by rw [hja] at hp; omega
    have hW := fun n' => hP.still noB_ok (((Mod.refl No w).alloc (.cells x.S 45)).drewN n')
    refine (step_pick noB_ok pd_pick hP (by omega) hne hS ha hr (by omega) (cmdCells cm) rfl hC j hj hja (Q := fun _ w' => JX w0 yb (m + 1) w') (fun e n' => ?_) (fun e n' => ?_))
    · obtain ⟨I, hI, hch⟩ := (hW n').ones j hj
      refine (done_pd hI hch hm cm ht).mono ?_
      rintro e' w' ⟨he, hd⟩
      obtain ⟨who', q1, _⟩ := (hW n').step noB_ok PD.more hj (fun _ q => q) hd
      exact ⟨he, who', _, _, q1⟩
    · obtain ⟨I, hI, hch⟩ := (hW n').ones j hj
      obtain ⟨kb, hkb⟩ := hch.kb
      have hA := hI.ask hkb hch.same
      have fin : ∀ {e' : Ending} {w' : World}, e' = .returned (.bool true) ∧ Mod No ((w.alloc (.cells x.S 45)).drewN n') w' → e' = .returned (.bool true) ∧ JX w0 yb (m + 1) w' := fun {e' w'} h => ⟨h.1, who, lv, os, ((hW n').still noB_ok h.2).more PD.more⟩
      have : k' = 3 ∨ k' = 4 ∨ k' = 5 := by omega
      rcases this with rfl | rfl | rfl
      · exact (asked_now hA hS).mono fun e w' h => fin h
      · exact (asked_left hA hS).mono fun e w' h => fin h
      · exact (asked_count hA hS).mono fun e w' h => fin h

theorem does_any (a : Option Addr) (n cap : Nat) (hn : n ≤ 1048576) (w : World) (hs : Ops w a n) :
    Calls Tryz.prog 3 #[.slice a n cap] w fun e w' => e = .returned (.bool true) ∧ Mod No w w' := by
  have HL := hide (living_any a n cap (by omega) w hs)
  clear hs
  go_enter Tryz.func3, Tryz.ntmps3
  go_wp2_with fail
  refine (unhide HL).mono ?_
  rintro e w1 ⟨v, rfl, ⟨l, hl, ho, hb⟩, hm⟩
  obtain ⟨a1, c1, rfl⟩ := slice_of_owns ho
  subst hl
  have hlive := live_of ho rfl
  have mA : Mod No w1 (w1.alloc (.cells #[.int .i64 1, .int .i64 2, .int .i64 3, .int .i64 4, .int .i64 5] 3)) := (Mod.refl _ _).alloc _
  have hK := Has.new w1 #[.int .i64 1, .int .i64 2, .int .i64 3, .int .i64 4, .int .i64 5] 3
  have HP := hide (plays_any (w := w1.alloc (.cells #[.int .i64 1, .int .i64 2, .int .i64 3, .int .i64 4, .int .i64 5] 3)) a1 l.length c1 (by omega) (hlive.mod mA (fun _ _ _ _ x => x)) w1.heap.size 5 [1, 2, 3, 4, 5] (fun q hq => by
      have : q = 0 ∨ q = 1 ∨ q = 2 ∨ q = 3 ∨ q = 4 := by simp at hq; omega
      rw [hK.cell]
      rcases this with rfl | rfl | rfl | rfl | rfl <;> rfl) hK.lt (by simp) false (JX _ _) (JX.start _)
    (fun m W h => by obtain ⟨_, _, _, q⟩ := h; exact q.mod) (fun m W h => by obtain ⟨who, lv, os, q⟩ := h; exact ⟨who, lv, os, q.more PD.more⟩) (fun m W W' h hm => by obtain ⟨who, lv, os, q⟩ := h; exact ⟨who, lv, os, q.still noB_ok hm⟩)
    (fun m W x k ck hm hJ hk hck hin hsw => step_does hJ (by omega) x hk hck (by
        simp [inK] at hin
        omega) (by
        rcases hsw with e | e
        · cases e
        · exact e))
    (fun m W hJ => by
      obtain ⟨who, lv, os, q⟩ := hJ
      exact (whole_any _ 1 W (q.has.cell 1) (q.has.cell 2)).mono fun e w' ⟨he, hw⟩ => ⟨he, by subst hw; exact ⟨who, lv, os, q⟩⟩))
  have MM := hide (hm.trans mA)
  clear HL ho hb hm hlive mA hK
  go_wp2_with fail
  refine (unhide HP).mono ?_
  rintro e w2 ⟨rfl, hm2⟩
  have M2 := hide ((unhide MM).trans hm2)
  clear hm2 HP MM
  go_wp2
  go_ret
  exact ⟨rfl, unhide M2⟩
end Go.Proofs.YthhibagcpjeihaaGreat
/- What the bound on what comes in gives. -/
namespace Go.Proofs.YthhibagcpjeihaaGreat

theorem bulk_one {H : Type} (d : DataW H) : 1 ≤ Rows.uptoBulk d := by
  cases d with
  | lit l => cases l <;> simp [Rows.uptoBulk]
  | nil => simp [Rows.uptoBulk]
  | ptr d => simp [Rows.uptoBulk]
  | slice elems spare => simp [Rows.uptoBulk]
  | agg parts => simp [Rows.uptoBulk]
  | iface t d => simp [Rows.uptoBulk]
  | map entries => simp [Rows.uptoBulk]
  | held h => simp [Rows.uptoBulk]
theorem bulk_part {H : Type} {d : DataW H} {l : List (DataW H)} (h : d ∈ l) : Rows.uptoBulk d ≤ Rows.uptoBulkAll l := by
  induction l with
  | nil => cases h
  | cons x r ih =>
    simp only [Rows.uptoBulkAll]
    cases List.mem_cons.1 h with
    | inl e => subst e; omega
    | inr e => have := ih e; omega
theorem bulk_len {H : Type} (l : List (DataW H)) : l.length ≤ Rows.uptoBulkAll l := by
  induction l with
  | nil => simp [Rows.uptoBulkAll]
  | cons x r ih => have := bulk_one x; simp only [Rows.uptoBulkAll, List.length_cons]; omega
/-- A slice that came in has at most so many elements. -/
theorem bulk_slice {H : Type} {es sp : List (DataW H)} {l : List (DataW H)} (h : (DataW.slice es sp : DataW H) ∈ l) (hk : Rows.uptoSmall H l = true) : es.length ≤ 1048576 := by
  have h1 : Rows.uptoBulkAll l ≤ 1048576 := of_decide_eq_true hk
  have h2 := bulk_part h
  have h3 := bulk_len es
  simp only [Rows.uptoBulk] at h2
  omega
end Go.Proofs.YthhibagcpjeihaaGreat
