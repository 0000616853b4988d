import Derived.Test.YthhibagcpjeihaaGreatIRelToKeepM
import Derived.Test.YthhibagcpjeihaaGreatIFMapToFol4
import Derived.Test.YthhibagcpjeihaaGreatISwap2ToSwap4
import Derived.Test.YthhibagcpjeihaaGreatILook7ToRef7
import Derived.Handy
import Derived.Deep.CutBlock
import Derived.Deep.DeepCutAuto
namespace Go.Proofs.YthhibagcpjeihaaGreat
open Go.RowKit
open M
set_option linter.unusedVariables false
set_option linter.unusedSimpArgs false
set_option maxRecDepth 100000
set_option maxHeartbeats 4000000
theorem wcopy_all {w : World} {ow : Nat → Nat} {wb : Nat} {v : Value} {xs : List FR} {now : Int} (h : WorR w ow wb v xs now) (hv : xs = [] → v = .slice none 0 0) :
  Calls Tryz.prog 26 #[.pointer (some ⟨wb, 0, none⟩)] w fun e w' => e = .returned (.pointer (some ⟨w.heap.size, 0, none⟩)) ∧ ∃ v' ys ow', CopyI w w' w.heap.size xs now xs.length v' ys ow' ∧ (ys = [] → v' = .slice none 0 0) := by
 by_cases hx : xs = []
 ·subst hx
  obtain rfl := hv rfl
  refine (wcopy_nil h.has).mono ?_
  rintro e w' ⟨rfl, rfl⟩
  exact ⟨rfl, _, _, _, copy_start w now [], fun _ => rfl⟩
 ·refine (wcopy_any h).mono ?_
  rintro e w' ⟨v', ys, ow', rfl, hC⟩
  exact ⟨rfl, v', ys, ow', hC, fun e => by have := hC.len; rw [e] at this; exact absurd (List.eq_nil_of_length_eq_zero this.symm) hx⟩
theorem flOf_congr : ∀ (xs ys : List FR), ys.map (·.f) = xs.map (·.f) → ∀ n, flOf ys n = flOf xs n
 | [], [], _, _ => rfl
 | [], y :: ys, h, _ => by simp at h
 | x :: xs, [], h, _ => by simp at h
 | x :: xs, y :: ys, h, n => by
  simp only [List.map_cons, List.cons.injEq] at h
  have ih := flOf_congr xs ys h.2 n
  unfold flOf at ih ⊢
  simp only [List.find?_cons, h.1]
  cases (x.f.num == (n : Int))
  ·exact ih
  ·simp [h.1]
theorem Same.congr {xs ys : List FR} {fl : Nat → Option (Pla × List Sea)} (h : Same xs fl) (hl : ys.length = xs.length) (hf : ∀ j (h : j < ys.length) (h' : j < xs.length), ys[j].f = xs[j].f) : Same ys fl := by
 have hm : ys.map (·.f) = xs.map (·.f) := by
  apply List.ext_getElem
  ·simpa using hl
  ·intro j h1 h2
   simp only [List.getElem_map]
   exact hf j (by simpa using h1) (by simpa using h2)
 refine ⟨?_, fun y hy => ?_, fun n hn => ?_⟩
 ·rw [List.pairwise_iff_getElem]
  intro a b ha hb hab
  rw [hf a ha (by omega), hf b hb (by omega)]
  exact (List.pairwise_iff_getElem.1 h.sort) a b (by omega) (by omega) hab
 ·obtain ⟨j, hj, rfl⟩ := List.getElem_of_mem hy
  rw [hf j hj (by omega)]
  exact h.rng _ (List.getElem_mem (by omega))
 ·rw [flOf_congr xs ys hm]
  exact h.eq n hn
theorem doK_time (now : Int) (fl : Nat → Option (Pla × List Sea)) (c : Cmd) : now ≤ (doK now fl c).2.1 ∧ (doK now fl c).2.1 ≤ now + 100 := by
 by_cases k0 : c.kind < 1 ∨ c.kind > 9
 ·rw [doK_bad k0]; simp only; omega
 by_cases k8 : c.kind = 8
 ·by_cases tt : 1 ≤ c.time ∧ c.time ≤ 100
  ·rw [doK_tick k8 tt]; simp only; omega
  ·rw [doK_tock k8 tt]; simp only; omega
 by_cases hf : 1 ≤ c.flight ∧ c.flight ≤ 20
 case neg => rw [doK_num k0 k8 hf]; simp only; omega
 cases hx : fl c.flight.toNat with
 | none =>
  rw [doK_none k0 k8 hf hx]
  repeat' split
  all_goals simp only
  all_goals omega
 | some x =>
  rw [doK_some k0 k8 hf hx]
  repeat' split
  all_goals simp only
  all_goals omega
def tolC (vs : Nat → Value) (bs : Nat → Bool) : Array Value := #[vs 0, vs 1, vs 2, vs 3, vs 4, vs 5, vs 6, vs 7, .bool (bs 0), .bool (bs 1), .bool (bs 2), .bool (bs 3), .bool (bs 4), .bool (bs 5), .bool (bs 6), .bool (bs 7)]
structure TolX (w : World) (ow : Nat → Nat) (tob : Nat) (vs : Nat → Value) (ns : Nat → List Nw) (bs : Nat → Bool) : Prop where
 has : Has w tob (tolC vs bs) 76
 rows : ∀ i, i < 8 → w.ownsRow 0 68 3 (vs i) (ns i).length ((ns i).flatMap nwL)
 own : ∀ i, i < 8 → ∀ k, (vs i).ownBlock = some k → ow k = i + 2
 mine : ow tob = 1
theorem TolX.mod {w w' : World} {ow : Nat → Nat} {tob : Nat} {vs : Nat → Value} {ns : Nat → List Nw} {bs : Nat → Bool} {S : Nat → Prop} (h : TolX w ow tob vs ns bs) (hm : Mod S w w') (hs : ∀ k, ow k ≠ 0 → ¬ S k) : TolX w' ow tob vs ns bs :=
 ⟨hm.has h.has (hs _ (by rw [h.mine]; omega)), fun i hi => hm.owns (h.rows i hi) (fun k hk => hs k (by rw [h.own i hi k hk]; omega)), h.own, h.mine⟩
structure WI where
 wb : Nat
 ow : Nat → Nat
 v : Value
 xs : List FR
 now : Int
 fl : Nat → Option (Pla × List Sea)
structure WX (w : World) (I : WI) : Prop where
 wor : WorR w I.ow I.wb I.v I.xs I.now
 same : Same I.xs I.fl
 tidy : I.xs = [] → I.v = .slice none 0 0
theorem WX.mod {w w' : World} {I : WI} {S : Nat → Prop} (h : WX w I) (hm : Mod S w w') (hs : ∀ k, I.ow k ≠ 0 → ¬ S k) : WX w' I := ⟨h.wor.mod hm hs, h.same, h.tidy⟩
structure OneI where
 kb : Option Nat
 W : WI
 mb : Option WI
 tob : Nat
 okp : Nat → Nat
 owt : Nat → Nat
 om : Nat → Nat
 now : Int
 fl : Nat → Option (Pla × List Sea)
 K : KS
 most : Int
 ch : Int
 sh : Bool
 n0 : Int
 n1 : Int
 n2 : Int
 tl : Nat → Option (List FEnt)
 vs : Nat → Value
 ns : Nat → List Nw
 bs : Nat → Bool
def ptrOf (x : Option Nat) : Value := .pointer (x.map fun b => ⟨b, 0, none⟩)
def oneV (I : OneI) : Array Value := #[.pointer (some ⟨I.K.tb, 0, none⟩), ptrOf I.kb, .pointer (some ⟨I.W.wb, 0, none⟩), ptrOf (I.mb.map (·.wb)), .pointer (some ⟨I.tob, 0, none⟩), .int .i64 I.most, .int .i64 I.ch, .bool I.sh, .int .i64 I.n0, .int .i64 I.n1, .int .i64 I.n2]
structure KeepO (w : World) (ow om : Nat → Nat) (kb : Option Nat) (now : Int) (fl : Nat → Option (Pla × List Sea)) (K : KS) (tl : Nat → Option (List FEnt)) : Prop where
 some : ∀ b, kb = some b → (∃ pt, KeepT w ow b now pt fl K) ∧ FolX w ow om b tl
 none : kb = none → TapeH w (fun k => ow k = 30) K.tb K.T ∧ ∀ k, ow k ≠ 0 → k < w.heap.size
theorem KeepO.mod {w w' : World} {ow om : Nat → Nat} {kb : Option Nat} {now : Int} {fl : Nat → Option (Pla × List Sea)} {K : KS} {tl : Nat → Option (List FEnt)} {S : Nat → Prop} (h : KeepO w ow om kb now fl K tl) (hm : Mod S w w') (hs : ∀ k, ow k ≠ 0 → ¬ S k) (hs2 : ∀ k, om k ≠ 0 → ¬ S k) : KeepO w' ow om kb now fl K tl := by
 refine ⟨fun b hb => ?_, fun hn => ?_⟩
 ·obtain ⟨⟨pt, h1⟩, h2⟩ := h.some b hb
  refine ⟨⟨pt, h1.mod hm hs⟩, ?_⟩
  have hkb : ¬ S b := hs b (by rw [h1.keep.mine]; omega)
  have hc : ∀ o v, w.cell? ⟨b, o, Option.none⟩ = Option.some v → w'.cell? ⟨b, o, Option.none⟩ = Option.some v := fun o v hc => by
   have hlt := World.block_lt_of_cell? w _ hc
   rw [World.cell?_of_block (w := w) (hm.block _ hlt hkb)]
   exact hc
  exact ⟨fun i hi ht => hc _ _ (h2.un i hi ht), fun i hi es ht => by
   obtain ⟨m, clock, a1, a2, a3, a4⟩ := h2.is i hi es ht
   exact ⟨m, clock, hc _ _ a1, a2, mod_fol hm a3 (hs2 m (by omega)), a4⟩, fun k hk => ⟨Nat.lt_of_lt_of_le (h2.old k hk).1 hm.size, (h2.old k hk).2⟩⟩
 ·obtain ⟨h1, h2⟩ := h.none hn
  exact ⟨h1.mod hm (fun k hk => hs k (by omega)), fun k hk => Nat.lt_of_lt_of_le (h2 k hk) hm.size⟩
structure OneX (w : World) (O : Nat → Prop) (ob : Nat) (I : OneI) : Prop where
 has : Has w ob (oneV I) 55
 keep : KeepO w I.okp I.om I.kb I.now I.fl I.K I.tl
 wor : WX w I.W
 may : ∀ M, I.mb = some M → WX w M
 told : TolX w I.owt I.tob I.vs I.ns I.bs
 ex : ∃ cls : Nat → Nat, cls ob = 1 ∧ (∀ k, I.okp k ≠ 0 → cls k = 2) ∧ (∀ k, I.W.ow k ≠ 0 → cls k = 3) ∧ (∀ k, I.owt k ≠ 0 → cls k = 4) ∧ (∀ k, I.om k ≠ 0 → cls k = 5) ∧ (∀ M, I.mb = some M → ∀ k, M.ow k ≠ 0 → cls k = 6) ∧ ∀ k, cls k ≠ 0 → O k
 lt : ∀ k, O k → k < w.heap.size
def grow (O : Nat → Prop) (w w' : World) : Nat → Prop := fun k => O k ∨ (w.heap.size ≤ k ∧ k < w'.heap.size)
theorem OneX.mod {w w' : World} {O S : Nat → Prop} {ob : Nat} {I : OneI} (h : OneX w O ob I) (hm : Mod S w w') (hs : ∀ k, O k → ¬ S k) : OneX w' O ob I := by
 obtain ⟨cls, c1, c2, c3, c4, c5, c6, c7⟩ := h.ex
 have g : ∀ k n, cls k = n → n ≠ 0 → ¬ S k := fun k n e hn => hs k (c7 k (by omega))
 exact ⟨hm.has h.has (g _ _ c1 (by omega)), h.keep.mod hm (fun k hk => g _ _ (c2 k hk) (by omega)) (fun k hk => g _ _ (c5 k hk) (by omega)), h.wor.mod hm (fun k hk => g _ _ (c3 k hk) (by omega)),
  fun M hM => (h.may M hM).mod hm (fun k hk => g _ _ (c6 M hM k hk) (by omega)), h.told.mod hm (fun k hk => g _ _ (c4 k hk) (by omega)), ⟨cls, c1, c2, c3, c4, c5, c6, c7⟩, fun k hk => Nat.lt_of_lt_of_le (h.lt k hk) hm.size⟩
structure OneD (w w' : World) (O : Nat → Prop) (ob : Nat) (R : OneI → Prop) : Prop where
 ex : ∃ I', OneX w' (grow O w w') ob I' ∧ R I'
 mod : Mod O w w'
structure Weighed (w w' : World) (ob : Nat) (I : OneI) (wt : Int) : Prop where
 ex : Has w' ob (oneV { I with most := max I.most wt }) 55
 mod : Mod (fun k => k = ob) w w'
theorem weigh_any {w : World} {ob : Nat} {I : OneI} (hh : Has w ob (oneV I) 55) (hw : WX w I.W) (W : Int) (hwt : weightOf I.W.xs = W) :
  Calls Tryz.prog 29 #[.pointer (some ⟨ob, 0, none⟩)] w fun e w' => e = .returned (.tuple #[]) ∧ Weighed w w' ob I W := by
 have HW := wweight_any hw.wor hw.tidy
 rw [hwt] at HW
 have HW := hide HW
 have c2 : w.cell? ⟨ob, 2, none⟩ = some (.pointer (some ⟨I.W.wb, 0, none⟩)) := hh.cell 2
 have ol := hh.lt
 have HH := hide hh
 clear hh hw hwt
 go_enter Tryz.func29, Tryz.ntmps29
 go_wp2_with fail
 refine (unhide HW).mono ?_
 rintro e w1 ⟨rfl, m1⟩
 have h1 := m1.has (unhide HH) (fun x => x)
 have c5 : w1.cell? ⟨ob, 5, none⟩ = some (.int .i64 I.most) := h1.cell 5
 have f1 := h1.frozen
 have l1 := h1.lt
 have M1 := hide (m1.mono (S' := fun k => k = ob) (fun _ _ x => x.elim))
 have H1 := hide h1
 clear m1 h1 HW c2
 by_cases hg : W > I.most
 ·go_wp2
  go_end0
  refine ⟨rfl, ?_, (unhide M1).at 5 _⟩
  rw [show max I.most W = W by omega]
  exact (unhide H1).set 5 (.int .i64 W)
 ·go_wp2
  go_end0
  refine ⟨rfl, ?_, unhide M1⟩
  rw [show max I.most W = I.most by omega]
  exact unhide H1
set_option maxHeartbeats 8000000
def nHome (Q : Pla) (l : List Sea) (i : Nat) : Nat := (homeless Q (l.take i)).length
def nStay (Q : Pla) (l : List Sea) (i : Nat) : Nat := (stay Q (l.take i)).length
theorem nFull_free (l : List Sea) : nFull l + nFree l = l.length := by
 induction l with
 | nil => rfl
 | cons x l ih =>
  unfold nFull nFree at *
  simp only [List.countP_cons, List.length_cons]
  by_cases h : x.st = 0 <;> simp [h] <;> omega
theorem bare_eq {s x : Sea} (hs : s.wf) (hx : x.wf) (h0 : s.st = 0) (x0 : x.st = 0) (hr : x.row = s.row) (hc : x.col = s.col) : x = s := by
 obtain ⟨a1, a2, a3⟩ := hs.bare (.inl h0)
 obtain ⟨b1, b2, b3⟩ := hx.bare (.inl x0)
 obtain ⟨r, c, st, pa, cl, un⟩ := s
 obtain ⟨r', c', st', pa', cl', un'⟩ := x
 simp only at *
 subst h0 x0 hr hc a1 a2 a3 b1 b2 b3
 rfl
theorem stay_put {p q : Pla} {l : List Sea} (hwf : Wf p l) (h1 : q.sized = true) (h2 : q.limited = true) (i : Nat) (hi : i < l.length) (hh : q.has l[i].row l[i].col = true) :
  ∃ hj : q.idx l[i].row l[i].col < (stay q (l.take i)).length, (stay q (l.take i))[q.idx l[i].row l[i].col].row = l[i].row ∧ (stay q (l.take i))[q.idx l[i].row l[i].col].col = l[i].col ∧ stay q (l.take (i + 1)) = (stay q (l.take i)).set (q.idx l[i].row l[i].col) l[i] := by
 have hS := stayed_take hwf h1 h2 i (by omega)
 obtain ⟨hj, f0, fr, fc⟩ := hS.free hwf hi hh
 refine ⟨hj, fr, fc, ?_⟩
 rw [stay_take q l i hi]
 unfold stayStep
 by_cases h0 : l[i].st = 0
 ·rw [if_neg (fun e => e.1 h0)]
  have e := bare_eq (hwf.seat _ (List.getElem_mem hi)) (hS.wf.seat _ (List.getElem_mem hj)) h0 f0 fr fc
  have h3 : (stay q (l.take i)).set (q.idx l[i].row l[i].col) ((stay q (l.take i))[q.idx l[i].row l[i].col]) = stay q (l.take i) := List.set_getElem_self hj
  rw [e] at h3
  exact h3.symm
 ·rw [if_pos ⟨h0, hh⟩]
def nV (num : Int) (Q : Pla) (g E cap : Nat) (ep : Int) : Array Value :=
 #[.int .i64 num, .int .i64 Q.rows, .int .i64 Q.cols, .int .i64 Q.front, .int .i64 Q.l0, .int .i64 Q.l1, .int .i64 Q.l2, .int .i64 Q.l3, .slice (some ⟨g, 0, none⟩) E cap, .int .i64 ep]
structure NewF (w wr : World) (nb g cap : Nat) (Q : Pla) (num ep : Int) (acc : List Sea) : Prop where
 has : Has wr nb (nV num Q g acc.length cap ep) 134
 row : RowS wr g cap acc
 wf : Wf Q acc
 ne : nb ≠ g
 new : w.heap.size ≤ nb ∧ w.heap.size ≤ g
 mod : Mod No w wr
theorem NewF.flR {w wr : World} {nb g cap : Nat} {Q : Pla} {num ep : Int} {acc : List Sea} (h : NewF w wr nb g cap Q num ep acc) : FlR wr nb 0 g cap Q acc := by
 refine ⟨h.row, by have := wf_len h.wf; omega, h.ne, h.has.cell 8, fun j hj => ?_⟩
 have := h.has.cell (4 + j)
 rw [Nat.zero_add, this]
 match j, hj with
 | 0, _ => rfl
 | 1, _ => rfl
 | 2, _ => rfl
 | 3, _ => rfl
theorem NewF.step {w wr w2 : World} {nb g cap : Nat} {Q : Pla} {num ep : Int} {acc : List Sea} {S : Nat → Prop} (h : NewF w wr nb g cap Q num ep acc) (hm : Mod S wr w2) (h1 : ¬ S nb) (h2 : ¬ S g) (h3 : ∀ k, S k → w.heap.size ≤ k) : NewF w w2 nb g cap Q num ep acc :=
 ⟨hm.has h.has h1, h.row.mod hm h2, h.wf, h.ne, h.new, h.mod.trans' hm (fun k hk hl => by have := h3 k hk; omega)⟩
theorem NewF.still {w wr w2 : World} {nb g cap : Nat} {Q : Pla} {num ep : Int} {acc : List Sea} (h : NewF w wr nb g cap Q num ep acc) (hm : Mod No wr w2) : NewF w w2 nb g cap Q num ep acc :=
 h.step hm (fun x => x) (fun x => x) (fun k x => x.elim)
theorem NewF.put {w wr : World} {nb g cap : Nat} {Q : Pla} {num ep : Int} {acc : List Sea} (h : NewF w wr nb g cap Q num ep acc) (j : Nat) (hj : j < acc.length) (s : Sea) (hs : s.wf) (hr : acc[j].row = s.row) (hc : acc[j].col = s.col) :
  NewF w ((((((wr.setCell ⟨g, j * 6, none⟩ (.int .i64 s.row)).setCell ⟨g, j * 6 + 1, none⟩ (.int .i64 s.col)).setCell ⟨g, j * 6 + 2, none⟩ (.int .i64 s.st)).setCell ⟨g, j * 6 + 3, none⟩ (.int .i64 s.pa)).setCell ⟨g, j * 6 + 4, none⟩ (.int .i64 s.cl)).setCell ⟨g, j * 6 + 5, none⟩ (.int .i64 s.un)) nb g cap Q num ep (acc.set j s) := by
 have hm := (Mod.refl (fun k => k = g) wr).put6 rfl j (.int .i64 s.row) (.int .i64 s.col) (.int .i64 s.st) (.int .i64 s.pa) (.int .i64 s.cl) (.int .i64 s.un)
 have hh := hm.has h.has h.ne
 refine ⟨?_, h.row.put6 j hj s, h.wf.set hj hs hr.symm hc.symm, h.ne, h.new, h.mod.trans' hm (fun k hk hl => by have := h.new.2; omega)⟩
 rw [List.length_set]
 exact hh
structure StI (w wr : World) (nb g cap : Nat) (Q : Pla) (num ep : Int) (l : List Sea) (v : Value) (i : Nat) : Prop where
 n : NewF w wr nb g cap Q num ep (stay Q (l.take i))
 home : wr.ownsRow 0 63 6 v (nHome Q l i) ((homeless Q (l.take i)).flatMap seaL)
 own : ∀ k, v.ownBlock = some k → w.heap.size ≤ k ∧ k ≠ nb ∧ k ≠ g
theorem StI.still {w wr w2 : World} {nb g cap : Nat} {Q : Pla} {num ep : Int} {l : List Sea} {v : Value} {i : Nat} (h : StI w wr nb g cap Q num ep l v i) (hm : Mod No wr w2) : StI w w2 nb g cap Q num ep l v i :=
 ⟨h.n.still hm, hm.owns h.home (fun _ _ x => x), h.own⟩
theorem StI.start {w wr : World} {nb g cap : Nat} {Q : Pla} {num ep : Int} (l : List Sea) (h : NewF w wr nb g cap Q num ep (emptySeats Q)) : StI w wr nb g cap Q num ep l (.slice none 0 0) 0 :=
 ⟨h, World.ownsRow_nil _ _ _ _, fun k hk => by simp [Value.ownBlock] at hk⟩
theorem StI.pass {w wr : World} {nb g cap : Nat} {Q : Pla} {num ep : Int} {l : List Sea} {v : Value} {i : Nat} (h : StI w wr nb g cap Q num ep l v i) (hi : i < l.length) (hn : Q.has l[i].row l[i].col = false) (h0 : l[i].st = 0) : StI w wr nb g cap Q num ep l v (i + 1) := by
 have e1 : stay Q (l.take (i + 1)) = stay Q (l.take i) := by
  rw [stay_take Q l i hi]
  unfold stayStep
  rw [if_neg (fun e => e.1 h0)]
 have e2 : homeless Q (l.take (i + 1)) = homeless Q (l.take i) := by
  rw [homeless_take Q l i hi, if_neg (fun e => e.1 h0), List.append_nil]
 refine ⟨by rw [e1]; exact h.n, ?_, h.own⟩
 have := h.home
 unfold nHome at *
 rw [e2]
 exact this
theorem StI.lay {p : Pla} {w wr : World} {nb g cap : Nat} {Q : Pla} {num ep : Int} {l : List Sea} {v : Value} {i : Nat} (h : StI w wr nb g cap Q num ep l v i) (hwf : Wf p l) (h1 : Q.sized = true) (h2 : Q.limited = true) (hi : i < l.length) (hh : Q.has l[i].row l[i].col = true) (s : Sea) (hs : l[i] = s) :
  StI w ((((((wr.setCell ⟨g, Q.idx s.row s.col * 6, none⟩ (.int .i64 s.row)).setCell ⟨g, Q.idx s.row s.col * 6 + 1, none⟩ (.int .i64 s.col)).setCell ⟨g, Q.idx s.row s.col * 6 + 2, none⟩ (.int .i64 s.st)).setCell ⟨g, Q.idx s.row s.col * 6 + 3, none⟩ (.int .i64 s.pa)).setCell ⟨g, Q.idx s.row s.col * 6 + 4, none⟩ (.int .i64 s.cl)).setCell ⟨g, Q.idx s.row s.col * 6 + 5, none⟩ (.int .i64 s.un)) nb g cap Q num ep l v (i + 1) := by
 subst hs
 obtain ⟨hj, fr, fc, e1⟩ := stay_put hwf h1 h2 i hi hh
 have e2 : homeless Q (l.take (i + 1)) = homeless Q (l.take i) := by
  rw [homeless_take Q l i hi, if_neg (fun e => e.2 hh), List.append_nil]
 have hm := (Mod.refl (fun k => k = g) wr).put6 rfl (Q.idx l[i].row l[i].col) (.int .i64 l[i].row) (.int .i64 l[i].col) (.int .i64 l[i].st) (.int .i64 l[i].pa) (.int .i64 l[i].cl) (.int .i64 l[i].un)
 refine ⟨?_, ?_, h.own⟩
 ·rw [e1]
  exact h.n.put _ hj l[i] (hwf.seat _ (List.getElem_mem hi)) fr fc
 ·have := hm.owns h.home (fun k hk e => (h.own k hk).2.2 e)
  unfold nHome at *
  rw [e2]
  exact this
theorem nHome_same {Q : Pla} {l : List Sea} {i : Nat} (hi : i < l.length) (h : ¬ (l[i].st ≠ 0 ∧ ¬ Q.has l[i].row l[i].col = true)) : nHome Q l (i + 1) = nHome Q l i := by
 unfold nHome
 rw [homeless_take Q l i hi, if_neg h, List.append_nil]
theorem nHome_more {Q : Pla} {l : List Sea} {i : Nat} (hi : i < l.length) (h : l[i].st ≠ 0 ∧ ¬ Q.has l[i].row l[i].col = true) : nHome Q l (i + 1) = nHome Q l i + 1 := by
 unfold nHome
 rw [homeless_take Q l i hi, if_pos h, List.length_append]
 rfl
theorem nHome_le (Q : Pla) (l : List Sea) (i : Nat) : nHome Q l i ≤ l.length := by
 unfold nHome homeless
 have := List.length_filter_le (fun s : Sea => s.st != 0 && !Q.has s.row s.col) (l.take i)
 rw [List.length_take] at this
 omega
theorem StI.leave {w wr w2 w3 : World} {nb g cap : Nat} {Q : Pla} {num ep : Int} {l : List Sea} {v v' : Value} {i : Nat} (h : StI w wr nb g cap Q num ep l v i) (hi : i < l.length) (hn : Q.has l[i].row l[i].col = false) (h0 : l[i].st ≠ 0) (hm : Mod No wr w2) (o : Obj)
  (ho : w3.ownsRow 0 63 6 v' (nHome Q l i + 1) ((homeless Q (l.take i)).flatMap seaL ++ seaL l[i])) (hg : (w2.alloc o).grownBy w3 v.ownBlock) (hs : Stays (w2.alloc o) v v') : StI w w3 nb g cap Q num ep l v' (i + 1) := by
 have e1 : stay Q (l.take (i + 1)) = stay Q (l.take i) := by
  rw [stay_take Q l i hi]
  unfold stayStep
  rw [if_neg (fun e => by have := e.2; rw [hn] at this; cases this)]
 have e2 : homeless Q (l.take (i + 1)) = homeless Q (l.take i) ++ [l[i]] := by
  rw [homeless_take Q l i hi, if_pos ⟨h0, by rw [hn]; simp⟩]
 have hM : Mod (fun k => w.heap.size ≤ k ∧ k ≠ nb ∧ k ≠ g) wr w3 := ((hm.mono (fun _ _ x => x.elim)).alloc o).grown hg (fun k hk => .inl (h.own k hk))
 have hlt := h.n.row.lt
 have hlt2 := h.n.has.lt
 have hsz := h.n.mod.size
 have hs2 := (hm.alloc o).size
 refine ⟨by rw [e1]; exact h.n.step hM (fun x => x.2.1 rfl) (fun x => x.2.2 rfl) (fun k x => x.1), ?_, fun k hk => ?_⟩
 ·unfold nHome at *
  rw [e2, List.length_append, List.flatMap_append]
  simpa using ho
 ·rcases hs k hk with e | e
  ·exact h.own k e
  ·omega
def loopsOf : Code → List Code
 | .loop c => .loop c :: loopsOf c
 | .seq a b => loopsOf a ++ loopsOf b
 | .block _ c => loopsOf c
 | .scope c => loopsOf c
 | .cond _ a b => loopsOf a ++ loopsOf b
 | _ => []
noncomputable def swapLoop (n : Nat) : Code := ((loopsOf (Tryz.f54.body.getD .skip))[n]?).getD .skip
theorem stay_walk {p Q : Pla} {l : List Sea} {w w0 : World} {gf fo g0 cap0 nb g cap : Nat} {num ep : Int} (hf : FlR w gf fo g0 cap0 p l) (hwf : Wf p l) (h1 : Q.sized = true) (h2 : Q.limited = true) (Q0 : Exit → Act → World → Prop)
  (hI : Hid (StI w w0 nb g cap Q num ep l (.slice none 0 0) 0)) (sl1 sl2 sl3 sl4 sl5 sl9 sl10 sl11 sl12 sl13 sl14 sl15 sl16 sl17 sl18 sl19 sl20 sl21 sl22 sl23 sl24 sl25 sl26 sl27 sl28 sl29 sl30 sl31 sl32 sl33 sl34 sl35 sl36 sl37 sl38 sl39 sl40 sl41 sl42 sl43 sl44 sl45 sl46 sl47 sl48 sl49 sl50 sl51 sl52 sl53 sl54 sl55 sl56 sl57 sl58 sl59 sl60 sl61 sl62 sl63 sl64 sl65 sl66 sl67 sl68 sl69 sl70 sl71 sl72 sl73 sl74 sl75 sl76 sl77 sl78 sl79 sl80 sl81 sl82 sl83 sl84 sl85 sl86 sl87 sl88 sl89 sl90 sl91 sl92 sl93 sl94 sl95 sl96 sl97 sl98 sl99 sl100 sl101 sl102 sl103 sl104 sl105 sl106 sl107 sl108 sl109 sl110 sl111 sl112 sl113 sl114 sl115 sl116 sl117 sl118 sl119 sl120 sl121 sl122 : Value)
  (hexit : ∀ (x8 x9 x10 x52 x53 x54 x55 x56 x57 x58 x59 x60 x61 x62 x63 x64 x65 x66 x67 x68 x69 x70 x71 x72 x73 x74 x75 x76 x77 x78 x79 x80 x81 x82 x83 x84 : Value) (a : Option Addr) (cp : Nat) (wx : World), Hid (StI w wx nb g cap Q num ep l (.slice a (nHome Q l l.length) cp) l.length) → Q0 (.exit 0) ⟨#[.pointer (some ⟨gf, fo, none⟩), sl1, sl2, sl3, sl4, sl5, .pointer (some ⟨nb, 0, none⟩), .slice a (nHome Q l l.length) cp, x8, x9, x10, sl11, sl12, sl13, sl14, sl15, sl16, sl17, sl18, sl19, sl20, sl21, sl22, sl23, sl24, sl25, sl26, sl27, sl28, sl29, sl30, sl31, sl32, sl33, sl34, sl35, sl36, sl37, sl38, sl39, sl40, sl41, sl42, sl43, sl44, sl45, sl46, sl47, sl48, sl49, sl50, sl51, x52, x53, x54, x55, x56, x57, x58, x59, x60, x61, x62, x63, x64, x65, x66, x67, x68, x69, x70, x71, x72, x73, x74, x75, x76, x77, x78, x79, x80, x81, x82, x83, x84, sl85, sl86, sl87, sl88, sl89, sl90, sl91, sl92, sl93, sl94, sl95, sl96, sl97, sl98, sl99, sl100, sl101, sl102, sl103, sl104, sl105, sl106, sl107, sl108, sl109, sl110, sl111, sl112, sl113, sl114, sl115, sl116, sl117, sl118, sl119, sl120, sl121, sl122], []⟩ wx) :
  Code.wp Tryz.prog (swapLoop 0) Q0 ⟨#[.pointer (some ⟨gf, fo, none⟩), sl1, sl2, sl3, sl4, sl5, .pointer (some ⟨nb, 0, none⟩), .slice none 0 0, .int .i64 0, sl9, sl10, sl11, sl12, sl13, sl14, sl15, sl16, sl17, sl18, sl19, sl20, sl21, sl22, sl23, sl24, sl25, sl26, sl27, sl28, sl29, sl30, sl31, sl32, sl33, sl34, sl35, sl36, sl37, sl38, sl39, sl40, sl41, sl42, sl43, sl44, sl45, sl46, sl47, sl48, sl49, sl50, sl51, sl52, sl53, sl54, sl55, sl56, sl57, sl58, sl59, sl60, sl61, sl62, sl63, sl64, sl65, sl66, sl67, sl68, sl69, sl70, sl71, sl72, sl73, sl74, sl75, sl76, sl77, sl78, sl79, sl80, sl81, sl82, sl83, sl84, sl85, sl86, sl87, sl88, sl89, sl90, sl91, sl92, sl93, sl94, sl95, sl96, sl97, sl98, sl99, sl100, sl101, sl102, sl103, sl104, sl105, sl106, sl107, sl108, sl109, sl110, sl111, sl112, sl113, sl114, sl115, sl116, sl117, sl118, sl119, sl120, sl121, sl122], []⟩ w0 := by
 conv => arg 4; dsimp only
 conv => arg 2; whnf
 have HF := hide hf
 have HWF := hide hwf
 have H1 := hide h1
 have H2 := hide h2
 have hl1 : l.length ≤ 120 := wf_len hwf
 obtain ⟨i114, q0, q1, q2, q3⟩ := info_parts info114
 clear hf hwf h1 h2
 go_loopw [7, 8] (fun s7 s8 wr => ∃ (i : Nat) (a : Option Addr) (cp : Nat), s8 = .int .i64 i ∧ i ≤ l.length ∧ s7 = .slice a (nHome Q l i) cp ∧ Hid (StI w wr nb g cap Q num ep l (.slice a (nHome Q l i) cp) i)) (fun _ s8 _ => l.length - (intOf s8).toNat)
 case atStart => exact ⟨0, none, 0, rfl, by omega, rfl, hI⟩
 case round =>
  obtain ⟨i, a, cp, rfl, hi, rfl, I1⟩ := hrel
  clear hI
  have ff := (unhide HF).mod (unhide I1).n.mod
  have fs := ff.slice
  by_cases hil : i < l.length
  ·have hii : (i : Int) < (l.length : Int) := by omega
   have h0i : (0 : Int) ≤ i := by omega
   have hi1 : IntKind.i64.wrap ((i : Int) + 1) = ((i + 1 : Nat) : Int) := by rw [wrap_id _ (by omega) (by omega)]; rfl
   have c0 := ff.row.row i hil
   have c1 := ff.row.col i hil
   have c2 := ff.row.st i hil
   have c3 := ff.row.pa i hil
   have c4 := ff.row.cl i hil
   have c5 := ff.row.un i hil
   obtain ⟨s, hs⟩ : ∃ s, l[i] = s := ⟨_, rfl⟩
   rw [hs] at c0 c1 c2 c3 c4 c5
   have M1 := hide ((Mod.refl No wr).alloc (.cells #[.int .i64 s.row, .int .i64 s.col, .int .i64 s.st, .int .i64 s.pa, .int .i64 s.cl, .int .i64 s.un] 63))
   have B1 := hide (Has.new wr #[.int .i64 s.row, .int .i64 s.col, .int .i64 s.st, .int .i64 s.pa, .int .i64 s.cl, .int .i64 s.un] 63)
   have HS := hide hs
   cases hh : Q.has s.row s.col with
   | true =>
    have HSEAT := hide fun W (hW : Mod No wr W) => rseat_has ((unhide I1).n.still hW).flR ((unhide I1).n.wf) s.row s.col hh
    obtain ⟨hj, _⟩ := stay_put (unhide HWF) (unhide H1) (unhide H2) i hil (by rw [hs]; exact hh)
    rw [hs] at hj
    have HLAY := hide fun W (hW : Mod No wr W) => ((unhide I1).still hW).lay (unhide HWF) (unhide H1) (unhide H2) hil (by rw [hs]; exact hh) s hs
    have HN := hide fun W (hW : Mod No wr W) => ((unhide I1).n.still hW)
    have hlen : (stay Q (l.take i)).length = nStay Q l i := rfl
    have hj2 : (Q.idx s.row s.col : Int) < (nStay Q l i : Nat) := by rw [← hlen]; omega
    have hle : nStay Q l i ≤ 120 := wf_len (unhide I1).n.wf
    have hj0 : (0 : Int) ≤ (Q.idx s.row s.col : Nat) := by omega
    generalize Q.idx s.row s.col = j at *
    have HJ := hide hj
    have HNH := hide (nHome_same (Q := Q) hil (by rw [hs, hh]; simp))
    clear hs hh hj hlen
    have HII := hide I1
    clear ff
    go_wp2_with fail
    refine ((unhide HSEAT) _ (unhide M1)).mono ?_
    rintro e w2 ⟨rfl, m2⟩
    have M2 := hide ((unhide M1).trans m2)
    have B2 := hide (m2.has (unhide B1) (fun x => x))
    clear c0 c1 c2 c3 c4 c5 fs m2
    generalize wr.heap.size = sb at *
    have b2 := (unhide B2).cell
    have lb2 := (unhide B2).lt
    have n2 := (unhide HN) w2 (unhide M2)
    have nc : w2.cell? ⟨nb, 8, none⟩ = some (.slice (some ⟨g, 0, none⟩) (nStay Q l i) cap) := n2.has.cell 8
    have nf := n2.row.froz
    have d0 := n2.row.row j (unhide HJ)
    have d1 := n2.row.col j (unhide HJ)
    have d2 := n2.row.st j (unhide HJ)
    have d3 := n2.row.pa j (unhide HJ)
    have d4 := n2.row.cl j (unhide HJ)
    have d5 := n2.row.un j (unhide HJ)
    generalize (stay Q (l.take i))[j]'(unhide HJ) = x at *
    have nl := n2.row.lt
    clear n2 HSEAT HN B1 M1
    have HLAY2 := hide ((unhide HLAY) w2 (unhide M2))
    clear HLAY M2
    go_wp2
    exact ⟨⟨i + 1, a, cp, rfl, by omega, by rw [unhide HNH], by rw [unhide HNH]; exact unhide HLAY2⟩, by simp [intOf]; omega⟩
   | false =>
    have HSEAT := hide fun W (hW : Mod No wr W) => rseat_no ((unhide I1).n.still hW).flR ((unhide I1).n.wf) s.row s.col hh
    clear ff
    by_cases h0 : s.st = 0
    ·have HNH := hide (nHome_same (Q := Q) hil (by rw [hs, h0]; simp))
     have HPASS := hide fun W (hW : Mod No wr W) => ((unhide I1).still hW).pass hil (by rw [hs]; exact hh) (by rw [hs]; exact h0)
     have hd : (s.st != 0) = false := by simp [h0]
     clear hs hh h0
     go_wp2_with fail
     refine ((unhide HSEAT) _ (unhide M1)).mono ?_
     rintro e w2 ⟨rfl, m2⟩
     have M2 := hide ((unhide M1).trans m2)
     have B2 := hide (m2.has (unhide B1) (fun x => x))
     clear c0 c1 c2 c3 c4 c5 fs m2
     generalize wr.heap.size = sb at *
     have b2 := (unhide B2).cell
     have P2 := hide ((unhide HPASS) _ (unhide M2))
     clear HSEAT HPASS B1 M1
     go_wp2
     exact ⟨⟨i + 1, a, cp, rfl, by omega, by rw [unhide HNH], by rw [unhide HNH]; exact unhide P2⟩, by simp [intOf]; omega⟩
    ·have HNH := hide (nHome_more (Q := Q) hil (by rw [hs, hh]; exact ⟨h0, by simp⟩))
     have hnl : nHome Q l i ≤ 120 := Nat.le_trans (nHome_le Q l i) hl1
     have HLEAVE := hide fun (w2 w3 : World) (v' : Value) (hm : Mod No wr w2) => (unhide I1).leave (w2 := w2) (w3 := w3) (v' := v') hil (by rw [hs]; exact hh) (by rw [hs]; exact h0) hm (.cells #[.int .i64 s.row, .int .i64 s.col, .int .i64 s.st, .int .i64 s.pa, .int .i64 s.cl, .int .i64 s.un] 63)
     rw [hs] at HLEAVE
     have hd : (s.st != 0) = true := by simp [h0]
     have HHOME := hide fun W (hW : Mod No wr W) => hW.owns (unhide I1).home (fun _ _ x => x)
     clear hs hh h0
     go_wp2_with fail
     refine ((unhide HSEAT) _ (unhide M1)).mono ?_
     rintro e w2 ⟨rfl, m2⟩
     have M2 := hide ((unhide M1).trans m2)
     have B2 := hide (m2.has (unhide B1) (fun x => x))
     clear c0 c1 c2 c3 c4 c5 fs m2
     generalize wr.heap.size = sb at *
     have b2 := (unhide B2).cell
     have HL2 := hide fun (w3 : World) (v' : Value) => (unhide HLEAVE) w2 w3 v' (unhide M2)
     have HO := hide ((unhide HHOME) _ ((unhide M2).alloc (.cells #[.int .i64 s.row, .int .i64 s.col, .int .i64 s.st, .int .i64 s.pa, .int .i64 s.cl, .int .i64 s.un] 63)))
     have HRD := hide (show Reads (w2.alloc (.cells #[.int .i64 s.row, .int .i64 s.col, .int .i64 s.st, .int .i64 s.pa, .int .i64 s.cl, .int .i64 s.un] 63)) (.slice (some ⟨w2.heap.size, 0, none⟩) 1 1) 1 (seaL s) from
      .inr ⟨⟨w2.heap.size, 0, none⟩, 1, rfl, fun j u hu => by
       rw [Addr.add_mid, Nat.zero_add, (Has.new w2 #[.int .i64 s.row, .int .i64 s.col, .int .i64 s.st, .int .i64 s.pa, .int .i64 s.cl, .int .i64 s.un] 63).cell, ← Array.getElem?_toList]
       exact hu⟩)
     clear HSEAT HLEAVE HHOME B1 M1
     go_wp2_with (at_builtin; refine wpList_append_row rfl (.tmp 81) (.tmp 83) 61 rfl 63 i114 _ 6 48 Tryz.underlying61 q0 q1 q2 q3 rfl (by decide) (.slice a (nHome Q l i) cp) (nHome Q l i) _ (by simp [Act.eval]) (by exact unhide HO) (.slice (some ⟨w2.heap.size, 0, none⟩) 1 1) 1 (seaL s) (by simp [Act.eval]) (by exact unhide HRD) rfl (by intro u hu; simp [seaL, seaV] at hu; rcases hu with rfl | rfl | rfl | rfl | rfl | rfl <;> rfl) (by unfold maxLen; omega) (by omega) ?_; intro v' w3 ho3 hg3 hs3; obtain ⟨a3, c3, rfl⟩ := slice_of_owns ho3; have L3 := hide ((unhide HL2) w3 _ ho3 hg3 hs3); clear ho3 hg3 hs3)
     exact ⟨⟨i + 1, a3, c3, rfl, by omega, by rw [unhide HNH], by rw [unhide HNH]; exact unhide L3⟩, by simp [intOf]; omega⟩
  ·have hii : ¬ (i : Int) < (l.length : Int) := by omega
   obtain rfl : i = l.length := by omega
   clear ff
   go_wp2
theorem rowS_some {w : World} {a : Option Addr} {cp : Nat} {l : List Sea} (h : w.ownsRow 0 63 6 (.slice a l.length cp) l.length (l.flatMap seaL)) (hp : 0 < l.length) : ∃ g, a = some ⟨g, 0, none⟩ ∧ RowS w g cp l := by
 obtain ⟨_, h1 | ⟨g, cap, cur, hv, _⟩⟩ := id h
 ·omega
 ·injection hv with e1 e2 e3
  subst e1 e3
  exact ⟨g, rfl, (rowS_of h).2⟩
structure ReN (w wr : World) (nb g cap : Nat) (Q : Pla) (num ep : Int) (acc0 hs : List Sea) (v : Value) (n : Nat) : Prop where
 fli : NewF w wr nb g cap Q num ep (accN acc0 hs n)
 re : Reseat Q (accN acc0 hs n) (hs.length - n)
 home : wr.ownsRow 0 63 6 v hs.length (hs.flatMap seaL)
 own : ∀ k, v.ownBlock = some k → w.heap.size ≤ k ∧ k ≠ nb ∧ k ≠ g
theorem ReN.still {w wr w2 : World} {nb g cap : Nat} {Q : Pla} {num ep : Int} {acc0 hs : List Sea} {v : Value} {n : Nat} (h : ReN w wr nb g cap Q num ep acc0 hs v n) (hm : Mod No wr w2) : ReN w w2 nb g cap Q num ep acc0 hs v n :=
 ⟨h.fli.still hm, h.re, hm.owns h.home (fun _ _ x => x), h.own⟩
theorem ReN.free {w wr : World} {nb g cap : Nat} {Q : Pla} {num ep : Int} {acc0 hs : List Sea} {v : Value} {n : Nat} (h : ReN w wr nb g cap Q num ep acc0 hs v n) (hn : n < hs.length) : firstFree (accN acc0 hs n) < (accN acc0 hs n).length :=
 firstFree_lt (n := hs.length - n - 1) (by rw [show hs.length - n - 1 + 1 = hs.length - n by omega]; exact h.re)
theorem ReN.next {w wr : World} {nb g cap : Nat} {Q : Pla} {num ep : Int} {acc0 hs : List Sea} {v : Value} {n : Nat} (h : ReN w wr nb g cap Q num ep acc0 hs v n) (hw : ∀ s ∈ hs, s.wf ∧ s.st ≠ 0) (hn : n < hs.length) (s : Sea) (hs0 : hs[n] = s) (k : Nat) (hk : firstFree (accN acc0 hs n) = k) (hkl : k < (accN acc0 hs n).length) (x : Sea) (hx : (accN acc0 hs n)[k] = x) :
  ReN w ((((((((wr.setCell ⟨g, k * 6, none⟩ (.int .i64 s.row)).setCell ⟨g, k * 6 + 1, none⟩ (.int .i64 s.col)).setCell ⟨g, k * 6 + 2, none⟩ (.int .i64 s.st)).setCell ⟨g, k * 6 + 3, none⟩ (.int .i64 s.pa)).setCell ⟨g, k * 6 + 4, none⟩ (.int .i64 s.cl)).setCell ⟨g, k * 6 + 5, none⟩ (.int .i64 s.un)).setCell ⟨g, k * 6, none⟩ (.int .i64 x.row)).setCell ⟨g, k * 6 + 1, none⟩ (.int .i64 x.col)) nb g cap Q num ep acc0 hs v (n + 1) := by
 subst hk hx hs0
 have hs' := hw _ (List.getElem_mem hn)
 have hre : Reseat Q (accN acc0 hs n) ((hs.length - (n + 1)) + 1) := by rw [show hs.length - (n + 1) + 1 = hs.length - n by omega]; exact h.re
 have hstep := Reseat.step hre hs'.1 hs'.2
 have e2 : accN acc0 hs (n + 1) = reseatStep (accN acc0 hs n) hs[n] := by
  unfold accN
  rw [fold_take hn]
 have e1 : accN acc0 hs (n + 1) = (accN acc0 hs n).set (firstFree (accN acc0 hs n)) (Sea.at hs[n] (accN acc0 hs n)[firstFree (accN acc0 hs n)]) := by
  rw [e2]
  unfold reseatStep
  rw [List.getD_eq_getElem?_getD, List.getElem?_eq_getElem hkl]
  rfl
 rw [← e2] at hstep
 have hfli := h.fli
 generalize hacc : accN acc0 hs n = acc at *
 have hr := (hfli.row.put6 (firstFree acc) hkl hs[n])
 have hr2 := (hr.put hkl 0 (by omega) (.int .i64 acc[firstFree acc].row) ⟨acc[firstFree acc].row, hs[n].col, hs[n].st, hs[n].pa, hs[n].cl, hs[n].un⟩ rfl).put hkl 1 (by omega) (.int .i64 acc[firstFree acc].col) (Sea.at hs[n] acc[firstFree acc]) rfl
 have hm := (((Mod.refl (fun k => k = g) wr).put6 rfl (firstFree acc) (.int .i64 hs[n].row) (.int .i64 hs[n].col) (.int .i64 hs[n].st) (.int .i64 hs[n].pa) (.int .i64 hs[n].cl) (.int .i64 hs[n].un)).setCell (p := ⟨g, firstFree acc * 6, none⟩) (.inl rfl) (.int .i64 acc[firstFree acc].row)).setCell (p := ⟨g, firstFree acc * 6 + 1, none⟩) (.inl rfl) (.int .i64 acc[firstFree acc].col)
 refine ⟨⟨?_, ?_, hstep.wf, hfli.ne, hfli.new, hfli.mod.trans' hm (fun k hk hl => by have := hfli.new.2; omega)⟩, hstep, hm.owns h.home (fun k hk e => (h.own k hk).2.2 e), h.own⟩
 ·have := hm.has hfli.has hfli.ne
  rw [e1, List.length_set]
  exact this
 ·rw [e1]
  exact hr2
theorem free_walk {w w0 : World} {nb g cap n : Nat} {Q : Pla} {num ep : Int} {acc0 hs : List Sea} {v : Value} (hn : n < hs.length) (Q0 : Exit → Act → World → Prop)
  (hI : Hid (ReN w w0 nb g cap Q num ep acc0 hs v n)) (sl0 sl1 sl2 sl3 sl4 sl5 sl7 sl8 sl9 sl10 sl11 sl13 sl14 sl15 sl16 sl17 sl18 sl19 sl20 sl21 sl22 sl23 sl24 sl25 sl26 sl27 sl28 sl29 sl30 sl31 sl32 sl33 sl34 sl35 sl36 sl37 sl38 sl39 sl40 sl41 sl42 sl43 sl44 sl45 sl46 sl47 sl48 sl49 sl50 sl51 sl52 sl53 sl54 sl55 sl56 sl57 sl58 sl59 sl60 sl61 sl62 sl63 sl64 sl65 sl66 sl67 sl68 sl69 sl70 sl71 sl72 sl73 sl74 sl75 sl76 sl77 sl78 sl79 sl80 sl81 sl82 sl83 sl84 sl85 sl86 sl87 sl88 sl89 sl90 sl91 sl92 sl93 sl94 sl95 sl96 sl97 sl98 sl99 sl100 sl101 sl102 sl103 sl104 sl105 sl106 sl107 sl108 sl109 sl110 sl111 sl112 sl113 sl114 sl115 sl116 sl117 sl118 sl119 sl120 sl121 sl122 : Value)
  (hexit : ∀ (x91 x92 x93 x94 x95 x96 x97 x98 x99 : Value), Q0 (.exit 4) ⟨#[sl0, sl1, sl2, sl3, sl4, sl5, .pointer (some ⟨nb, 0, none⟩), sl7, sl8, sl9, sl10, sl11, .int .i64 (firstFree (accN acc0 hs n) : Nat), sl13, sl14, sl15, sl16, sl17, sl18, sl19, sl20, sl21, sl22, sl23, sl24, sl25, sl26, sl27, sl28, sl29, sl30, sl31, sl32, sl33, sl34, sl35, sl36, sl37, sl38, sl39, sl40, sl41, sl42, sl43, sl44, sl45, sl46, sl47, sl48, sl49, sl50, sl51, sl52, sl53, sl54, sl55, sl56, sl57, sl58, sl59, sl60, sl61, sl62, sl63, sl64, sl65, sl66, sl67, sl68, sl69, sl70, sl71, sl72, sl73, sl74, sl75, sl76, sl77, sl78, sl79, sl80, sl81, sl82, sl83, sl84, sl85, sl86, sl87, sl88, sl89, sl90, x91, x92, x93, x94, x95, x96, x97, x98, x99, sl100, sl101, sl102, sl103, sl104, sl105, sl106, sl107, sl108, sl109, sl110, sl111, sl112, sl113, sl114, sl115, sl116, sl117, sl118, sl119, sl120, sl121, sl122], []⟩ w0) :
  Code.wp Tryz.prog (swapLoop 2) Q0 ⟨#[sl0, sl1, sl2, sl3, sl4, sl5, .pointer (some ⟨nb, 0, none⟩), sl7, sl8, sl9, sl10, sl11, .int .i64 0, sl13, sl14, sl15, sl16, sl17, sl18, sl19, sl20, sl21, sl22, sl23, sl24, sl25, sl26, sl27, sl28, sl29, sl30, sl31, sl32, sl33, sl34, sl35, sl36, sl37, sl38, sl39, sl40, sl41, sl42, sl43, sl44, sl45, sl46, sl47, sl48, sl49, sl50, sl51, sl52, sl53, sl54, sl55, sl56, sl57, sl58, sl59, sl60, sl61, sl62, sl63, sl64, sl65, sl66, sl67, sl68, sl69, sl70, sl71, sl72, sl73, sl74, sl75, sl76, sl77, sl78, sl79, sl80, sl81, sl82, sl83, sl84, sl85, sl86, sl87, sl88, sl89, sl90, sl91, sl92, sl93, sl94, sl95, sl96, sl97, sl98, sl99, sl100, sl101, sl102, sl103, sl104, sl105, sl106, sl107, sl108, sl109, sl110, sl111, sl112, sl113, sl114, sl115, sl116, sl117, sl118, sl119, sl120, sl121, sl122], []⟩ w0 := by
 conv => arg 4; dsimp only
 conv => arg 2; whnf
 have hff := (unhide hI).free hn
 have hwl : (accN acc0 hs n).length ≤ 120 := wf_len (unhide hI).fli.wf
 have HST := hide (show ∀ (k : Nat), k < (accN acc0 hs n).length → ∃ st : Int, w0.cell? ⟨g, k * 6 + 2, none⟩ = some (.int .i64 st) ∧ (k < firstFree (accN acc0 hs n) → st ≠ 0) ∧ (k = firstFree (accN acc0 hs n) → st = 0) from fun k hk =>
  ⟨_, (unhide hI).fli.row.st k hk, fun h => full_before h hk, fun h => by subst h; exact firstFree_at hff⟩)
 have hs8 : w0.cell? ⟨nb, 8, none⟩ = some (.slice (some ⟨g, 0, none⟩) (accN acc0 hs n).length cap) := (unhide hI).fli.has.cell 8
 generalize firstFree (accN acc0 hs n) = F at *
 generalize (accN acc0 hs n).length = N at *
 go_loopw [12] (fun s12 wr => ∃ k : Nat, s12 = .int .i64 k ∧ k ≤ F ∧ wr = w0) (fun s12 _ => N - (intOf s12).toNat)
 case atStart => exact ⟨0, rfl, by omega, rfl⟩
 case round =>
  obtain ⟨k, rfl, hk, rfl⟩ := hrel
  have hkN : k < N := by omega
  have hki : (k : Int) < (N : Int) := by omega
  have hk0 : (0 : Int) ≤ k := by omega
  have hk1 : IntKind.i64.wrap ((k : Int) + 1) = ((k + 1 : Nat) : Int) := by rw [wrap_id _ (by omega) (by omega)]; rfl
  obtain ⟨st, c2, c3, c4⟩ := (unhide HST) k hkN
  by_cases hkF : k < F
  ·have hd : (st != 0) = true := by simpa using c3 hkF
   clear c3 c4
   go_wp2
   exact ⟨⟨k + 1, rfl, by omega, by trivial⟩, by simp [intOf]; omega⟩
  ·obtain rfl : k = F := by omega
   have hd : (st != 0) = false := by simpa using c4 rfl
   clear c3 c4
   go_wp2
   apply hexit
end Go.Proofs.YthhibagcpjeihaaGreat
