import Derived.Test.YthhibagcpjeihaaGreatIRef36ToLaw5
import Derived.Test.YthhibagcpjeihaaGreatIBaseToMaps
import Derived.Deep.MidRow
import Derived.Deep.Slices
import Derived.OpenShut
import Derived.SizedLaws
namespace Go.Proofs.YthhibagcpjeihaaGreat
open Go.RowKit
open M
set_option linter.unusedVariables false
set_option linter.unusedSimpArgs false
set_option maxRecDepth 100000
set_option maxHeartbeats 4000000
def saveI (I : OneI) (c : Cmd) : Int × KS := saveK I.K (wholeK I.now I.fl) (recB I.now [entOf I.now c])
theorem saveK_shut {K : KS} {a b : List Int} (h : K.live = false) : saveK K a b = (17, K) := by
 unfold saveK replaceK layK
 simp [h]
theorem saveK_tb (K : KS) (a b : List Int) : (saveK K a b).2.tb = K.tb := by
 unfold saveK replaceK layK
 simp only
 repeat' split
 all_goals rfl
theorem layK_err {K : KS} {b : List Int} (h : K.live = true) : (layK K b).1 = 0 ∨ (layK K b).1 = 15 ∨ (layK K b).1 = 16 := by
 unfold layK layP
 rw [if_neg (by simp [h])]
 simp only
 repeat' split
 all_goals simp
theorem replaceK_err {K : KS} {a : List Int} (h : K.live = true) : ((replaceK K a).1 = 0 ∧ (replaceK K a).2.live = true) ∨ (replaceK K a).1 = 15 ∨ (replaceK K a).1 = 16 := by
 unfold replaceK
 rw [if_neg (by simp [h])]
 simp only
 repeat' split
 all_goals simp [h]
theorem saveK_err {K : KS} {a b : List Int} (h : K.live = true) : (saveK K a b).1 = 0 ∨ (saveK K a b).1 = 15 ∨ (saveK K a b).1 = 16 := by
 unfold saveK
 by_cases ht : K.torn = true
 ·rw [if_pos ht]
  rcases replaceK_err (a := a) h with ⟨h1, h2⟩ | h1 | h1
  ·rw [if_pos h1]
   exact layK_err h2
  ·rw [if_neg (by omega)]; exact .inr (.inl h1)
  ·rw [if_neg (by omega)]; exact .inr (.inr h1)
 ·rw [if_neg ht]
  exact layK_err h
def DoneR (I : OneI) (c : Cmd) (I' : OneI) : Prop :=
 ((doK I.now I.fl c).1 ≠ 0 ∧ ∃ okp, I' = { I with okp := okp }) ∨
 ((doK I.now I.fl c).1 = 0 ∧ I.sh = true ∧ ∃ okp, I' = { I with okp := okp }) ∨
 ((doK I.now I.fl c).1 = 0 ∧ I.sh = false ∧ (saveI I c).1 = 0 ∧ ∃ okp Wn, Wn.now = (doK I.now I.fl c).2.1 ∧ Wn.fl = (doK I.now I.fl c).2.2 ∧
  I' = { I with okp := okp, W := Wn, now := (doK I.now I.fl c).2.1, fl := (doK I.now I.fl c).2.2, K := (saveI I c).2, ch := I.ch + 1, most := max I.most (weightOf Wn.xs) }) ∨
 ((doK I.now I.fl c).1 = 0 ∧ I.sh = false ∧ (saveI I c).1 = 15 ∧ ∃ okp, I' = { I with okp := okp, K := (saveI I c).2 }) ∨
 ((doK I.now I.fl c).1 = 0 ∧ I.sh = false ∧ (saveI I c).1 = 16 ∧ ∃ okp Wn, Wn.now = (doK I.now I.fl c).2.1 ∧ Wn.fl = (doK I.now I.fl c).2.2 ∧
  I' = { I with okp := okp, K := (saveI I c).2, sh := true, mb := some Wn, ch := I.ch + 1 })
theorem dead_any {w : World} {S : Nat → Prop} {ob tb : Nat} {T : TP} {cs : Array Value} (hh : Has w ob cs 55) (h0 : cs[0]? = some (.pointer (some ⟨tb, 0, none⟩))) (ht : TapeH w S tb T) (hf : T.fuse = 0) :
  Calls Tryz.prog 22 #[.pointer (some ⟨ob, 0, none⟩)] w fun e w' => e = .returned (.bool true) ∧ TapeH w' S tb T ∧ Mod (· = tb) w w' := by
 have HS := sync_t ht 3 (by omega)
 have hs : syncP T 3 = (false, T) := by unfold syncP; rw [if_pos hf]
 rw [hs] at HS
 have HS := hide HS
 have c0 := hh.cell 0
 rw [h0] at c0
 have ol := hh.lt
 clear hh ht h0 hf
 go_enter Tryz.func22, Tryz.ntmps22
 go_wp2_with fail
 refine (unhide HS).mono ?_
 rintro e w1 ⟨rfl, h1, m1⟩
 have H1 := hide h1
 have M1 := hide m1
 clear h1 m1 HS
 go_wp2
 go_ret
 exact ⟨rfl, unhide H1, unhide M1⟩
structure DoneI (w wx : World) (O : Nat → Prop) (ob b0 : Nat) (I1 : OneI) (cs : Array Value) : Prop where
 one : OneX wx (grow O w wx) ob I1
 mod : Mod O w wx
 box : Has wx b0 cs 41
 b0 : I1.okp b0 = 0 ∧ w.heap.size ≤ b0
theorem DoneI.still {w wx wy : World} {O : Nat → Prop} {ob b0 : Nat} {I1 : OneI} {cs : Array Value} (h : DoneI w wx O ob b0 I1 cs) (hm : Mod No wx wy) : DoneI w wy O ob b0 I1 cs :=
 ⟨(h.one.mod hm (fun _ _ x => x)).owns' (fun k hk => hk.imp id (fun q => ⟨q.1, Nat.lt_of_lt_of_le q.2 hm.size⟩)) (fun k hk => by
  rcases hk with hk | hk
  ·exact Nat.lt_of_lt_of_le (h.one.lt k (.inl hk)) hm.size
  ·exact hk.2), h.mod.trans (hm.mono (fun _ _ x => x.elim)), hm.has h.box (fun x => x), h.b0⟩
theorem OneX.taped {w w' : World} {O : Nat → Prop} {ob : Nat} {I : OneI} {T' : TP} (h : OneX w O ob I) (ht : TapeH w' (fun k => I.okp k = 30) I.K.tb T') (hm : Mod (fun k => I.okp k = 30) w w') : OneX w' O ob { I with K := { I.K with T := T' } } := by
 obtain ⟨cls, c1, c2, c3, c4, c5, c6, c7⟩ := h.ex
 have g : ∀ k n, cls k = n → n ≠ 2 → ¬ I.okp k = 30 := fun k n e h0 h1 => by have := c2 k (by omega); omega
 refine ⟨hm.has h.has (g ob _ c1 (by omega)), ⟨fun b hb => ?_, fun hn => ?_⟩, h.wor.mod hm (fun k hk => g k _ (c3 k hk) (by omega)), fun M hM => (h.may M hM).mod hm (fun k hk => g k _ (c6 M hM k hk) (by omega)), h.told.mod hm (fun k hk => g k _ (c4 k hk) (by omega)), ⟨cls, c1, c2, c3, c4, c5, c6, c7⟩, fun k hk => Nat.lt_of_lt_of_le (h.lt k hk) hm.size⟩
 ·obtain ⟨⟨pt, h1⟩, h2⟩ := h.keep.some b hb
  have hkb : ¬ I.okp b = 30 := by rw [h1.keep.mine]; omega
  refine ⟨⟨pt, ⟨⟨hm.has h1.keep.has hkb, h1.keep.mine, fun k hk => Nat.lt_of_lt_of_le (h1.keep.old k hk) hm.size, h1.keep.gone, fun n p l hn hf => ?_⟩, h1.ptr, h1.file, h1.torn, ht⟩⟩, ?_⟩
  ·obtain ⟨b', e1, e2, e3⟩ := h1.keep.here n p l hn hf
   exact ⟨b', e1, e2, e3.mod hm (fun k hk q => by omega)⟩
  ·have hc : ∀ o v, w.cell? ⟨b, o, none⟩ = some v → w'.cell? ⟨b, o, none⟩ = some v := fun o v hc => by
    have hlt := World.block_lt_of_cell? w _ hc
    rw [World.cell?_of_block (w := w) (hm.block _ hlt hkb)]
    exact hc
   exact ⟨fun i hi ht => hc _ _ (h2.un i hi ht), fun i hi es ht => by
    obtain ⟨m, clock, a1, a2, a3, a4⟩ := h2.is i hi es ht
    exact ⟨m, clock, hc _ _ a1, a2, mod_fol hm a3 (g m _ (c5 m (by omega)) (by omega)), a4⟩, fun k hk => ⟨Nat.lt_of_lt_of_le (h2.old k hk).1 hm.size, (h2.old k hk).2⟩⟩
 ·exact ⟨ht, fun k hk => Nat.lt_of_lt_of_le ((h.keep.none hn).2 k hk) hm.size⟩
theorem oneV_kept (I : OneI) (okp : Nat → Nat) (now : Int) (fl : Nat → Option (Pla × List Sea)) (K : KS) (h : K.tb = I.K.tb) : oneV { I with okp := okp, now := now, fl := fl, K := K } = oneV I := by
 unfold oneV; simp only [h]
theorem doT_tb (I : OneI) (c : Cmd) : (doT I.now I.fl I.K c).2.2.2.tb = I.K.tb := by
 unfold doT
 repeat' split
 all_goals first | rfl | exact saveK_tb _ _ _
theorem doT_cases (I : OneI) (c : Cmd) {x nw dz now' : Int} {fx fl' : Nat → Option (Pla × List Sea)} {Kx : KS} (h1 : doT I.now I.fl I.K c = (x, nw, fx, Kx)) (h2 : doK I.now I.fl c = (dz, now', fl')) :
  (dz ≠ 0 → x = dz ∧ nw = I.now ∧ fx = I.fl ∧ Kx = I.K) ∧ (dz = 0 → (saveI I c).1 = x ∧ (saveI I c).2 = Kx ∧ (x = 0 → nw = now' ∧ fx = fl') ∧ (x ≠ 0 → nw = I.now ∧ fx = I.fl)) := by
 unfold doT at h1
 rw [h2] at h1
 unfold saveI
 by_cases hz : dz = 0
 ·refine ⟨fun e => absurd hz e, fun _ => ?_⟩
  rw [if_neg (by simpa using hz)] at h1
  by_cases hs : (saveK I.K (wholeK I.now I.fl) (recB I.now [entOf I.now c])).1 = 0
  ·rw [if_pos hs] at h1
   simp only [Prod.mk.injEq] at h1
   obtain ⟨h3, h4, h5, h6⟩ := h1
   exact ⟨by rw [hs, h3], h6, fun _ => ⟨h4.symm, h5.symm⟩, fun e => absurd h3.symm e⟩
  ·rw [if_neg hs] at h1
   simp only [Prod.mk.injEq] at h1
   obtain ⟨h3, h4, h5, h6⟩ := h1
   exact ⟨h3, h6, fun e => absurd (h3.trans e) hs, fun _ => ⟨h4.symm, h5.symm⟩⟩
 ·refine ⟨fun _ => ?_, fun e => absurd e hz⟩
  rw [if_pos hz] at h1
  simp only [Prod.mk.injEq] at h1
  obtain ⟨h3, h4, h5, h6⟩ := h1
  exact ⟨h3.symm, h4.symm, h5.symm, h6.symm⟩
theorem done_any {w : World} {O : Nat → Prop} {ob kb : Nat} {I : OneI} (h : OneX w O ob I) (hkb : I.kb = some kb) (c : Cmd) (ht : -9223372036854775808 ≤ c.time ∧ c.time ≤ 9223372036854775807) (hn : 0 ≤ I.now ∧ I.now ≤ 4611686018427387000) (hmo : 0 ≤ I.most ∧ I.most ≤ 1000000) (hch : 0 ≤ I.ch ∧ I.ch ≤ 1099511627776)
  (hsh : I.sh = !I.K.live) (hW : I.W.now = I.now ∧ I.W.fl = I.fl)
  (HDO : ∀ W pt, KeepT W I.okp kb I.now pt I.fl I.K → Calls Tryz.prog 25 #[.pointer (some ⟨kb, 0, none⟩), .agg (cmdCells c)] W fun e w' => e = .returned (.int .i64 (doT I.now I.fl I.K c).1) ∧ DoneT W w' I.okp kb pt (doT I.now I.fl I.K c).2.1 (doT I.now I.fl I.K c).2.2.1 (doT I.now I.fl I.K c).2.2.2)
  (P1 : (doK I.now I.fl c).1 = 0 → (saveI I c).1 = 15 → ¬ (2 * I.most + 60 * (I.ch + 1) + 180 ≤ (saveI I c).2.T.room)) (P2 : (doK I.now I.fl c).1 = 0 → (saveI I c).1 = 16 → (saveI I c).2.T.fuse = 0) :
  Calls Tryz.prog 15 #[.pointer (some ⟨ob, 0, none⟩), .agg (cmdCells c)] w fun e w' => e = .returned (.bool true) ∧ OneD w w' O ob (DoneR I c) := by
 obtain ⟨⟨er, nowR, flR, KR⟩, hR⟩ : ∃ R, doT I.now I.fl I.K c = R := ⟨_, rfl⟩
 obtain ⟨⟨dz, now', fl'⟩, hD⟩ : ∃ D, doK I.now I.fl c = D := ⟨_, rfl⟩
 have HF2 := hide (doT_cases I c hR hD)
 have htb : KR.tb = I.K.tb := by
  have h0 := doT_tb I c
  rw [hR] at h0
  exact h0
 have HW := hide fun (W : World) (ow : Nat → Nat) (wb : Nat) (v : Value) (xs : List FR) (hw : WorR W ow wb v xs I.now) (hs : Same xs I.fl) (hv : xs = [] → v = .slice none 0 0) => (show Calls Tryz.prog 27 #[.pointer (some ⟨wb, 0, none⟩), .agg (cmdCells c)] W fun e w' => e = .returned (.int .i64 dz) ∧ WDone W w' ow wb now' fl' from by
  have := wdo_all hw hs c ht hn hv
  rw [hD] at this
  exact this)
 have HDD := hide hD
 simp only [hR] at HDO
 clear hR hD
 have M0 := hide ((Mod.refl No w).alloc (.cells (cmdCells c) 41))
 have B0 := hide (Has.new w (cmdCells c) 41)
 have H0 := hide (h.mod (unhide M0) (fun _ _ x => x))
 obtain ⟨⟨pt, hkt⟩, _⟩ := (unhide H0).keep.some kb hkb
 have HKT := hide hkt
 have HD := hide (HDO _ pt (hkt.mod0 ((Mod.refl No _).drew)))
 have HDI := hide fun wx (hd : DoneT (w.alloc (.cells (cmdCells c) 41)).drew wx I.okp kb pt nowR flR KR) => (show ∃ okp, DoneI w wx O ob w.heap.size { I with okp := okp, now := nowR, fl := flR, K := KR } (cmdCells c) from by
  obtain ⟨okp, q1, q2, q3, q4⟩ := h.kept hkb (unhide M0).drew ((unhide HKT).mod0 ((Mod.refl No _).drew)) hd htb
  have hz : w.heap.size < (w.alloc (.cells (cmdCells c) 41)).drew.heap.size := (unhide B0).lt
  refine ⟨okp, q1, q2, q4.has (unhide B0).drew (fun e => ?_), q3 _ (Nat.le_refl _) hz, Nat.le_refl _⟩
  obtain ⟨cls, c1, c2, _, _, _, _, c7⟩ := h.ex
  have := h.lt _ (c7 _ (by rw [c2 _ e]; omega))
  omega)
 have HOV := hide fun okp now fl (K : KS) (e : K.tb = I.K.tb) => oneV_kept I okp now fl K e
 have HSV := hide (show I.sh = true → (saveI I c).1 = 17 ∧ (saveI I c).2 = I.K from fun e => by
  rw [hsh] at e
  have : I.K.live = false := by simpa using e
  unfold saveI
  rw [saveK_shut this]
  exact ⟨rfl, rfl⟩)
 have HSE := hide (show I.sh = false → (saveI I c).1 = 0 ∨ (saveI I c).1 = 15 ∨ (saveI I c).1 = 16 from fun e => by
  rw [hsh] at e
  exact saveK_err (by simpa using e))
 have HTB := hide htb
 have HP1 := hide P1
 have HP2 := hide P2
 have H := hide h
 have HWW := hide hW
 clear h ht hn hkt HDO P1 P2 htb hsh hW
 unfold cmdCells at *
 go_enter Tryz.func15, Tryz.ntmps15
 go_upto_region 1 with fail
 generalize hw1 : w.alloc (.cells #[.int .i64 c.kind, .int .i64 c.flight, .int .i64 c.ar, .int .i64 c.ac, .int .i64 c.tr, .int .i64 c.tc, .int .i64 c.party, .int .i64 c.cls, .int .i64 c.time, .int .i64 c.pla.rows, .int .i64 c.pla.cols, .int .i64 c.pla.front, .int .i64 c.pla.l0, .int .i64 c.pla.l1, .int .i64 c.pla.l2, .int .i64 c.pla.l3] 41) = w1 at *
 have c1 : w1.cell? ⟨ob, 1, none⟩ = some (.pointer (some ⟨kb, 0, none⟩)) := by
  have := (unhide H0).has.cell 1
  rw [show (oneV I)[1]? = some (ptrOf I.kb) from rfl, hkb] at this
  exact this
 have l1 := (unhide H0).has.lt
 have b1 := (unhide B0).cell
 have bl1 := (unhide B0).lt
 generalize hb0 : w.heap.size = b0 at *
 have HB0 := hide hb0
 clear hw1 hb0
 go_cut [5] (fun s wx => s = .int .i64 er ∧ Hid (∃ okp, DoneI w wx O ob b0 { I with okp := okp, now := nowR, fl := flR, K := KR } #[.int .i64 c.kind, .int .i64 c.flight, .int .i64 c.ar, .int .i64 c.ac, .int .i64 c.tr, .int .i64 c.tc, .int .i64 c.party, .int .i64 c.cls, .int .i64 c.time, .int .i64 c.pla.rows, .int .i64 c.pla.cols, .int .i64 c.pla.front, .int .i64 c.pla.l0, .int .i64 c.pla.l1, .int .i64 c.pla.l2, .int .i64 c.pla.l3]))
 case first =>
  go_region_law (refine step_call rfl 25 _ _ rfl #[.pointer (some ⟨kb, 0, none⟩), .agg #[.int .i64 c.kind, .int .i64 c.flight, .int .i64 c.ar, .int .i64 c.ac, .int .i64 c.tr, .int .i64 c.tc, .int .i64 c.party, .int .i64 c.cls, .int .i64 c.time, .int .i64 c.pla.rows, .int .i64 c.pla.cols, .int .i64 c.pla.front, .int .i64 c.pla.l0, .int .i64 c.pla.l1, .int .i64 c.pla.l2, .int .i64 c.pla.l3]] (by simp [Act.eval, Act.put]) (fun W => by kernel_rfl) (.int .i64 er) _ (unhide HD) ?_; intro w5 hk5)
  all_goals go_wp2
  all_goals go_meet
  all_goals exact ⟨rfl, (unhide HDI) _ hk5⟩
 case rest =>
  obtain ⟨rfl, hI⟩ := hcut
  obtain ⟨okp, hI⟩ := unhide hI
  have I5 := hide hI
  have HWC := hide (show w.heap.size ≤ wc.heap.size from hI.mod.size)
  apply_assumption
  clear HD HDI H0 B0 M0 c1 l1 b1 bl1 hI HKT
  have hh5 := (unhide I5).one.has
  rw [(unhide HOV) okp nowR flR KR (unhide HTB)] at hh5
  have c2 : wc.cell? ⟨ob, 2, none⟩ = some (.pointer (some ⟨I.W.wb, 0, none⟩)) := hh5.cell 2
  have l2 := hh5.lt
  have HC := hide (wcopy_all (unhide I5).one.wor.wor (unhide I5).one.wor.tidy)
  clear hh5
  go_wp2_with fail
  refine (unhide HC).mono ?_
  rintro e w6 ⟨rfl, v6, ys6, ow6, hC, hv6⟩
  have I6 := hide ((unhide I5).still hC.mod)
  have HW6 := hide ((unhide HW) _ _ _ _ _ (by have := hC.wor; rw [(unhide HWW).1] at this; exact this) (by have := (unhide I5).one.wor.same.congr hC.len hC.same; rw [(unhide HWW).2] at this; exact this) hv6)
  have HNEW := hide hC.new
  have M56 := hide hC.mod
  have b6 := (unhide I6).box.cell
  have bl6 := (unhide I6).box.lt
  clear HC hC hv6 c2 l2 HW
  generalize hcb : wc.heap.size = cb at *
  have HCB := hide hcb
  clear hcb
  go_wp2_with fail
  refine (unhide HW6).mono ?_
  rintro e w7 ⟨rfl, hwd⟩
  obtain ⟨⟨v7, ys7, ow7, hw7, hs7, hn7, hv7⟩, hm7⟩ := hwd
  have M57 : Mod No wc w7 := (unhide M56).trans' hm7 (fun k hk hl => by
   have := (unhide HNEW) k hk
   have := unhide HCB
   omega)
  have ONE7 := hide ((unhide I5).one.mod M57 (fun _ _ x => x))
  have MO7 := hide ((unhide I5).mod.trans (M57.mono (fun _ _ x => x.elim)))
  have HLO := hide (show ∀ k, ow7 k ≠ 0 → cb ≤ k from fun k hk => by
   rcases hn7 k hk with e | e
   ·have := (unhide HNEW) k e
    have := unhide HCB
    omega
   ·have := (unhide M56).size
    have := unhide HCB
    omega)
  have W7 := hide (show WX w7 ⟨cb, ow7, v7, ys7, now', fl'⟩ from ⟨hw7, hs7, hv7⟩)
  have hh7 := (unhide ONE7).has
  rw [(unhide HOV) okp nowR flR KR (unhide HTB)] at hh7
  have HH7 := hide hh7
  obtain ⟨⟨ptR, hkR⟩, _⟩ := (unhide ONE7).keep.some kb hkb
  have hrm := hkR.tape.room
  obtain ⟨cs8, hr1, hr2⟩ := hrm
  rw [unhide HTB] at hr1
  have HR := hide fun n => room_any I.K.tb KR.T.room (w7.drewN n) cs8 (hr1.drewN n) hr2
  have HFI := hide fun n => rfits_any I.most I.ch KR.T.room hmo hch (w7.drewN n)
  have t0 : w7.cell? ⟨ob, 0, none⟩ = some (.pointer (some ⟨I.K.tb, 0, none⟩)) := hh7.cell 0
  have t5 : w7.cell? ⟨ob, 5, none⟩ = some (.int .i64 I.most) := hh7.cell 5
  have t6 : w7.cell? ⟨ob, 6, none⟩ = some (.int .i64 I.ch) := hh7.cell 6
  have t7 : w7.cell? ⟨ob, 7, none⟩ = some (.bool I.sh) := hh7.cell 7
  have tl := hh7.lt
  have HSZ5 := hide M57.size
  clear hm7 hw7 hs7 hn7 hv7 M57 I6 HW6 HNEW M56 b6 bl6 I5 hh7 hkR hr1 hr2
  go_upto_region 4 with fail
  go_cut [8] (fun s wx => s = .bool (decide (2 * I.most + 60 * (I.ch + 1) + 180 ≤ KR.T.room)) ∧ ∃ n, wx = w7.drewN n)
  case first =>
   go_quiet (first | (go_at_call 28; exact Calls.quiet_of_same ((unhide HR) _)) | (go_at_call 21; exact Calls.quiet_of_same ((unhide HFI) _)))
   go_wp2
   go_meet
   exact ⟨rfl, _, rfl⟩
  case rest =>
   obtain ⟨rfl, n8, rfl⟩ := hcut
   apply_assumption
   clear HR HFI
   have ONE8 := hide ((unhide ONE7).mod ((Mod.refl No w7).drewN n8) (fun _ _ x => x))
   have MO8 := hide ((unhide MO7).drewN n8)
   have W8 := hide ((unhide W7).mod ((Mod.refl No w7).drewN n8) (fun _ _ x => x))
   have HH8 := hide ((unhide HH7).drewN n8)
   have HSZ8 := hide (show wc.heap.size ≤ (w7.drewN n8).heap.size from unhide HSZ5)
   clear t0 t5 t6 t7 tl ONE7 MO7 W7 HH7 HSZ5
   generalize w7.drewN n8 = w8 at *
   obtain ⟨fA, fB⟩ := unhide HF2
   by_cases hz : dz = 0
   case neg =>
    obtain ⟨rfl, rfl, rfl, rfl⟩ := fA hz
    have hne : (er != 0) = true := by simpa using hz
    have FIN := hide (show OneD w w8 O ob (DoneR I c) from ⟨⟨_, (unhide ONE8).owns' (fun k hk => hk.imp id (fun q => ⟨q.1, by have := unhide HSZ8; omega⟩)) (fun k hk => by
     rcases hk with hk | hk
     ·exact Nat.lt_of_lt_of_le ((unhide H).lt k hk) (unhide MO8).size
     ·exact hk.2), .inl ⟨by rw [unhide HDD]; exact hz, okp, rfl⟩⟩, unhide MO8⟩)
    clear fA fB HF2 HDD HWW HSV HSE HP1 HP2 HLO HCB ONE8 MO8 W8 HH8
    go_wp2
    go_ret
    exact ⟨rfl, unhide FIN⟩
   subst hz
   obtain ⟨s1, s2, s3, s4⟩ := fB rfl
   have HK0 := hide (show (doK I.now I.fl c).1 = 0 by rw [unhide HDD])
   have HS1 := hide s1
   have HS2 := hide s2
   have HS3 := hide s3
   have HS4 := hide s4
   clear fA fB s1 s2 s3 s4 HF2
   have HGR := hide (show ∀ k, grow O w wc k → grow O w w8 k from fun k hk => hk.imp id (fun q => ⟨q.1, by have := unhide HSZ8; omega⟩))
   have HGL := hide (show ∀ k, grow O w w8 k → k < w8.heap.size from fun k hk => by
    rcases hk with hk | hk
    ·exact Nat.lt_of_lt_of_le ((unhide H).lt k hk) (unhide MO8).size
    ·exact hk.2)
   have u7 : w8.cell? ⟨ob, 7, none⟩ = some (.bool I.sh) := (unhide HH8).cell 7
   have ul := (unhide HH8).lt
   have uf := (unhide HH8).frozen
   cases hsh : I.sh with
   | true =>
    obtain ⟨e1, e2⟩ := (unhide HSV) hsh
    rw [unhide HS1] at e1
    subst e1
    rw [unhide HS2] at e2
    obtain ⟨e3, e4⟩ := (unhide HS4) (by omega)
    subst e2 e3 e4
    have FIN := hide (show OneD w w8 O ob (DoneR I c) from ⟨⟨_, (unhide ONE8).owns' (unhide HGR) (unhide HGL), .inr (.inl ⟨unhide HK0, hsh, okp, rfl⟩)⟩, unhide MO8⟩)
    rw [hsh] at u7
    clear HDD HWW HSV HSE HP1 HP2 HLO HCB ONE8 MO8 W8 HH8 hsh
    go_wp2
    go_ret
    exact ⟨rfl, unhide FIN⟩
   | false =>
    rw [hsh] at u7
    have HSH := hide hsh
    have hcas := (unhide HSE) hsh
    rw [unhide HS1] at hcas
    clear HSV HSE hsh
    rcases hcas with e | e | e
    ·subst e
     obtain ⟨e3, e4⟩ := (unhide HS3) rfl
     subst e3 e4
     have u2 : w8.cell? ⟨ob, 2, none⟩ = some (.pointer (some ⟨I.W.wb, 0, none⟩)) := (unhide HH8).cell 2
     have u6 : w8.cell? ⟨ob, 6, none⟩ = some (.int .i64 I.ch) := (unhide HH8).cell 6
     have hw1 : IntKind.i64.wrap (I.ch + 1) = I.ch + 1 := wrap_fit _ (by omega) (by omega)
     have m9 : Mod (fun k => k = ob) w8 ((w8.setCell ⟨ob, 2, none⟩ (.pointer (some ⟨cb, 0, none⟩))).setCell ⟨ob, 6, none⟩ (.int .i64 (I.ch + 1))) := ((Mod.refl _ w8).at 2 _).at 6 _
     have hv9 : ((oneV I).setIfInBounds 2 (.pointer (some ⟨cb, 0, none⟩))).setIfInBounds 6 (.int .i64 (I.ch + 1)) = oneV { I with okp := okp, W := ⟨cb, ow7, v7, ys7, nowR, flR⟩, now := nowR, fl := flR, K := KR, ch := I.ch + 1 } := by
      unfold oneV
      rw [← unhide HTB]
      rfl
     have h9 := ((unhide HH8).set 2 (.pointer (some ⟨cb, 0, none⟩))).set 6 (.int .i64 (I.ch + 1))
     rw [hv9] at h9
     have NOB := hide (show ∀ k, ow7 k ≠ 0 → ¬ grow O w wc k from fun k hk hg => by
      have h1 := (unhide HLO) k hk
      have h2 := unhide HCB
      have := (unhide ONE8).ex
      obtain ⟨cls, c1, _, _, _, _, _, c7⟩ := this
      rcases hg with hg | hg
      ·have := (unhide H).lt k hg
       have := (unhide MO8).size
       have h3 := unhide HB0
       have h4 := unhide HWC
       omega
      ·omega)
     have HWE := hide (weigh_any (I := { I with okp := okp, W := ⟨cb, ow7, v7, ys7, nowR, flR⟩, now := nowR, fl := flR, K := KR, ch := I.ch + 1 }) h9 ((unhide W8).mod m9 (fun k hk e => by
      obtain ⟨cls, c1, _, _, _, _, _, c7⟩ := (unhide ONE8).ex
      exact (unhide NOB) k hk (by rw [e]; exact c7 ob (by omega)))) (weightOf ys7) rfl)
     have M9 := hide m9
     clear m9 h9 hv9
     go_wp2_with fail
     refine (unhide HWE).mono ?_
     rintro e w10 ⟨rfl, hh10, hm10⟩
     have mm := (unhide M9).trans hm10
     have one10 := (unhide ONE8).turn (I' := { I with okp := okp, W := ⟨cb, ow7, v7, ys7, nowR, flR⟩, now := nowR, fl := flR, K := KR, ch := I.ch + 1, most := max I.most (weightOf ys7) }) (unhide W8) (unhide NOB) mm hh10 ⟨rfl, rfl, rfl, rfl, rfl, rfl, rfl⟩ ⟨rfl, rfl, rfl, rfl, rfl⟩ (.inl ⟨rfl, rfl⟩)
     have sz10 := mm.size
     have FIN := hide (show OneD w w10 O ob (DoneR I c) from ⟨⟨_, one10.owns' (fun k hk => by
      rcases hk with hk | hk
      ·exact ((unhide HGR) k hk).imp id (fun q => ⟨q.1, by omega⟩)
      ·have h1 := (unhide HLO) k hk
       have h2 := unhide HCB
       have h4 := unhide HWC
       have h5 := (unhide W8).wor.old k hk
       exact .inr ⟨by omega, by omega⟩) (fun k hk => by
      rcases hk with hk | hk
      ·exact Nat.lt_of_lt_of_le ((unhide H).lt k hk) (Nat.le_trans (unhide MO8).size sz10)
      ·exact hk.2), .inr (.inr (.inl ⟨unhide HK0, unhide HSH, by rw [unhide HS1], okp, ⟨cb, ow7, v7, ys7, nowR, flR⟩, by rw [unhide HDD], by rw [unhide HDD], by rw [unhide HDD, unhide HS2]⟩))⟩, (unhide MO8).trans (mm.mono (fun k _ e => by
      obtain ⟨cls, c1, _, _, _, _, _, c7⟩ := (unhide H).ex
      rw [e]; exact c7 ob (by omega)))⟩)
     clear hh10 hm10 mm one10 HWE
     go_wp2
     go_ret
     exact ⟨rfl, unhide FIN⟩
    ·subst e
     obtain ⟨e3, e4⟩ := (unhide HS4) (by omega)
     subst e3 e4
     have hp := (unhide HP1) (unhide HK0) (unhide HS1)
     rw [unhide HS2] at hp
     have hd8 : decide (2 * I.most + 60 * (I.ch + 1) + 180 ≤ KR.T.room) = false := by simpa using hp
     have FIN := hide (show OneD w w8 O ob (DoneR I c) from ⟨⟨_, (unhide ONE8).owns' (unhide HGR) (unhide HGL), .inr (.inr (.inr (.inl ⟨unhide HK0, unhide HSH, unhide HS1, okp, by rw [unhide HS2]⟩)))⟩, unhide MO8⟩)
     clear HDD HWW HP1 HP2 HLO HCB ONE8 MO8 W8 HH8 hp
     go_wp2
     go_ret
     exact ⟨rfl, unhide FIN⟩
    ·subst e
     obtain ⟨e3, e4⟩ := (unhide HS4) (by omega)
     subst e3 e4
     have hp := (unhide HP2) (unhide HK0) (unhide HS1)
     rw [unhide HS2] at hp
     have HP := hide hp
     clear hp HP1 HP2
     have u3 : w8.cell? ⟨ob, 3, none⟩ = some (ptrOf (I.mb.map (·.wb))) := (unhide HH8).cell 3
     have u6 : w8.cell? ⟨ob, 6, none⟩ = some (.int .i64 I.ch) := (unhide HH8).cell 6
     have hw1 : IntKind.i64.wrap (I.ch + 1) = I.ch + 1 := wrap_fit _ (by omega) (by omega)
     have m9 : Mod (fun k => k = ob) w8 (((w8.setCell ⟨ob, 7, none⟩ (.bool true)).setCell ⟨ob, 3, none⟩ (.pointer (some ⟨cb, 0, none⟩))).setCell ⟨ob, 6, none⟩ (.int .i64 (I.ch + 1))) := (((Mod.refl _ w8).at 7 _).at 3 _).at 6 _
     have hv9 : (((oneV I).setIfInBounds 7 (.bool true)).setIfInBounds 3 (.pointer (some ⟨cb, 0, none⟩))).setIfInBounds 6 (.int .i64 (I.ch + 1)) = oneV { I with okp := okp, K := KR, sh := true, mb := some ⟨cb, ow7, v7, ys7, now', fl'⟩, ch := I.ch + 1 } := by
      unfold oneV
      rw [← unhide HTB]
      rfl
     have h9 := (((unhide HH8).set 7 (.bool true)).set 3 (.pointer (some ⟨cb, 0, none⟩))).set 6 (.int .i64 (I.ch + 1))
     rw [hv9] at h9
     have NOB := hide (show ∀ k, ow7 k ≠ 0 → ¬ grow O w wc k from fun k hk hg => by
      have h1 := (unhide HLO) k hk
      have h2 := unhide HCB
      rcases hg with hg | hg
      ·have := (unhide H).lt k hg
       have h4 := unhide HWC
       omega
      ·omega)
     have one9 := (unhide ONE8).turn (I' := { I with okp := okp, K := KR, sh := true, mb := some ⟨cb, ow7, v7, ys7, now', fl'⟩, ch := I.ch + 1 }) (unhide W8) (unhide NOB) m9 h9 ⟨rfl, rfl, rfl, rfl, rfl, rfl, rfl⟩ ⟨rfl, rfl, rfl, rfl, rfl⟩ (.inr ⟨rfl, rfl⟩)
     obtain ⟨⟨ptE, hkE⟩, _⟩ := one9.keep.some kb hkb
     have HDE := hide (dead_any (tb := KR.tb) one9.has rfl hkE.tape (unhide HP))
     have ONE9 := hide one9
     have M9 := hide m9
     have TOK := hide (show okp KR.tb = 30 from hkE.tape.inn)
     clear m9 h9 hv9 one9 hkE
     go_wp2_with fail
     refine (unhide HDE).mono ?_
     rintro e w10 ⟨rfl, t10, m10⟩
     have one10 := (unhide ONE9).taped t10 (m10.mono (fun k _ (e : k = KR.tb) => by show okp k = 30; rw [e]; exact unhide TOK))
     have sz10 := Nat.le_trans (unhide M9).size m10.size
     have mo10 : Mod O w w10 := ((unhide MO8).trans ((unhide M9).mono (fun k _ e => by
      obtain ⟨cls, c1, _, _, _, _, _, c7⟩ := (unhide H).ex
      rw [e]; exact c7 ob (by omega)))).trans' m10 (fun k (e : k = KR.tb) hl => by
       subst e
       have := (unhide ONE8).ex
       obtain ⟨cls, c1, c2, _, _, _, _, c7⟩ := this
       have := c7 KR.tb (by rw [c2 KR.tb (by show okp KR.tb ≠ 0; rw [unhide TOK]; omega)]; omega)
       rcases this with q | q
       ·exact q
       ·omega)
     have FIN := hide (show OneD w w10 O ob (DoneR I c) from ⟨⟨_, one10.owns' (fun k hk => by
      rcases hk with hk | hk
      ·exact ((unhide HGR) k hk).imp id (fun q => ⟨q.1, by omega⟩)
      ·have h1 := (unhide HLO) k hk
       have h2 := unhide HCB
       have h4 := unhide HWC
       have h5 := (unhide W8).wor.old k hk
       exact .inr ⟨by omega, by omega⟩) (fun k hk => by
      rcases hk with hk | hk
      ·exact Nat.lt_of_lt_of_le ((unhide H).lt k hk) (Nat.le_trans (unhide MO8).size sz10)
      ·exact hk.2), .inr (.inr (.inr (.inr ⟨unhide HK0, unhide HSH, unhide HS1, okp, ⟨cb, ow7, v7, ys7, now', fl'⟩, by rw [unhide HDD], by rw [unhide HDD], by rw [unhide HS2]⟩)))⟩, mo10⟩)
     clear t10 m10 one10 HDE mo10
     go_wp2
     go_ret
     exact ⟨rfl, unhide FIN⟩
def I64 (v : Value) : Prop := ∃ x : Int, v = .int .i64 x ∧ -9223372036854775808 ≤ x ∧ x ≤ 9223372036854775807
section
variable {H : Type} {enc : TypeId × Value → H} {w : World} {base : Nat} {spare : Nat → Bool} {held : Bool}
def AllI (enc : TypeId × Value → H) (w : World) (base : Nat) (spare : Nat → Bool) (held : Bool) (t : TypeId) (n : Nat) : Prop :=
 Tryz.prog.cellsOf t = n ∧ ∀ (fuel : Nat) (cs : List Value) (x : DataW H × List MemPlace), DataW.trod enc Tryz.prog w base spare held fuel t cs = some x → ∀ (i : Nat) (v : Value), cs[i]? = some v → I64 v
theorem allI_int {t : TypeId} (ht : Tryz.prog.underlying t = some (.int .i64)) (hc : Tryz.prog.cellsOf t = 1) : AllI enc w base spare held t 1 := by
 refine ⟨hc, fun fuel cs x h i v hv => ?_⟩
 obtain ⟨n, rfl, _, hw⟩ := DataW.trod_int ht h
 have hb := bounds_i64 hw
 cases i with
 | zero => simp at hv; exact ⟨n, hv.symm, hb⟩
 | succ i => simp at hv
theorem ints_struct {t : TypeId} {fs : Array Field} (ht : Tryz.prog.underlying t = some (.struct fs)) {fuel : Nat} {cs : List Value} {x : DataW H × List MemPlace} (h : DataW.trod enc Tryz.prog w base spare held fuel t cs = some x) (i : Nat)
  (hcov : ∃ (j : Nat) (f : Field) (k : Nat), fs[j]? = some f ∧ f.offset ≤ i ∧ i < f.offset + k ∧ AllI enc w base spare held f.type k) : cs.length = Tryz.prog.cellsOf t ∧ ∀ v, cs[i]? = some v → I64 v := by
 obtain ⟨xs, n, _, _, hl, hx, hf⟩ := DataW.trod_struct ht h
 refine ⟨hl, fun v hv => ?_⟩
 obtain ⟨j, f, k, e1, e2, e3, e4, e5⟩ := hcov
 have hj : j < xs.length := by
  rw [hx]
  exact (Array.getElem?_eq_some_iff.1 e1).1
 have := hf j f e1
 rw [List.getElem?_eq_getElem hj, e4] at this
 refine e5 _ _ _ this (i - f.offset) v ?_
 rw [List.getElem?_take, if_pos (by omega), List.getElem?_drop]
 rw [show f.offset + (i - f.offset) = i by omega]
 exact hv
theorem allI_struct {t : TypeId} {fs : Array Field} (ht : Tryz.prog.underlying t = some (.struct fs)) (n : Nat) (hc : Tryz.prog.cellsOf t = n)
  (hcov : ∀ i, i < n → ∃ (j : Nat) (f : Field) (k : Nat), fs[j]? = some f ∧ f.offset ≤ i ∧ i < f.offset + k ∧ AllI enc w base spare held f.type k) : AllI enc w base spare held t n := by
 refine ⟨hc, fun fuel cs x h i v hv => ?_⟩
 obtain ⟨xs, n', _, _, hl, hx, hf⟩ := DataW.trod_struct ht h
 have hi : i < n := by
  have := (List.getElem?_eq_some_iff.1 hv).1
  omega
 exact (ints_struct ht h i (hcov i hi)).2 v hv
theorem allI_array {t e : TypeId} {n : Nat} (ht : Tryz.prog.underlying t = some (.array n e)) (hc : Tryz.prog.cellsOf t = n) (he : AllI enc w base spare held e 1) : AllI enc w base spare held t n := by
 refine ⟨hc, fun fuel cs x h i v hv => ?_⟩
 obtain ⟨xs, m, _, _, hl, hx, hf⟩ := DataW.trod_array ht h
 have hi : i < n := by
  have := (List.getElem?_eq_some_iff.1 hv).1
  omega
 have := hf i hi
 rw [List.getElem?_eq_getElem (by omega), he.1] at this
 refine he.2 _ _ _ this 0 v ?_
 rw [List.getElem?_take, if_pos (by omega), List.getElem?_drop]
 simpa using hv
theorem allI3 : AllI enc w base spare held 3 1 := allI_int Tryz.underlying3 (by kernel_rfl)
theorem allI40 : AllI enc w base spare held 37 4 := allI_array Tryz.underlying37 (by kernel_rfl) allI3
theorem allI30 : AllI enc w base spare held 36 2 := allI_struct Tryz.underlying36 2 (by kernel_rfl) fun i hi => by
 have : i = 0 ∨ i = 1 := by omega
 rcases this with rfl | rfl
 ·exact ⟨0, _, 1, rfl, by decide, by decide, allI3⟩
 ·exact ⟨1, _, 1, rfl, by decide, by decide, allI3⟩
theorem allI42 : AllI enc w base spare held 39 7 := allI_struct Tryz.underlying39 7 (by kernel_rfl) fun i hi => by
 by_cases h : 3 ≤ i
 ·exact ⟨3, _, 4, rfl, h, by show i < 3 + 4; omega, allI40⟩
 have : i = 0 ∨ i = 1 ∨ i = 2 := by omega
 rcases this with rfl | rfl | rfl
 ·exact ⟨0, _, 1, rfl, by decide, by decide, allI3⟩
 ·exact ⟨1, _, 1, rfl, by decide, by decide, allI3⟩
 ·exact ⟨2, _, 1, rfl, by decide, by decide, allI3⟩
theorem allI44 : AllI enc w base spare held 41 16 := allI_struct Tryz.underlying41 16 (by kernel_rfl) fun i hi => by
 by_cases h : 9 ≤ i
 ·exact ⟨7, _, 7, rfl, h, by show i < 9 + 7; omega, allI42⟩
 have : i = 0 ∨ i = 1 ∨ i = 2 ∨ i = 3 ∨ i = 4 ∨ i = 5 ∨ i = 6 ∨ i = 7 ∨ i = 8 := by omega
 rcases this with rfl | rfl | rfl | rfl | rfl | rfl | rfl | rfl | rfl
 ·exact ⟨0, _, 1, rfl, by decide, by decide, allI3⟩
 ·exact ⟨1, _, 1, rfl, by decide, by decide, allI3⟩
 ·exact ⟨2, _, 2, rfl, by decide, by decide, allI30⟩
 ·exact ⟨2, _, 2, rfl, by decide, by decide, allI30⟩
 ·exact ⟨3, _, 2, rfl, by decide, by decide, allI30⟩
 ·exact ⟨3, _, 2, rfl, by decide, by decide, allI30⟩
 ·exact ⟨4, _, 1, rfl, by decide, by decide, allI3⟩
 ·exact ⟨5, _, 1, rfl, by decide, by decide, allI3⟩
 ·exact ⟨6, _, 1, rfl, by decide, by decide, allI3⟩
end
end Go.Proofs.YthhibagcpjeihaaGreat
