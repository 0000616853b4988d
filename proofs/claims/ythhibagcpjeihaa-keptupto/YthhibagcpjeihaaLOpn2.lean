import Derived.Test.YthhibagcpjeihaaLKeepDToOpn1
namespace Go.Proofs.Ythhibagcpjeihaa
open Go.RowKit
open M
set_option linter.unusedVariables false
set_option linter.unusedSimpArgs false
set_option maxRecDepth 100000
set_option maxHeartbeats 8000000
def openP (T : TP) (i sk sl : Nat) : Int × TP :=
 let A := if 0 < sk then syncP T i else (true, T)
 if A.1 = false then (16, A.2)
 else
  let B := if 0 < sl then clearP A.2 (1 - i) else (true, A.2)
  if B.1 = false then (16, B.2) else (0, B.2)
structure OpI (w wx : World) (S : Nat → Prop) (tb rb kb lb i j sk sl nk : Nat) (vk vl : Value) (alk all : Bool) (T : TP) (Q : Nat → Nat → Value → World → Prop) : Prop where
 res : Has wx rb #[.pointer none, .int .i64 0, .bool false] 115
 kept : Has wx kb #[.int .i64 i, .int .i64 sk, vk, .bool alk] 155
 left : Has wx lb #[.int .i64 j, .int .i64 sl, vl, .bool all] 155
 tape : TapeH wx S tb T
 q : Q (w.heap.size + 1) kb vk wx
 mod : Mod S w wx
 ge : rb = w.heap.size ∧ w.heap.size < kb ∧ kb < lb
theorem Has.new2' (w : World) (o : Obj) (cs : Array Value) (T : TypeId) : Has ((w.alloc o).alloc (.cells cs T)) (w.heap.size + 1) cs T := by
 have := Has.new (w.alloc o) cs T
 rw [World.size_alloc] at this
 exact this
theorem OpI.sw {w wx : World} {S : Nat → Prop} {tb rb kb lb s0 s1 n0 n1 : Nat} {v0 v1 : Value} {al0 al1 : Bool} {T : TP} {Q : Nat → Nat → Value → World → Prop} (hQ : ∀ l h v W W', Q l h v W → Mod (fun k => k < l ∨ h ≤ k) W W' → Q l h v W') (hQm : ∀ l l' h h' v W, l ≤ l' → h' ≤ h → Q l' h' v W → Q l h v W)
  (h : OpI w wx S tb rb kb lb 0 1 s0 s1 n0 v0 v1 al0 al1 T Q) (hSk : ¬ S kb ∧ ¬ S lb) (hq : Q (w.heap.size + 1) kb v1 wx) :
  OpI w ((((((((wx.setCell ⟨kb, 0, none⟩ (.int .i64 (1 : Nat))).setCell ⟨kb, 1, none⟩ (.int .i64 s1)).setCell ⟨kb, 2, none⟩ v1).setCell ⟨kb, 3, none⟩ (.bool al1)).setCell ⟨lb, 0, none⟩ (.int .i64 (0 : Nat))).setCell ⟨lb, 1, none⟩ (.int .i64 s0)).setCell ⟨lb, 2, none⟩ v0).setCell ⟨lb, 3, none⟩ (.bool al0)) S tb rb kb lb 1 0 s1 s0 n1 v1 v0 al1 al0 T Q := by
 obtain ⟨h1, h2, h3, h4, h5, h6, h7⟩ := h
 have hm : Mod (fun k => k = kb ∨ k = lb) wx ((((((((wx.setCell ⟨kb, 0, none⟩ (.int .i64 (1 : Nat))).setCell ⟨kb, 1, none⟩ (.int .i64 s1)).setCell ⟨kb, 2, none⟩ v1).setCell ⟨kb, 3, none⟩ (.bool al1)).setCell ⟨lb, 0, none⟩ (.int .i64 (0 : Nat))).setCell ⟨lb, 1, none⟩ (.int .i64 s0)).setCell ⟨lb, 2, none⟩ v0).setCell ⟨lb, 3, none⟩ (.bool al0)) :=
  ((((((((Mod.refl _ wx).setCell (p := ⟨kb, 0, none⟩) (.inl (.inl rfl)) _).setCell (p := ⟨kb, 1, none⟩) (.inl (.inl rfl)) _).setCell (p := ⟨kb, 2, none⟩) (.inl (.inl rfl)) _).setCell (p := ⟨kb, 3, none⟩) (.inl (.inl rfl)) _).setCell (p := ⟨lb, 0, none⟩) (.inl (.inr rfl)) _).setCell (p := ⟨lb, 1, none⟩) (.inl (.inr rfl)) _).setCell (p := ⟨lb, 2, none⟩) (.inl (.inr rfl)) _).setCell (p := ⟨lb, 3, none⟩) (.inl (.inr rfl)) _
 have hne : kb ≠ lb := by omega
 refine ⟨hm.has h1 (by rintro (e | e) <;> omega), ?_, ?_, h4.mod hm (fun k hk => by rintro (e | e); exact hSk.1 (e ▸ hk); exact hSk.2 (e ▸ hk)), hQ _ _ _ _ _ hq (hm.mono (fun k _ e => by rcases e with e | e; exact .inr (by omega); exact .inr (by omega))), h6.trans' hm (fun k hk hl => by rcases hk with e | e <;> omega), h7⟩
 ·have := ((((h2.set 0 (.int .i64 (1 : Nat))).set 1 (.int .i64 s1)).set 2 v1).set 3 (.bool al1))
  exact (((this.set_ne (a := ⟨lb, 0, none⟩) hne _).set_ne (a := ⟨lb, 1, none⟩) hne _).set_ne (a := ⟨lb, 2, none⟩) hne _).set_ne (a := ⟨lb, 3, none⟩) hne _
 ·have h3' := (((h3.set_ne (a := ⟨kb, 0, none⟩) hne.symm (.int .i64 (1 : Nat))).set_ne (a := ⟨kb, 1, none⟩) hne.symm (.int .i64 s1)).set_ne (a := ⟨kb, 2, none⟩) hne.symm v1).set_ne (a := ⟨kb, 3, none⟩) hne.symm (.bool al1)
  exact (((h3'.set 0 (.int .i64 (0 : Nat))).set 1 (.int .i64 s0)).set 2 v0).set 3 (.bool al0)
theorem OpI.still {w wx wy : World} {S : Nat → Prop} {tb rb kb lb i j sk sl nk : Nat} {vk vl : Value} {alk all : Bool} {T : TP} {Q : Nat → Nat → Value → World → Prop} (h : OpI w wx S tb rb kb lb i j sk sl nk vk vl alk all T Q) (hQ : ∀ l h v W W', Q l h v W → Mod (fun k => k < l ∨ h ≤ k) W W' → Q l h v W') (hm : Mod No wx wy) : OpI w wy S tb rb kb lb i j sk sl nk vk vl alk all T Q :=
 ⟨hm.has h.res (fun x => x), hm.has h.kept (fun x => x), hm.has h.left (fun x => x), h.tape.mod0 hm, hQ _ _ _ _ _ h.q (hm.mono (fun _ _ x => x.elim)), h.mod.trans (hm.mono (fun _ _ x => x.elim)), h.ge⟩
theorem OpI.turn {w wx wy : World} {S : Nat → Prop} {tb rb kb lb i j sk sl nk : Nat} {vk vl : Value} {alk all : Bool} {T T' : TP} {Q : Nat → Nat → Value → World → Prop} (h : OpI w wx S tb rb kb lb i j sk sl nk vk vl alk all T Q) (hQ : ∀ l h v W W', Q l h v W → Mod (fun k => k < l ∨ h ≤ k) W W' → Q l h v W') (hS : ∀ k, S k → k < w.heap.size)
  (ht : TapeH wy S tb T') (hm : Mod (fun k => k = tb) wx wy) : OpI w wy S tb rb kb lb i j sk sl nk vk vl alk all T' Q := by
 obtain ⟨h1, h2, h3, h4, h5, h6, h7⟩ := h
 have htb := h4.inn
 have hl := hS _ htb
 exact ⟨hm.has h1 (by omega), hm.has h2 (by omega), hm.has h3 (by omega), ht, hQ _ _ _ _ _ h5 (hm.mono (fun k _ e => .inl (by omega))), h6.trans (hm.mono (fun k _ e => by rw [e]; exact htb)), h7⟩
theorem OpI.fin {w wx : World} {S : Nat → Prop} {tb rb kb lb i j sk sl nk : Nat} {vk vl x y z : Value} {alk all : Bool} {T : TP} {Q : Nat → Nat → Value → World → Prop} (hQ : ∀ l h v W W', Q l h v W → Mod (fun k => k < l ∨ h ≤ k) W W' → Q l h v W') (hQm : ∀ l l' h h' v W, l ≤ l' → h' ≤ h → Q l' h' v W → Q l h v W)
  (h : OpI w wx S tb rb kb lb i j sk sl nk vk vl alk all T Q) (hS : ∀ k, S k → k < w.heap.size) :
  Has (((wx.setCell ⟨rb, 0, none⟩ x).setCell ⟨rb, 1, none⟩ y).setCell ⟨rb, 2, none⟩ z) rb #[x, y, z] 115 ∧ TapeH (((wx.setCell ⟨rb, 0, none⟩ x).setCell ⟨rb, 1, none⟩ y).setCell ⟨rb, 2, none⟩ z) S tb T ∧
   Mod S w (((wx.setCell ⟨rb, 0, none⟩ x).setCell ⟨rb, 1, none⟩ y).setCell ⟨rb, 2, none⟩ z) ∧ Q w.heap.size (((wx.setCell ⟨rb, 0, none⟩ x).setCell ⟨rb, 1, none⟩ y).setCell ⟨rb, 2, none⟩ z).heap.size vk (((wx.setCell ⟨rb, 0, none⟩ x).setCell ⟨rb, 1, none⟩ y).setCell ⟨rb, 2, none⟩ z) := by
 obtain ⟨h1, h2, h3, h4, h5, h6, h7, h8, h9⟩ := h
 have hm : Mod (fun k => k = rb) wx (((wx.setCell ⟨rb, 0, none⟩ x).setCell ⟨rb, 1, none⟩ y).setCell ⟨rb, 2, none⟩ z) := (((Mod.refl _ wx).at 0 x).at 1 y).at 2 z
 have hl := h2.lt
 refine ⟨((h1.set 0 x).set 1 y).set 2 z, h4.mod hm (fun k hk e => by have := hS k hk; omega), h6.trans' hm (fun k e hl => by omega), hQm _ _ _ _ _ _ (by omega) (by simp only [World.size_setCell]; omega) (hQ _ _ _ _ _ h5 (hm.mono (fun k _ e => .inl (by omega))))⟩
theorem Has.dr {w : World} {b : Nat} {cs : Array Value} {T : TypeId} (h : Has w b cs T) : Has w.drew b cs T := h
theorem TapeH.dr {w : World} {S : Nat → Prop} {tb : Nat} {T : TP} (h : TapeH w S tb T) : TapeH w.drew S tb T := h.mod0 (Mod.refl No w).drew
theorem sopen_0 {w : World} {S : Nat → Prop} {tb : Nat} {T : TP} (ht : TapeH w S tb T) (hS : ∀ k, S k → k < w.heap.size) (s0 s1 n0 n1 : Nat) (al0 al1 : Bool) (Q : Nat → Nat → Value → World → Prop)
  (h0 : ∀ W, Mod No w W → Calls Try.prog 71 #[.pointer (some ⟨tb, 0, none⟩), .int .i64 0] W fun e w' => ∃ a c, e = .returned (foundV 0 s0 (.slice a n0 c) al0) ∧ Q W.heap.size w'.heap.size (.slice a n0 c) w' ∧ Mod No W w')
  (h1 : ∀ W, Mod No w W → Calls Try.prog 71 #[.pointer (some ⟨tb, 0, none⟩), .int .i64 1] W fun e w' => ∃ a c, e = .returned (foundV 1 s1 (.slice a n1 c) al1) ∧ Q W.heap.size w'.heap.size (.slice a n1 c) w' ∧ Mod No W w')
  (hQ : ∀ l h v W W', Q l h v W → Mod (fun k => k < l ∨ h ≤ k) W W' → Q l h v W') (hQm : ∀ l l' h h' v W, l ≤ l' → h' ≤ h → Q l' h' v W → Q l h v W) (hb : betP n1 n0 s1 s0 = false) :
  Calls Try.prog 53 #[.pointer (some ⟨tb, 0, none⟩)] w fun e w' =>
   TapeH w' S tb (openP T 0 s0 s1).2 ∧ Mod S w w' ∧
   ((openP T 0 s0 s1).1 = 0 → ∃ a c, e = .returned (.tuple #[.agg #[.pointer (some ⟨tb, 0, none⟩), .int .i64 (0 : Nat), .bool (!al0)], .slice a n0 c, .int .i64 0]) ∧ Q w.heap.size w'.heap.size (.slice a n0 c) w') ∧
   ((openP T 0 s0 s1).1 ≠ 0 → e = .returned (.tuple #[.agg #[.pointer none, .int .i64 0, .bool false], .slice none 0 0, .int .i64 16])) := by
 have m0 : Mod No w (w.alloc (.cells #[.pointer none, .int .i64 0, .bool false] 115)) := (Mod.refl _ _).alloc _
 have HF0 := hide (h0 _ m0)
 have HF1 := hide h1
 have B0 := hide (Has.new w #[.pointer none, .int .i64 0, .bool false] 115)
 have M0 := hide m0
 have HT := hide ht
 have HB := hide hb
 have HQ := hide hQ
 have HQM := hide hQm
 have HSS := hide hS
 have HBET := hide fun W (i j : Int) (s t n m c d : Nat) (a b : Option Addr) (x y : Bool) => better_any W i j s t n m c d a b x y
 unfold foundV at *
 clear h0 h1 m0 ht hQ hQm hS hb
 go_enter Try.func53, Try.ntmps53
 go_wp2_with fail
 refine (unhide HF0).mono ?_
 rintro e w1 ⟨a0, c0, rfl, q0, m1⟩
 have M1 := hide ((unhide M0).trans m1)
 have M01 := hide m1
 have HF1 := hide ((unhide HF1) w1 (unhide M1))
 have B1 := hide (m1.has (unhide B0) (fun x => x))
 have Q1 := hide q0
 clear q0 m1 HF0 B0
 go_wp2_with fail
 refine (unhide HF1).mono ?_
 rintro e w2 ⟨a1, c1, rfl, q1, m2⟩
 have M2 := hide ((unhide M1).trans m2)
 have B2 := hide (m2.has (unhide B1) (fun x => x))
 have Q2 := hide q1
 have Q12 := hide m2
 clear q1 m2 HF1 B1
 go_upto_region 2 with fail
 have m3 : Mod No w2 ((w2.alloc (.cells #[.int .i64 0, .int .i64 s0, .slice a0 n0 c0, .bool al0] 155)).alloc (.cells #[.int .i64 1, .int .i64 s1, .slice a1 n1 c1, .bool al1] 155)) := ((Mod.refl _ w2).alloc _).alloc _
 have I3 := hide (show OpI w ((w2.alloc (.cells #[.int .i64 0, .int .i64 s0, .slice a0 n0 c0, .bool al0] 155)).alloc (.cells #[.int .i64 1, .int .i64 s1, .slice a1 n1 c1, .bool al1] 155)) S tb w.heap.size w2.heap.size (w2.heap.size + 1) 0 1 s0 s1 n0 (.slice a0 n0 c0) (.slice a1 n1 c1) al0 al1 T Q from
  ⟨m3.has (unhide B2) (fun x => x), (Has.new w2 _ _).alloc _, Has.new2' _ _ _ _, (unhide HT).mod0 ((unhide M2).trans m3), (unhide HQM) _ _ _ _ _ _ (Nat.le_of_eq (World.size_alloc _ _).symm) (unhide Q12).size ((unhide HQ) _ _ _ _ _ (unhide Q1) (((unhide Q12).trans m3).mono (fun _ _ x => x.elim))), ((unhide M2).trans m3).mono (fun _ _ x => x.elim), rfl, (unhide B2).lt, Nat.lt_succ_self _⟩)
 have Q3 := hide ((unhide HQM) (w.heap.size + 1) _ w2.heap.size _ _ _ (Nat.le_trans (Nat.le_of_eq (World.size_alloc _ _).symm) (unhide M01).size) (Nat.le_refl _) ((unhide HQ) _ _ _ _ _ (unhide Q2) (m3.mono (fun _ _ x => x.elim))))
 have LT := hide (show w.heap.size < w2.heap.size from (unhide B2).lt)
 clear m3
 generalize (w2.alloc (.cells #[.int .i64 0, .int .i64 s0, .slice a0 n0 c0, .bool al0] 155)).alloc (.cells #[.int .i64 1, .int .i64 s1, .slice a1 n1 c1, .bool al1] 155) = w3 at *
 generalize w2.heap.size + 1 = lb at *
 generalize hkb : w2.heap.size = kb at *
 clear hkb M2 Q12 Q2 Q1 B2 M1 M0 M01
 have k0 : w3.cell? ⟨kb, 0, none⟩ = some (.int .i64 0) := (unhide I3).kept.cell 0
 have k1 : w3.cell? ⟨kb, 1, none⟩ = some (.int .i64 s0) := (unhide I3).kept.cell 1
 have k2 : w3.cell? ⟨kb, 2, none⟩ = some (.slice a0 n0 c0) := (unhide I3).kept.cell 2
 have k3 : w3.cell? ⟨kb, 3, none⟩ = some (.bool al0) := (unhide I3).kept.cell 3
 have l0 : w3.cell? ⟨lb, 0, none⟩ = some (.int .i64 1) := (unhide I3).left.cell 0
 have l1 : w3.cell? ⟨lb, 1, none⟩ = some (.int .i64 s1) := (unhide I3).left.cell 1
 have l2 : w3.cell? ⟨lb, 2, none⟩ = some (.slice a1 n1 c1) := (unhide I3).left.cell 2
 have l3 : w3.cell? ⟨lb, 3, none⟩ = some (.bool al1) := (unhide I3).left.cell 3
 have kf := (unhide I3).kept.frozen
 have lf := (unhide I3).left.frozen
 have kl := (unhide I3).kept.lt
 have ll := (unhide I3).left.lt
 have HBT := hide (better_any w3 1 0 s1 s0 n1 n0 c1 c0 a1 a0 al1 al0)
 unfold foundV at HBT
 rw [unhide HB] at HBT
 go_wp2_with fail
 refine (unhide HBT).mono ?_
 rintro e w4 ⟨rfl, m4⟩
 have I4 := hide ((unhide I3).still (unhide HQ) m4)
 have Q4 := hide ((unhide HQ) _ _ _ _ _ (unhide Q3) (m4.mono (fun _ _ x => x.elim)))
 clear k0 k1 k2 k3 l0 l1 l2 l3 kf lf kl ll m4 I3 Q3 HBT
 have k0 : w4.cell? ⟨kb, 0, none⟩ = some (.int .i64 0) := (unhide I4).kept.cell 0
 have k1 : w4.cell? ⟨kb, 1, none⟩ = some (.int .i64 s0) := (unhide I4).kept.cell 1
 have k2 : w4.cell? ⟨kb, 2, none⟩ = some (.slice a0 n0 c0) := (unhide I4).kept.cell 2
 have k3 : w4.cell? ⟨kb, 3, none⟩ = some (.bool al0) := (unhide I4).kept.cell 3
 have l0 : w4.cell? ⟨lb, 0, none⟩ = some (.int .i64 1) := (unhide I4).left.cell 0
 have l1 : w4.cell? ⟨lb, 1, none⟩ = some (.int .i64 s1) := (unhide I4).left.cell 1
 have l2 : w4.cell? ⟨lb, 2, none⟩ = some (.slice a1 n1 c1) := (unhide I4).left.cell 2
 have l3 : w4.cell? ⟨lb, 3, none⟩ = some (.bool al1) := (unhide I4).left.cell 3
 have kf := (unhide I4).kept.frozen
 have lf := (unhide I4).left.frozen
 have kl := (unhide I4).kept.lt
 have ll := (unhide I4).left.lt
 go_upto_region 4 with fail
 have I5 := I4
 clear k0 k1 k2 k3 l0 l1 l2 l3 kf lf kl ll I4 Q4
 generalize w4 = w5 at *
 have HOP := hide (show openP T 0 s0 s1 = openP T 0 s0 s1 from rfl)
 clear HT HF1 HBET
 by_cases hk : 0 < s0
 ·have hki : (s0 : Int) > 0 := by omega
  have HS := hide (sync_t (unhide I5).tape 0 (by omega))
  obtain ⟨x1, hx1⟩ : ∃ x, syncP T 0 = x := ⟨_, rfl⟩
  rw [hx1] at HS
  obtain ⟨d1, T1⟩ := x1
  have HX1 := hide hx1
  clear hx1
  cases d1 with
  | true =>
   have k0 : w5.cell? ⟨kb, 0, none⟩ = some (.int .i64 0) := (unhide I5).kept.cell 0
   have k1 : w5.cell? ⟨kb, 1, none⟩ = some (.int .i64 s0) := (unhide I5).kept.cell 1
   have k2 : w5.cell? ⟨kb, 2, none⟩ = some (.slice a0 n0 c0) := (unhide I5).kept.cell 2
   have k3 : w5.cell? ⟨kb, 3, none⟩ = some (.bool al0) := (unhide I5).kept.cell 3
   have l0 : w5.cell? ⟨lb, 0, none⟩ = some (.int .i64 1) := (unhide I5).left.cell 0
   have l1 : w5.cell? ⟨lb, 1, none⟩ = some (.int .i64 s1) := (unhide I5).left.cell 1
   have kl := (unhide I5).kept.lt
   have ll := (unhide I5).left.lt
   have r0 : w5.cell? ⟨w.heap.size, 0, none⟩ = some (.pointer none) := (unhide I5).res.cell 0
   have r1 : w5.cell? ⟨w.heap.size, 1, none⟩ = some (.int .i64 0) := (unhide I5).res.cell 1
   have r2 : w5.cell? ⟨w.heap.size, 2, none⟩ = some (.bool false) := (unhide I5).res.cell 2
   have rf := (unhide I5).res.frozen
   have rl := (unhide I5).res.lt
   have nk : kb ≠ w.heap.size := by have := (unhide I5).ge; omega
   go_wp2_with fail
   refine (unhide HS).mono ?_
   rintro e w6 ⟨rfl, t6, m6⟩
   have I6 := hide ((unhide I5).turn (unhide HQ) (unhide HSS) t6 m6)
   clear k0 k1 k2 k3 l0 l1 kl ll r0 r1 r2 rf rl nk t6 m6 HS
   have k0 : w6.cell? ⟨kb, 0, none⟩ = some (.int .i64 0) := (unhide I6).kept.cell 0
   have k1 : w6.cell? ⟨kb, 1, none⟩ = some (.int .i64 s0) := (unhide I6).kept.cell 1
   have k2 : w6.cell? ⟨kb, 2, none⟩ = some (.slice a0 n0 c0) := (unhide I6).kept.cell 2
   have k3 : w6.cell? ⟨kb, 3, none⟩ = some (.bool al0) := (unhide I6).kept.cell 3
   have l0 : w6.cell? ⟨lb, 0, none⟩ = some (.int .i64 1) := (unhide I6).left.cell 0
   have l1 : w6.cell? ⟨lb, 1, none⟩ = some (.int .i64 s1) := (unhide I6).left.cell 1
   have kl := (unhide I6).kept.lt
   have ll := (unhide I6).left.lt
   have r0 : w6.cell? ⟨w.heap.size, 0, none⟩ = some (.pointer none) := (unhide I6).res.cell 0
   have r1 : w6.cell? ⟨w.heap.size, 1, none⟩ = some (.int .i64 0) := (unhide I6).res.cell 1
   have r2 : w6.cell? ⟨w.heap.size, 2, none⟩ = some (.bool false) := (unhide I6).res.cell 2
   have rf := (unhide I6).res.frozen
   have rl := (unhide I6).res.lt
   have nk : kb ≠ w.heap.size := by have := (unhide I6).ge; omega
   by_cases hl : 0 < s1
   ·have hli : (s1 : Int) > 0 := by omega
    have HC := hide (clear_t (unhide I6).tape 1 (by omega))
    obtain ⟨x2, hx2⟩ : ∃ x, clearP T1 1 = x := ⟨_, rfl⟩
    rw [hx2] at HC
    obtain ⟨d2, T2⟩ := x2
    have HX2 := hide hx2
    clear hx2
    cases d2 with
    | true =>
     go_wp2_with fail
     refine (unhide HC).mono ?_
     rintro e w8 ⟨rfl, t8, m8⟩
     have I8 := hide ((unhide I6).turn (unhide HQ) (unhide HSS) t8 m8)
     clear k0 k1 k2 k3 l0 l1 kl ll r0 r1 r2 rf rl nk t8 m8 HC
     have k0 : w8.cell? ⟨kb, 0, none⟩ = some (.int .i64 0) := (unhide I8).kept.cell 0
     have k1 : w8.cell? ⟨kb, 1, none⟩ = some (.int .i64 s0) := (unhide I8).kept.cell 1
     have k2 : w8.cell? ⟨kb, 2, none⟩ = some (.slice a0 n0 c0) := (unhide I8).kept.cell 2
     have k3 : w8.cell? ⟨kb, 3, none⟩ = some (.bool al0) := (unhide I8).kept.cell 3
     have l0 : w8.cell? ⟨lb, 0, none⟩ = some (.int .i64 1) := (unhide I8).left.cell 0
     have l1 : w8.cell? ⟨lb, 1, none⟩ = some (.int .i64 s1) := (unhide I8).left.cell 1
     have kl := (unhide I8).kept.lt
     have ll := (unhide I8).left.lt
     have r0 : w8.cell? ⟨w.heap.size, 0, none⟩ = some (.pointer none) := (unhide I8).res.cell 0
     have r1 : w8.cell? ⟨w.heap.size, 1, none⟩ = some (.int .i64 0) := (unhide I8).res.cell 1
     have r2 : w8.cell? ⟨w.heap.size, 2, none⟩ = some (.bool false) := (unhide I8).res.cell 2
     have rf := (unhide I8).res.frozen
     have rl := (unhide I8).res.lt
     have nk : kb ≠ w.heap.size := by have := (unhide I8).ge; omega
     have HEQ := hide (show openP T 0 s0 s1 = (0, T2) from by unfold openP; simp [hk, unhide HX1, hl, unhide HX2])
     go_wp2_with fail
     go_region
     all_goals go_wp2
     all_goals
      obtain ⟨z1, z2, z3, z4⟩ := OpI.fin (x := .pointer (some ⟨tb, 0, none⟩)) (y := .int .i64 0) (z := .bool (!al0)) (unhide HQ) (unhide HQM) (unhide I8) (unhide HSS)
      refine post_w (fun W => Has W w.heap.size #[.pointer (some ⟨tb, 0, none⟩), .int .i64 0, .bool (!al0)] 115 ∧ TapeH W S tb T2 ∧ Mod S w W ∧ Q w.heap.size W.heap.size (.slice a0 n0 c0) W) ⟨z1.dr, z2.dr, z3.drew, (unhide HQ) _ _ _ _ _ z4 (Mod.refl _ _).drew⟩ ?_
      rintro w7 ⟨h7, t7, m7, q7⟩
      have d0 : w7.cell? ⟨w.heap.size, 0, none⟩ = some (.pointer (some ⟨tb, 0, none⟩)) := h7.cell 0
      have d1 : w7.cell? ⟨w.heap.size, 1, none⟩ = some (.int .i64 0) := h7.cell 1
      have d2 : w7.cell? ⟨w.heap.size, 2, none⟩ = some (.bool (!al0)) := h7.cell 2
      refine bodyPost_ret (by simp [results, Try.results53, go_sem, d0, d1, d2]; try rfl) rfl ?_
      rw [unhide HEQ]
      exact ⟨t7, m7, fun _ => ⟨a0, c0, rfl, q7⟩, fun e => absurd rfl e⟩
    | false =>
     go_wp2_with fail
     refine (unhide HC).mono ?_
     rintro e w8 ⟨rfl, t8, m8⟩
     have I8 := hide ((unhide I6).turn (unhide HQ) (unhide HSS) t8 m8)
     clear k0 k1 k2 k3 l0 l1 kl ll r0 r1 r2 rf rl nk t8 m8 HC
     have k0 : w8.cell? ⟨kb, 0, none⟩ = some (.int .i64 0) := (unhide I8).kept.cell 0
     have k1 : w8.cell? ⟨kb, 1, none⟩ = some (.int .i64 s0) := (unhide I8).kept.cell 1
     have k2 : w8.cell? ⟨kb, 2, none⟩ = some (.slice a0 n0 c0) := (unhide I8).kept.cell 2
     have k3 : w8.cell? ⟨kb, 3, none⟩ = some (.bool al0) := (unhide I8).kept.cell 3
     have l0 : w8.cell? ⟨lb, 0, none⟩ = some (.int .i64 1) := (unhide I8).left.cell 0
     have l1 : w8.cell? ⟨lb, 1, none⟩ = some (.int .i64 s1) := (unhide I8).left.cell 1
     have kl := (unhide I8).kept.lt
     have ll := (unhide I8).left.lt
     have r0 : w8.cell? ⟨w.heap.size, 0, none⟩ = some (.pointer none) := (unhide I8).res.cell 0
     have r1 : w8.cell? ⟨w.heap.size, 1, none⟩ = some (.int .i64 0) := (unhide I8).res.cell 1
     have r2 : w8.cell? ⟨w.heap.size, 2, none⟩ = some (.bool false) := (unhide I8).res.cell 2
     have rf := (unhide I8).res.frozen
     have rl := (unhide I8).res.lt
     have nk : kb ≠ w.heap.size := by have := (unhide I8).ge; omega
     have HEQ := hide (show openP T 0 s0 s1 = (16, T2) from by unfold openP; simp [hk, unhide HX1, hl, unhide HX2])
     go_wp2
     obtain ⟨z1, z2, z3, z4⟩ := OpI.fin (x := .pointer none) (y := .int .i64 0) (z := .bool false) (unhide HQ) (unhide HQM) (unhide I8) (unhide HSS)
     refine post_w (fun W => Has W w.heap.size #[.pointer none, .int .i64 0, .bool false] 115 ∧ TapeH W S tb T2 ∧ Mod S w W) ⟨z1, z2, z3⟩ ?_
     rintro w7 ⟨h7, t7, m7⟩
     have d0 : w7.cell? ⟨w.heap.size, 0, none⟩ = some (.pointer none) := h7.cell 0
     have d1 : w7.cell? ⟨w.heap.size, 1, none⟩ = some (.int .i64 0) := h7.cell 1
     have d2 : w7.cell? ⟨w.heap.size, 2, none⟩ = some (.bool false) := h7.cell 2
     refine bodyPost_ret (by simp [results, Try.results53, go_sem, d0, d1, d2]; try rfl) rfl ?_
     rw [unhide HEQ]
     exact ⟨t7, m7, fun e => absurd e (by show ¬ (16 : Int) = 0; omega), fun _ => rfl⟩
   ·have hli : ¬ (s1 : Int) > 0 := by omega
    have HEQ := hide (show openP T 0 s0 s1 = (0, T1) from by unfold openP; simp [hk, unhide HX1, hl])
    go_wp2_with fail
    go_region
    all_goals go_wp2
    all_goals
     obtain ⟨z1, z2, z3, z4⟩ := OpI.fin (x := .pointer (some ⟨tb, 0, none⟩)) (y := .int .i64 0) (z := .bool (!al0)) (unhide HQ) (unhide HQM) (unhide I6) (unhide HSS)
     refine post_w (fun W => Has W w.heap.size #[.pointer (some ⟨tb, 0, none⟩), .int .i64 0, .bool (!al0)] 115 ∧ TapeH W S tb T1 ∧ Mod S w W ∧ Q w.heap.size W.heap.size (.slice a0 n0 c0) W) ⟨z1.dr, z2.dr, z3.drew, (unhide HQ) _ _ _ _ _ z4 (Mod.refl _ _).drew⟩ ?_
     rintro w7 ⟨h7, t7, m7, q7⟩
     have d0 : w7.cell? ⟨w.heap.size, 0, none⟩ = some (.pointer (some ⟨tb, 0, none⟩)) := h7.cell 0
     have d1 : w7.cell? ⟨w.heap.size, 1, none⟩ = some (.int .i64 0) := h7.cell 1
     have d2 : w7.cell? ⟨w.heap.size, 2, none⟩ = some (.bool (!al0)) := h7.cell 2
     refine bodyPost_ret (by simp [results, Try.results53, go_sem, d0, d1, d2]; try rfl) rfl ?_
     rw [unhide HEQ]
     exact ⟨t7, m7, fun _ => ⟨a0, c0, rfl, q7⟩, fun e => absurd rfl e⟩
  | false =>
   have k0 : w5.cell? ⟨kb, 0, none⟩ = some (.int .i64 0) := (unhide I5).kept.cell 0
   have k1 : w5.cell? ⟨kb, 1, none⟩ = some (.int .i64 s0) := (unhide I5).kept.cell 1
   have k2 : w5.cell? ⟨kb, 2, none⟩ = some (.slice a0 n0 c0) := (unhide I5).kept.cell 2
   have k3 : w5.cell? ⟨kb, 3, none⟩ = some (.bool al0) := (unhide I5).kept.cell 3
   have l0 : w5.cell? ⟨lb, 0, none⟩ = some (.int .i64 1) := (unhide I5).left.cell 0
   have l1 : w5.cell? ⟨lb, 1, none⟩ = some (.int .i64 s1) := (unhide I5).left.cell 1
   have kl := (unhide I5).kept.lt
   have ll := (unhide I5).left.lt
   have r0 : w5.cell? ⟨w.heap.size, 0, none⟩ = some (.pointer none) := (unhide I5).res.cell 0
   have r1 : w5.cell? ⟨w.heap.size, 1, none⟩ = some (.int .i64 0) := (unhide I5).res.cell 1
   have r2 : w5.cell? ⟨w.heap.size, 2, none⟩ = some (.bool false) := (unhide I5).res.cell 2
   have rf := (unhide I5).res.frozen
   have rl := (unhide I5).res.lt
   have nk : kb ≠ w.heap.size := by have := (unhide I5).ge; omega
   go_wp2_with fail
   refine (unhide HS).mono ?_
   rintro e w6 ⟨rfl, t6, m6⟩
   have I6 := hide ((unhide I5).turn (unhide HQ) (unhide HSS) t6 m6)
   clear k0 k1 k2 k3 l0 l1 kl ll r0 r1 r2 rf rl nk t6 m6 HS
   have k0 : w6.cell? ⟨kb, 0, none⟩ = some (.int .i64 0) := (unhide I6).kept.cell 0
   have k1 : w6.cell? ⟨kb, 1, none⟩ = some (.int .i64 s0) := (unhide I6).kept.cell 1
   have k2 : w6.cell? ⟨kb, 2, none⟩ = some (.slice a0 n0 c0) := (unhide I6).kept.cell 2
   have k3 : w6.cell? ⟨kb, 3, none⟩ = some (.bool al0) := (unhide I6).kept.cell 3
   have l0 : w6.cell? ⟨lb, 0, none⟩ = some (.int .i64 1) := (unhide I6).left.cell 0
   have l1 : w6.cell? ⟨lb, 1, none⟩ = some (.int .i64 s1) := (unhide I6).left.cell 1
   have kl := (unhide I6).kept.lt
   have ll := (unhide I6).left.lt
   have r0 : w6.cell? ⟨w.heap.size, 0, none⟩ = some (.pointer none) := (unhide I6).res.cell 0
   have r1 : w6.cell? ⟨w.heap.size, 1, none⟩ = some (.int .i64 0) := (unhide I6).res.cell 1
   have r2 : w6.cell? ⟨w.heap.size, 2, none⟩ = some (.bool false) := (unhide I6).res.cell 2
   have rf := (unhide I6).res.frozen
   have rl := (unhide I6).res.lt
   have nk : kb ≠ w.heap.size := by have := (unhide I6).ge; omega
   have HEQ := hide (show openP T 0 s0 s1 = (16, T1) from by unfold openP; simp [hk, unhide HX1])
   go_wp2
   obtain ⟨z1, z2, z3, z4⟩ := OpI.fin (x := .pointer none) (y := .int .i64 0) (z := .bool false) (unhide HQ) (unhide HQM) (unhide I6) (unhide HSS)
   refine post_w (fun W => Has W w.heap.size #[.pointer none, .int .i64 0, .bool false] 115 ∧ TapeH W S tb T1 ∧ Mod S w W) ⟨z1, z2, z3⟩ ?_
   rintro w7 ⟨h7, t7, m7⟩
   have d0 : w7.cell? ⟨w.heap.size, 0, none⟩ = some (.pointer none) := h7.cell 0
   have d1 : w7.cell? ⟨w.heap.size, 1, none⟩ = some (.int .i64 0) := h7.cell 1
   have d2 : w7.cell? ⟨w.heap.size, 2, none⟩ = some (.bool false) := h7.cell 2
   refine bodyPost_ret (by simp [results, Try.results53, go_sem, d0, d1, d2]; try rfl) rfl ?_
   rw [unhide HEQ]
   exact ⟨t7, m7, fun e => absurd e (by show ¬ (16 : Int) = 0; omega), fun _ => rfl⟩
 ·have hki : ¬ (s0 : Int) > 0 := by omega
  have k0 : w5.cell? ⟨kb, 0, none⟩ = some (.int .i64 0) := (unhide I5).kept.cell 0
  have k1 : w5.cell? ⟨kb, 1, none⟩ = some (.int .i64 s0) := (unhide I5).kept.cell 1
  have k2 : w5.cell? ⟨kb, 2, none⟩ = some (.slice a0 n0 c0) := (unhide I5).kept.cell 2
  have k3 : w5.cell? ⟨kb, 3, none⟩ = some (.bool al0) := (unhide I5).kept.cell 3
  have l0 : w5.cell? ⟨lb, 0, none⟩ = some (.int .i64 1) := (unhide I5).left.cell 0
  have l1 : w5.cell? ⟨lb, 1, none⟩ = some (.int .i64 s1) := (unhide I5).left.cell 1
  have kl := (unhide I5).kept.lt
  have ll := (unhide I5).left.lt
  have r0 : w5.cell? ⟨w.heap.size, 0, none⟩ = some (.pointer none) := (unhide I5).res.cell 0
  have r1 : w5.cell? ⟨w.heap.size, 1, none⟩ = some (.int .i64 0) := (unhide I5).res.cell 1
  have r2 : w5.cell? ⟨w.heap.size, 2, none⟩ = some (.bool false) := (unhide I5).res.cell 2
  have rf := (unhide I5).res.frozen
  have rl := (unhide I5).res.lt
  have nk : kb ≠ w.heap.size := by have := (unhide I5).ge; omega
  by_cases hl : 0 < s1
  ·have hli : (s1 : Int) > 0 := by omega
   have HC := hide (clear_t (unhide I5).tape 1 (by omega))
   obtain ⟨x2, hx2⟩ : ∃ x, clearP T 1 = x := ⟨_, rfl⟩
   rw [hx2] at HC
   obtain ⟨d2, T2⟩ := x2
   have HX2 := hide hx2
   clear hx2
   cases d2 with
   | true =>
    go_wp2_with fail
    refine (unhide HC).mono ?_
    rintro e w8 ⟨rfl, t8, m8⟩
    have I8 := hide ((unhide I5).turn (unhide HQ) (unhide HSS) t8 m8)
    clear k0 k1 k2 k3 l0 l1 kl ll r0 r1 r2 rf rl nk t8 m8 HC
    have k0 : w8.cell? ⟨kb, 0, none⟩ = some (.int .i64 0) := (unhide I8).kept.cell 0
    have k1 : w8.cell? ⟨kb, 1, none⟩ = some (.int .i64 s0) := (unhide I8).kept.cell 1
    have k2 : w8.cell? ⟨kb, 2, none⟩ = some (.slice a0 n0 c0) := (unhide I8).kept.cell 2
    have k3 : w8.cell? ⟨kb, 3, none⟩ = some (.bool al0) := (unhide I8).kept.cell 3
    have l0 : w8.cell? ⟨lb, 0, none⟩ = some (.int .i64 1) := (unhide I8).left.cell 0
    have l1 : w8.cell? ⟨lb, 1, none⟩ = some (.int .i64 s1) := (unhide I8).left.cell 1
    have kl := (unhide I8).kept.lt
    have ll := (unhide I8).left.lt
    have r0 : w8.cell? ⟨w.heap.size, 0, none⟩ = some (.pointer none) := (unhide I8).res.cell 0
    have r1 : w8.cell? ⟨w.heap.size, 1, none⟩ = some (.int .i64 0) := (unhide I8).res.cell 1
    have r2 : w8.cell? ⟨w.heap.size, 2, none⟩ = some (.bool false) := (unhide I8).res.cell 2
    have rf := (unhide I8).res.frozen
    have rl := (unhide I8).res.lt
    have nk : kb ≠ w.heap.size := by have := (unhide I8).ge; omega
    have HEQ := hide (show openP T 0 s0 s1 = (0, T2) from by unfold openP; simp [hk, hl, unhide HX2])
    go_wp2_with fail
    go_region
    all_goals go_wp2
    all_goals
     obtain ⟨z1, z2, z3, z4⟩ := OpI.fin (x := .pointer (some ⟨tb, 0, none⟩)) (y := .int .i64 0) (z := .bool (!al0)) (unhide HQ) (unhide HQM) (unhide I8) (unhide HSS)
     refine post_w (fun W => Has W w.heap.size #[.pointer (some ⟨tb, 0, none⟩), .int .i64 0, .bool (!al0)] 115 ∧ TapeH W S tb T2 ∧ Mod S w W ∧ Q w.heap.size W.heap.size (.slice a0 n0 c0) W) ⟨z1.dr, z2.dr, z3.drew, (unhide HQ) _ _ _ _ _ z4 (Mod.refl _ _).drew⟩ ?_
     rintro w7 ⟨h7, t7, m7, q7⟩
     have d0 : w7.cell? ⟨w.heap.size, 0, none⟩ = some (.pointer (some ⟨tb, 0, none⟩)) := h7.cell 0
     have d1 : w7.cell? ⟨w.heap.size, 1, none⟩ = some (.int .i64 0) := h7.cell 1
     have d2 : w7.cell? ⟨w.heap.size, 2, none⟩ = some (.bool (!al0)) := h7.cell 2
     refine bodyPost_ret (by simp [results, Try.results53, go_sem, d0, d1, d2]; try rfl) rfl ?_
     rw [unhide HEQ]
     exact ⟨t7, m7, fun _ => ⟨a0, c0, rfl, q7⟩, fun e => absurd rfl e⟩
   | false =>
    go_wp2_with fail
    refine (unhide HC).mono ?_
    rintro e w8 ⟨rfl, t8, m8⟩
    have I8 := hide ((unhide I5).turn (unhide HQ) (unhide HSS) t8 m8)
    clear k0 k1 k2 k3 l0 l1 kl ll r0 r1 r2 rf rl nk t8 m8 HC
    have k0 : w8.cell? ⟨kb, 0, none⟩ = some (.int .i64 0) := (unhide I8).kept.cell 0
    have k1 : w8.cell? ⟨kb, 1, none⟩ = some (.int .i64 s0) := (unhide I8).kept.cell 1
    have k2 : w8.cell? ⟨kb, 2, none⟩ = some (.slice a0 n0 c0) := (unhide I8).kept.cell 2
    have k3 : w8.cell? ⟨kb, 3, none⟩ = some (.bool al0) := (unhide I8).kept.cell 3
    have l0 : w8.cell? ⟨lb, 0, none⟩ = some (.int .i64 1) := (unhide I8).left.cell 0
    have l1 : w8.cell? ⟨lb, 1, none⟩ = some (.int .i64 s1) := (unhide I8).left.cell 1
    have kl := (unhide I8).kept.lt
    have ll := (unhide I8).left.lt
    have r0 : w8.cell? ⟨w.heap.size, 0, none⟩ = some (.pointer none) := (unhide I8).res.cell 0
    have r1 : w8.cell? ⟨w.heap.size, 1, none⟩ = some (.int .i64 0) := (unhide I8).res.cell 1
    have r2 : w8.cell? ⟨w.heap.size, 2, none⟩ = some (.bool false) := (unhide I8).res.cell 2
    have rf := (unhide I8).res.frozen
    have rl := (unhide I8).res.lt
    have nk : kb ≠ w.heap.size := by have := (unhide I8).ge; omega
    have HEQ := hide (show openP T 0 s0 s1 = (16, T2) from by unfold openP; simp [hk, hl, unhide HX2])
    go_wp2
    obtain ⟨z1, z2, z3, z4⟩ := OpI.fin (x := .pointer none) (y := .int .i64 0) (z := .bool false) (unhide HQ) (unhide HQM) (unhide I8) (unhide HSS)
    refine post_w (fun W => Has W w.heap.size #[.pointer none, .int .i64 0, .bool false] 115 ∧ TapeH W S tb T2 ∧ Mod S w W) ⟨z1, z2, z3⟩ ?_
    rintro w7 ⟨h7, t7, m7⟩
    have d0 : w7.cell? ⟨w.heap.size, 0, none⟩ = some (.pointer none) := h7.cell 0
    have d1 : w7.cell? ⟨w.heap.size, 1, none⟩ = some (.int .i64 0) := h7.cell 1
    have d2 : w7.cell? ⟨w.heap.size, 2, none⟩ = some (.bool false) := h7.cell 2
    refine bodyPost_ret (by simp [results, Try.results53, go_sem, d0, d1, d2]; try rfl) rfl ?_
    rw [unhide HEQ]
    exact ⟨t7, m7, fun e => absurd e (by show ¬ (16 : Int) = 0; omega), fun _ => rfl⟩
  ·have hli : ¬ (s1 : Int) > 0 := by omega
   have HEQ := hide (show openP T 0 s0 s1 = (0, T) from by unfold openP; simp [hk, hl])
   go_wp2_with fail
   go_region
   all_goals go_wp2
   all_goals
    obtain ⟨z1, z2, z3, z4⟩ := OpI.fin (x := .pointer (some ⟨tb, 0, none⟩)) (y := .int .i64 0) (z := .bool (!al0)) (unhide HQ) (unhide HQM) (unhide I5) (unhide HSS)
    refine post_w (fun W => Has W w.heap.size #[.pointer (some ⟨tb, 0, none⟩), .int .i64 0, .bool (!al0)] 115 ∧ TapeH W S tb T ∧ Mod S w W ∧ Q w.heap.size W.heap.size (.slice a0 n0 c0) W) ⟨z1.dr, z2.dr, z3.drew, (unhide HQ) _ _ _ _ _ z4 (Mod.refl _ _).drew⟩ ?_
    rintro w7 ⟨h7, t7, m7, q7⟩
    have d0 : w7.cell? ⟨w.heap.size, 0, none⟩ = some (.pointer (some ⟨tb, 0, none⟩)) := h7.cell 0
    have d1 : w7.cell? ⟨w.heap.size, 1, none⟩ = some (.int .i64 0) := h7.cell 1
    have d2 : w7.cell? ⟨w.heap.size, 2, none⟩ = some (.bool (!al0)) := h7.cell 2
    refine bodyPost_ret (by simp [results, Try.results53, go_sem, d0, d1, d2]; try rfl) rfl ?_
    rw [unhide HEQ]
    exact ⟨t7, m7, fun _ => ⟨a0, c0, rfl, q7⟩, fun e => absurd rfl e⟩
theorem sopen_1 {w : World} {S : Nat → Prop} {tb : Nat} {T : TP} (ht : TapeH w S tb T) (hS : ∀ k, S k → k < w.heap.size) (s0 s1 n0 n1 : Nat) (al0 al1 : Bool) (Q : Nat → Nat → Value → World → Prop)
  (h0 : ∀ W, Mod No w W → Calls Try.prog 71 #[.pointer (some ⟨tb, 0, none⟩), .int .i64 0] W fun e w' => ∃ a c, e = .returned (foundV 0 s0 (.slice a n0 c) al0) ∧ Q W.heap.size w'.heap.size (.slice a n0 c) w' ∧ Mod No W w')
  (h1 : ∀ W, Mod No w W → Calls Try.prog 71 #[.pointer (some ⟨tb, 0, none⟩), .int .i64 1] W fun e w' => ∃ a c, e = .returned (foundV 1 s1 (.slice a n1 c) al1) ∧ Q W.heap.size w'.heap.size (.slice a n1 c) w' ∧ Mod No W w')
  (hQ : ∀ l h v W W', Q l h v W → Mod (fun k => k < l ∨ h ≤ k) W W' → Q l h v W') (hQm : ∀ l l' h h' v W, l ≤ l' → h' ≤ h → Q l' h' v W → Q l h v W) (hb : betP n1 n0 s1 s0 = true) :
  Calls Try.prog 53 #[.pointer (some ⟨tb, 0, none⟩)] w fun e w' =>
   TapeH w' S tb (openP T 1 s1 s0).2 ∧ Mod S w w' ∧
   ((openP T 1 s1 s0).1 = 0 → ∃ a c, e = .returned (.tuple #[.agg #[.pointer (some ⟨tb, 0, none⟩), .int .i64 (1 : Nat), .bool (!al1)], .slice a n1 c, .int .i64 0]) ∧ Q w.heap.size w'.heap.size (.slice a n1 c) w') ∧
   ((openP T 1 s1 s0).1 ≠ 0 → e = .returned (.tuple #[.agg #[.pointer none, .int .i64 0, .bool false], .slice none 0 0, .int .i64 16])) := by
 have m0 : Mod No w (w.alloc (.cells #[.pointer none, .int .i64 0, .bool false] 115)) := (Mod.refl _ _).alloc _
 have HF0 := hide (h0 _ m0)
 have HF1 := hide h1
 have B0 := hide (Has.new w #[.pointer none, .int .i64 0, .bool false] 115)
 have M0 := hide m0
 have HT := hide ht
 have HB := hide hb
 have HQ := hide hQ
 have HQM := hide hQm
 have HSS := hide hS
 have HBET := hide fun W (i j : Int) (s t n m c d : Nat) (a b : Option Addr) (x y : Bool) => better_any W i j s t n m c d a b x y
 unfold foundV at *
 clear h0 h1 m0 ht hQ hQm hS hb
 go_enter Try.func53, Try.ntmps53
 go_wp2_with fail
 refine (unhide HF0).mono ?_
 rintro e w1 ⟨a0, c0, rfl, q0, m1⟩
 have M1 := hide ((unhide M0).trans m1)
 have M01 := hide m1
 have HF1 := hide ((unhide HF1) w1 (unhide M1))
 have B1 := hide (m1.has (unhide B0) (fun x => x))
 have Q1 := hide q0
 clear q0 m1 HF0 B0
 go_wp2_with fail
 refine (unhide HF1).mono ?_
 rintro e w2 ⟨a1, c1, rfl, q1, m2⟩
 have M2 := hide ((unhide M1).trans m2)
 have B2 := hide (m2.has (unhide B1) (fun x => x))
 have Q2 := hide q1
 have Q12 := hide m2
 clear q1 m2 HF1 B1
 go_upto_region 2 with fail
 have m3 : Mod No w2 ((w2.alloc (.cells #[.int .i64 0, .int .i64 s0, .slice a0 n0 c0, .bool al0] 155)).alloc (.cells #[.int .i64 1, .int .i64 s1, .slice a1 n1 c1, .bool al1] 155)) := ((Mod.refl _ w2).alloc _).alloc _
 have I3 := hide (show OpI w ((w2.alloc (.cells #[.int .i64 0, .int .i64 s0, .slice a0 n0 c0, .bool al0] 155)).alloc (.cells #[.int .i64 1, .int .i64 s1, .slice a1 n1 c1, .bool al1] 155)) S tb w.heap.size w2.heap.size (w2.heap.size + 1) 0 1 s0 s1 n0 (.slice a0 n0 c0) (.slice a1 n1 c1) al0 al1 T Q from
  ⟨m3.has (unhide B2) (fun x => x), (Has.new w2 _ _).alloc _, Has.new2' _ _ _ _, (unhide HT).mod0 ((unhide M2).trans m3), (unhide HQM) _ _ _ _ _ _ (Nat.le_of_eq (World.size_alloc _ _).symm) (unhide Q12).size ((unhide HQ) _ _ _ _ _ (unhide Q1) (((unhide Q12).trans m3).mono (fun _ _ x => x.elim))), ((unhide M2).trans m3).mono (fun _ _ x => x.elim), rfl, (unhide B2).lt, Nat.lt_succ_self _⟩)
 have Q3 := hide ((unhide HQM) (w.heap.size + 1) _ w2.heap.size _ _ _ (Nat.le_trans (Nat.le_of_eq (World.size_alloc _ _).symm) (unhide M01).size) (Nat.le_refl _) ((unhide HQ) _ _ _ _ _ (unhide Q2) (m3.mono (fun _ _ x => x.elim))))
 have LT := hide (show w.heap.size < w2.heap.size from (unhide B2).lt)
 clear m3
 generalize (w2.alloc (.cells #[.int .i64 0, .int .i64 s0, .slice a0 n0 c0, .bool al0] 155)).alloc (.cells #[.int .i64 1, .int .i64 s1, .slice a1 n1 c1, .bool al1] 155) = w3 at *
 generalize w2.heap.size + 1 = lb at *
 generalize hkb : w2.heap.size = kb at *
 clear hkb M2 Q12 Q2 Q1 B2 M1 M0 M01
 have k0 : w3.cell? ⟨kb, 0, none⟩ = some (.int .i64 0) := (unhide I3).kept.cell 0
 have k1 : w3.cell? ⟨kb, 1, none⟩ = some (.int .i64 s0) := (unhide I3).kept.cell 1
 have k2 : w3.cell? ⟨kb, 2, none⟩ = some (.slice a0 n0 c0) := (unhide I3).kept.cell 2
 have k3 : w3.cell? ⟨kb, 3, none⟩ = some (.bool al0) := (unhide I3).kept.cell 3
 have l0 : w3.cell? ⟨lb, 0, none⟩ = some (.int .i64 1) := (unhide I3).left.cell 0
 have l1 : w3.cell? ⟨lb, 1, none⟩ = some (.int .i64 s1) := (unhide I3).left.cell 1
 have l2 : w3.cell? ⟨lb, 2, none⟩ = some (.slice a1 n1 c1) := (unhide I3).left.cell 2
 have l3 : w3.cell? ⟨lb, 3, none⟩ = some (.bool al1) := (unhide I3).left.cell 3
 have kf := (unhide I3).kept.frozen
 have lf := (unhide I3).left.frozen
 have kl := (unhide I3).kept.lt
 have ll := (unhide I3).left.lt
 have HBT := hide (better_any w3 1 0 s1 s0 n1 n0 c1 c0 a1 a0 al1 al0)
 unfold foundV at HBT
 rw [unhide HB] at HBT
 go_wp2_with fail
 refine (unhide HBT).mono ?_
 rintro e w4 ⟨rfl, m4⟩
 have I4 := hide ((unhide I3).still (unhide HQ) m4)
 have Q4 := hide ((unhide HQ) _ _ _ _ _ (unhide Q3) (m4.mono (fun _ _ x => x.elim)))
 clear k0 k1 k2 k3 l0 l1 l2 l3 kf lf kl ll m4 I3 Q3 HBT
 have k0 : w4.cell? ⟨kb, 0, none⟩ = some (.int .i64 0) := (unhide I4).kept.cell 0
 have k1 : w4.cell? ⟨kb, 1, none⟩ = some (.int .i64 s0) := (unhide I4).kept.cell 1
 have k2 : w4.cell? ⟨kb, 2, none⟩ = some (.slice a0 n0 c0) := (unhide I4).kept.cell 2
 have k3 : w4.cell? ⟨kb, 3, none⟩ = some (.bool al0) := (unhide I4).kept.cell 3
 have l0 : w4.cell? ⟨lb, 0, none⟩ = some (.int .i64 1) := (unhide I4).left.cell 0
 have l1 : w4.cell? ⟨lb, 1, none⟩ = some (.int .i64 s1) := (unhide I4).left.cell 1
 have l2 : w4.cell? ⟨lb, 2, none⟩ = some (.slice a1 n1 c1) := (unhide I4).left.cell 2
 have l3 : w4.cell? ⟨lb, 3, none⟩ = some (.bool al1) := (unhide I4).left.cell 3
 have kf := (unhide I4).kept.frozen
 have lf := (unhide I4).left.frozen
 have kl := (unhide I4).kept.lt
 have ll := (unhide I4).left.lt
 have ne1 : kb ≠ lb := by have := (unhide I4).ge; omega
 go_upto_region 4 with fail
 have I5 := hide (OpI.sw (n1 := n1) (unhide HQ) (unhide HQM) (unhide I4) (by
  have hs := unhide HSS
  have := (unhide I4).ge
  exact ⟨fun e => by have := hs _ e; omega, fun e => by have := hs _ e; omega⟩) (unhide Q4))
 clear k0 k1 k2 k3 l0 l1 l2 l3 kf lf kl ll I4 Q4
 rw [show ((1 : Nat) : Int) = 1 from rfl, show ((0 : Nat) : Int) = 0 from rfl] at I5
 generalize ((((((((w4.setCell ⟨kb, 0, none⟩ (.int .i64 1)).setCell ⟨kb, 1, none⟩ (.int .i64 s1)).setCell ⟨kb, 2, none⟩ (.slice a1 n1 c1)).setCell ⟨kb, 3, none⟩ (.bool al1)).setCell ⟨lb, 0, none⟩ (.int .i64 0)).setCell ⟨lb, 1, none⟩ (.int .i64 s0)).setCell ⟨lb, 2, none⟩ (.slice a0 n0 c0)).setCell ⟨lb, 3, none⟩ (.bool al0)) = w5 at *
 clear HT HF1 HBET
 by_cases hk : 0 < s1
 ·have hki : (s1 : Int) > 0 := by omega
  have HS := hide (sync_t (unhide I5).tape 1 (by omega))
  obtain ⟨x1, hx1⟩ : ∃ x, syncP T 1 = x := ⟨_, rfl⟩
  rw [hx1] at HS
  obtain ⟨d1, T1⟩ := x1
  have HX1 := hide hx1
  clear hx1
  cases d1 with
  | true =>
   have k0 : w5.cell? ⟨kb, 0, none⟩ = some (.int .i64 1) := (unhide I5).kept.cell 0
   have k1 : w5.cell? ⟨kb, 1, none⟩ = some (.int .i64 s1) := (unhide I5).kept.cell 1
   have k2 : w5.cell? ⟨kb, 2, none⟩ = some (.slice a1 n1 c1) := (unhide I5).kept.cell 2
   have k3 : w5.cell? ⟨kb, 3, none⟩ = some (.bool al1) := (unhide I5).kept.cell 3
   have l0 : w5.cell? ⟨lb, 0, none⟩ = some (.int .i64 0) := (unhide I5).left.cell 0
   have l1 : w5.cell? ⟨lb, 1, none⟩ = some (.int .i64 s0) := (unhide I5).left.cell 1
   have kl := (unhide I5).kept.lt
   have ll := (unhide I5).left.lt
   have r0 : w5.cell? ⟨w.heap.size, 0, none⟩ = some (.pointer none) := (unhide I5).res.cell 0
   have r1 : w5.cell? ⟨w.heap.size, 1, none⟩ = some (.int .i64 0) := (unhide I5).res.cell 1
   have r2 : w5.cell? ⟨w.heap.size, 2, none⟩ = some (.bool false) := (unhide I5).res.cell 2
   have rf := (unhide I5).res.frozen
   have rl := (unhide I5).res.lt
   have nk : kb ≠ w.heap.size := by have := (unhide I5).ge; omega
   go_wp2_with fail
   refine (unhide HS).mono ?_
   rintro e w6 ⟨rfl, t6, m6⟩
   have I6 := hide ((unhide I5).turn (unhide HQ) (unhide HSS) t6 m6)
   clear k0 k1 k2 k3 l0 l1 kl ll r0 r1 r2 rf rl nk t6 m6 HS
   have k0 : w6.cell? ⟨kb, 0, none⟩ = some (.int .i64 1) := (unhide I6).kept.cell 0
   have k1 : w6.cell? ⟨kb, 1, none⟩ = some (.int .i64 s1) := (unhide I6).kept.cell 1
   have k2 : w6.cell? ⟨kb, 2, none⟩ = some (.slice a1 n1 c1) := (unhide I6).kept.cell 2
   have k3 : w6.cell? ⟨kb, 3, none⟩ = some (.bool al1) := (unhide I6).kept.cell 3
   have l0 : w6.cell? ⟨lb, 0, none⟩ = some (.int .i64 0) := (unhide I6).left.cell 0
   have l1 : w6.cell? ⟨lb, 1, none⟩ = some (.int .i64 s0) := (unhide I6).left.cell 1
   have kl := (unhide I6).kept.lt
   have ll := (unhide I6).left.lt
   have r0 : w6.cell? ⟨w.heap.size, 0, none⟩ = some (.pointer none) := (unhide I6).res.cell 0
   have r1 : w6.cell? ⟨w.heap.size, 1, none⟩ = some (.int .i64 0) := (unhide I6).res.cell 1
   have r2 : w6.cell? ⟨w.heap.size, 2, none⟩ = some (.bool false) := (unhide I6).res.cell 2
   have rf := (unhide I6).res.frozen
   have rl := (unhide I6).res.lt
   have nk : kb ≠ w.heap.size := by have := (unhide I6).ge; omega
   by_cases hl : 0 < s0
   ·have hli : (s0 : Int) > 0 := by omega
    have HC := hide (clear_t (unhide I6).tape 0 (by omega))
    obtain ⟨x2, hx2⟩ : ∃ x, clearP T1 0 = x := ⟨_, rfl⟩
    rw [hx2] at HC
    obtain ⟨d2, T2⟩ := x2
    have HX2 := hide hx2
    clear hx2
    cases d2 with
    | true =>
     go_wp2_with fail
     refine (unhide HC).mono ?_
     rintro e w8 ⟨rfl, t8, m8⟩
     have I8 := hide ((unhide I6).turn (unhide HQ) (unhide HSS) t8 m8)
     clear k0 k1 k2 k3 l0 l1 kl ll r0 r1 r2 rf rl nk t8 m8 HC
     have k0 : w8.cell? ⟨kb, 0, none⟩ = some (.int .i64 1) := (unhide I8).kept.cell 0
     have k1 : w8.cell? ⟨kb, 1, none⟩ = some (.int .i64 s1) := (unhide I8).kept.cell 1
     have k2 : w8.cell? ⟨kb, 2, none⟩ = some (.slice a1 n1 c1) := (unhide I8).kept.cell 2
     have k3 : w8.cell? ⟨kb, 3, none⟩ = some (.bool al1) := (unhide I8).kept.cell 3
     have l0 : w8.cell? ⟨lb, 0, none⟩ = some (.int .i64 0) := (unhide I8).left.cell 0
     have l1 : w8.cell? ⟨lb, 1, none⟩ = some (.int .i64 s0) := (unhide I8).left.cell 1
     have kl := (unhide I8).kept.lt
     have ll := (unhide I8).left.lt
     have r0 : w8.cell? ⟨w.heap.size, 0, none⟩ = some (.pointer none) := (unhide I8).res.cell 0
     have r1 : w8.cell? ⟨w.heap.size, 1, none⟩ = some (.int .i64 0) := (unhide I8).res.cell 1
     have r2 : w8.cell? ⟨w.heap.size, 2, none⟩ = some (.bool false) := (unhide I8).res.cell 2
     have rf := (unhide I8).res.frozen
     have rl := (unhide I8).res.lt
     have nk : kb ≠ w.heap.size := by have := (unhide I8).ge; omega
     have HEQ := hide (show openP T 1 s1 s0 = (0, T2) from by unfold openP; simp [hk, unhide HX1, hl, unhide HX2])
     go_wp2_with fail
     go_region
     all_goals go_wp2
     all_goals
      obtain ⟨z1, z2, z3, z4⟩ := OpI.fin (x := .pointer (some ⟨tb, 0, none⟩)) (y := .int .i64 1) (z := .bool (!al1)) (unhide HQ) (unhide HQM) (unhide I8) (unhide HSS)
      refine post_w (fun W => Has W w.heap.size #[.pointer (some ⟨tb, 0, none⟩), .int .i64 1, .bool (!al1)] 115 ∧ TapeH W S tb T2 ∧ Mod S w W ∧ Q w.heap.size W.heap.size (.slice a1 n1 c1) W) ⟨z1.dr, z2.dr, z3.drew, (unhide HQ) _ _ _ _ _ z4 (Mod.refl _ _).drew⟩ ?_
      rintro w7 ⟨h7, t7, m7, q7⟩
      have d0 : w7.cell? ⟨w.heap.size, 0, none⟩ = some (.pointer (some ⟨tb, 0, none⟩)) := h7.cell 0
      have d1 : w7.cell? ⟨w.heap.size, 1, none⟩ = some (.int .i64 1) := h7.cell 1
      have d2 : w7.cell? ⟨w.heap.size, 2, none⟩ = some (.bool (!al1)) := h7.cell 2
      refine bodyPost_ret (by simp [results, Try.results53, go_sem, d0, d1, d2]; try rfl) rfl ?_
      rw [unhide HEQ]
      exact ⟨t7, m7, fun _ => ⟨a1, c1, rfl, q7⟩, fun e => absurd rfl e⟩
    | false =>
     go_wp2_with fail
     refine (unhide HC).mono ?_
     rintro e w8 ⟨rfl, t8, m8⟩
     have I8 := hide ((unhide I6).turn (unhide HQ) (unhide HSS) t8 m8)
     clear k0 k1 k2 k3 l0 l1 kl ll r0 r1 r2 rf rl nk t8 m8 HC
     have k0 : w8.cell? ⟨kb, 0, none⟩ = some (.int .i64 1) := (unhide I8).kept.cell 0
     have k1 : w8.cell? ⟨kb, 1, none⟩ = some (.int .i64 s1) := (unhide I8).kept.cell 1
     have k2 : w8.cell? ⟨kb, 2, none⟩ = some (.slice a1 n1 c1) := (unhide I8).kept.cell 2
     have k3 : w8.cell? ⟨kb, 3, none⟩ = some (.bool al1) := (unhide I8).kept.cell 3
     have l0 : w8.cell? ⟨lb, 0, none⟩ = some (.int .i64 0) := (unhide I8).left.cell 0
     have l1 : w8.cell? ⟨lb, 1, none⟩ = some (.int .i64 s0) := (unhide I8).left.cell 1
     have kl := (unhide I8).kept.lt
     have ll := (unhide I8).left.lt
     have r0 : w8.cell? ⟨w.heap.size, 0, none⟩ = some (.pointer none) := (unhide I8).res.cell 0
     have r1 : w8.cell? ⟨w.heap.size, 1, none⟩ = some (.int .i64 0) := (unhide I8).res.cell 1
     have r2 : w8.cell? ⟨w.heap.size, 2, none⟩ = some (.bool false) := (unhide I8).res.cell 2
     have rf := (unhide I8).res.frozen
     have rl := (unhide I8).res.lt
     have nk : kb ≠ w.heap.size := by have := (unhide I8).ge; omega
     have HEQ := hide (show openP T 1 s1 s0 = (16, T2) from by unfold openP; simp [hk, unhide HX1, hl, unhide HX2])
     go_wp2
     obtain ⟨z1, z2, z3, z4⟩ := OpI.fin (x := .pointer none) (y := .int .i64 0) (z := .bool false) (unhide HQ) (unhide HQM) (unhide I8) (unhide HSS)
     refine post_w (fun W => Has W w.heap.size #[.pointer none, .int .i64 0, .bool false] 115 ∧ TapeH W S tb T2 ∧ Mod S w W) ⟨z1, z2, z3⟩ ?_
     rintro w7 ⟨h7, t7, m7⟩
     have d0 : w7.cell? ⟨w.heap.size, 0, none⟩ = some (.pointer none) := h7.cell 0
     have d1 : w7.cell? ⟨w.heap.size, 1, none⟩ = some (.int .i64 0) := h7.cell 1
     have d2 : w7.cell? ⟨w.heap.size, 2, none⟩ = some (.bool false) := h7.cell 2
     refine bodyPost_ret (by simp [results, Try.results53, go_sem, d0, d1, d2]; try rfl) rfl ?_
     rw [unhide HEQ]
     exact ⟨t7, m7, fun e => absurd e (by show ¬ (16 : Int) = 0; omega), fun _ => rfl⟩
   ·have hli : ¬ (s0 : Int) > 0 := by omega
    have HEQ := hide (show openP T 1 s1 s0 = (0, T1) from by unfold openP; simp [hk, unhide HX1, hl])
    go_wp2_with fail
    go_region
    all_goals go_wp2
    all_goals
     obtain ⟨z1, z2, z3, z4⟩ := OpI.fin (x := .pointer (some ⟨tb, 0, none⟩)) (y := .int .i64 1) (z := .bool (!al1)) (unhide HQ) (unhide HQM) (unhide I6) (unhide HSS)
     refine post_w (fun W => Has W w.heap.size #[.pointer (some ⟨tb, 0, none⟩), .int .i64 1, .bool (!al1)] 115 ∧ TapeH W S tb T1 ∧ Mod S w W ∧ Q w.heap.size W.heap.size (.slice a1 n1 c1) W) ⟨z1.dr, z2.dr, z3.drew, (unhide HQ) _ _ _ _ _ z4 (Mod.refl _ _).drew⟩ ?_
     rintro w7 ⟨h7, t7, m7, q7⟩
     have d0 : w7.cell? ⟨w.heap.size, 0, none⟩ = some (.pointer (some ⟨tb, 0, none⟩)) := h7.cell 0
     have d1 : w7.cell? ⟨w.heap.size, 1, none⟩ = some (.int .i64 1) := h7.cell 1
     have d2 : w7.cell? ⟨w.heap.size, 2, none⟩ = some (.bool (!al1)) := h7.cell 2
     refine bodyPost_ret (by simp [results, Try.results53, go_sem, d0, d1, d2]; try rfl) rfl ?_
     rw [unhide HEQ]
     exact ⟨t7, m7, fun _ => ⟨a1, c1, rfl, q7⟩, fun e => absurd rfl e⟩
  | false =>
   have k0 : w5.cell? ⟨kb, 0, none⟩ = some (.int .i64 1) := (unhide I5).kept.cell 0
   have k1 : w5.cell? ⟨kb, 1, none⟩ = some (.int .i64 s1) := (unhide I5).kept.cell 1
   have k2 : w5.cell? ⟨kb, 2, none⟩ = some (.slice a1 n1 c1) := (unhide I5).kept.cell 2
   have k3 : w5.cell? ⟨kb, 3, none⟩ = some (.bool al1) := (unhide I5).kept.cell 3
   have l0 : w5.cell? ⟨lb, 0, none⟩ = some (.int .i64 0) := (unhide I5).left.cell 0
   have l1 : w5.cell? ⟨lb, 1, none⟩ = some (.int .i64 s0) := (unhide I5).left.cell 1
   have kl := (unhide I5).kept.lt
   have ll := (unhide I5).left.lt
   have r0 : w5.cell? ⟨w.heap.size, 0, none⟩ = some (.pointer none) := (unhide I5).res.cell 0
   have r1 : w5.cell? ⟨w.heap.size, 1, none⟩ = some (.int .i64 0) := (unhide I5).res.cell 1
   have r2 : w5.cell? ⟨w.heap.size, 2, none⟩ = some (.bool false) := (unhide I5).res.cell 2
   have rf := (unhide I5).res.frozen
   have rl := (unhide I5).res.lt
   have nk : kb ≠ w.heap.size := by have := (unhide I5).ge; omega
   go_wp2_with fail
   refine (unhide HS).mono ?_
   rintro e w6 ⟨rfl, t6, m6⟩
   have I6 := hide ((unhide I5).turn (unhide HQ) (unhide HSS) t6 m6)
   clear k0 k1 k2 k3 l0 l1 kl ll r0 r1 r2 rf rl nk t6 m6 HS
   have k0 : w6.cell? ⟨kb, 0, none⟩ = some (.int .i64 1) := (unhide I6).kept.cell 0
   have k1 : w6.cell? ⟨kb, 1, none⟩ = some (.int .i64 s1) := (unhide I6).kept.cell 1
   have k2 : w6.cell? ⟨kb, 2, none⟩ = some (.slice a1 n1 c1) := (unhide I6).kept.cell 2
   have k3 : w6.cell? ⟨kb, 3, none⟩ = some (.bool al1) := (unhide I6).kept.cell 3
   have l0 : w6.cell? ⟨lb, 0, none⟩ = some (.int .i64 0) := (unhide I6).left.cell 0
   have l1 : w6.cell? ⟨lb, 1, none⟩ = some (.int .i64 s0) := (unhide I6).left.cell 1
   have kl := (unhide I6).kept.lt
   have ll := (unhide I6).left.lt
   have r0 : w6.cell? ⟨w.heap.size, 0, none⟩ = some (.pointer none) := (unhide I6).res.cell 0
   have r1 : w6.cell? ⟨w.heap.size, 1, none⟩ = some (.int .i64 0) := (unhide I6).res.cell 1
   have r2 : w6.cell? ⟨w.heap.size, 2, none⟩ = some (.bool false) := (unhide I6).res.cell 2
   have rf := (unhide I6).res.frozen
   have rl := (unhide I6).res.lt
   have nk : kb ≠ w.heap.size := by have := (unhide I6).ge; omega
   have HEQ := hide (show openP T 1 s1 s0 = (16, T1) from by unfold openP; simp [hk, unhide HX1])
   go_wp2
   obtain ⟨z1, z2, z3, z4⟩ := OpI.fin (x := .pointer none) (y := .int .i64 0) (z := .bool false) (unhide HQ) (unhide HQM) (unhide I6) (unhide HSS)
   refine post_w (fun W => Has W w.heap.size #[.pointer none, .int .i64 0, .bool false] 115 ∧ TapeH W S tb T1 ∧ Mod S w W) ⟨z1, z2, z3⟩ ?_
   rintro w7 ⟨h7, t7, m7⟩
   have d0 : w7.cell? ⟨w.heap.size, 0, none⟩ = some (.pointer none) := h7.cell 0
   have d1 : w7.cell? ⟨w.heap.size, 1, none⟩ = some (.int .i64 0) := h7.cell 1
   have d2 : w7.cell? ⟨w.heap.size, 2, none⟩ = some (.bool false) := h7.cell 2
   refine bodyPost_ret (by simp [results, Try.results53, go_sem, d0, d1, d2]; try rfl) rfl ?_
   rw [unhide HEQ]
   exact ⟨t7, m7, fun e => absurd e (by show ¬ (16 : Int) = 0; omega), fun _ => rfl⟩
 ·have hki : ¬ (s1 : Int) > 0 := by omega
  have k0 : w5.cell? ⟨kb, 0, none⟩ = some (.int .i64 1) := (unhide I5).kept.cell 0
  have k1 : w5.cell? ⟨kb, 1, none⟩ = some (.int .i64 s1) := (unhide I5).kept.cell 1
  have k2 : w5.cell? ⟨kb, 2, none⟩ = some (.slice a1 n1 c1) := (unhide I5).kept.cell 2
  have k3 : w5.cell? ⟨kb, 3, none⟩ = some (.bool al1) := (unhide I5).kept.cell 3
  have l0 : w5.cell? ⟨lb, 0, none⟩ = some (.int .i64 0) := (unhide I5).left.cell 0
  have l1 : w5.cell? ⟨lb, 1, none⟩ = some (.int .i64 s0) := (unhide I5).left.cell 1
  have kl := (unhide I5).kept.lt
  have ll := (unhide I5).left.lt
  have r0 : w5.cell? ⟨w.heap.size, 0, none⟩ = some (.pointer none) := (unhide I5).res.cell 0
  have r1 : w5.cell? ⟨w.heap.size, 1, none⟩ = some (.int .i64 0) := (unhide I5).res.cell 1
  have r2 : w5.cell? ⟨w.heap.size, 2, none⟩ = some (.bool false) := (unhide I5).res.cell 2
  have rf := (unhide I5).res.frozen
  have rl := (unhide I5).res.lt
  have nk : kb ≠ w.heap.size := by have := (unhide I5).ge; omega
  by_cases hl : 0 < s0
  ·have hli : (s0 : Int) > 0 := by omega
   have HC := hide (clear_t (unhide I5).tape 0 (by omega))
   obtain ⟨x2, hx2⟩ : ∃ x, clearP T 0 = x := ⟨_, rfl⟩
   rw [hx2] at HC
   obtain ⟨d2, T2⟩ := x2
   have HX2 := hide hx2
   clear hx2
   cases d2 with
   | true =>
    go_wp2_with fail
    refine (unhide HC).mono ?_
    rintro e w8 ⟨rfl, t8, m8⟩
    have I8 := hide ((unhide I5).turn (unhide HQ) (unhide HSS) t8 m8)
    clear k0 k1 k2 k3 l0 l1 kl ll r0 r1 r2 rf rl nk t8 m8 HC
    have k0 : w8.cell? ⟨kb, 0, none⟩ = some (.int .i64 1) := (unhide I8).kept.cell 0
    have k1 : w8.cell? ⟨kb, 1, none⟩ = some (.int .i64 s1) := (unhide I8).kept.cell 1
    have k2 : w8.cell? ⟨kb, 2, none⟩ = some (.slice a1 n1 c1) := (unhide I8).kept.cell 2
    have k3 : w8.cell? ⟨kb, 3, none⟩ = some (.bool al1) := (unhide I8).kept.cell 3
    have l0 : w8.cell? ⟨lb, 0, none⟩ = some (.int .i64 0) := (unhide I8).left.cell 0
    have l1 : w8.cell? ⟨lb, 1, none⟩ = some (.int .i64 s0) := (unhide I8).left.cell 1
    have kl := (unhide I8).kept.lt
    have ll := (unhide I8).left.lt
    have r0 : w8.cell? ⟨w.heap.size, 0, none⟩ = some (.pointer none) := (unhide I8).res.cell 0
    have r1 : w8.cell? ⟨w.heap.size, 1, none⟩ = some (.int .i64 0) := (unhide I8).res.cell 1
    have r2 : w8.cell? ⟨w.heap.size, 2, none⟩ = some (.bool false) := (unhide I8).res.cell 2
    have rf := (unhide I8).res.frozen
    have rl := (unhide I8).res.lt
    have nk : kb ≠ w.heap.size := by have := (unhide I8).ge; omega
    have HEQ := hide (show openP T 1 s1 s0 = (0, T2) from by unfold openP; simp [hk, hl, unhide HX2])
    go_wp2_with fail
    go_region
    all_goals go_wp2
    all_goals
     obtain ⟨z1, z2, z3, z4⟩ := OpI.fin (x := .pointer (some ⟨tb, 0, none⟩)) (y := .int .i64 1) (z := .bool (!al1)) (unhide HQ) (unhide HQM) (unhide I8) (unhide HSS)
     refine post_w (fun W => Has W w.heap.size #[.pointer (some ⟨tb, 0, none⟩), .int .i64 1, .bool (!al1)] 115 ∧ TapeH W S tb T2 ∧ Mod S w W ∧ Q w.heap.size W.heap.size (.slice a1 n1 c1) W) ⟨z1.dr, z2.dr, z3.drew, (unhide HQ) _ _ _ _ _ z4 (Mod.refl _ _).drew⟩ ?_
     rintro w7 ⟨h7, t7, m7, q7⟩
     have d0 : w7.cell? ⟨w.heap.size, 0, none⟩ = some (.pointer (some ⟨tb, 0, none⟩)) := h7.cell 0
     have d1 : w7.cell? ⟨w.heap.size, 1, none⟩ = some (.int .i64 1) := h7.cell 1
     have d2 : w7.cell? ⟨w.heap.size, 2, none⟩ = some (.bool (!al1)) := h7.cell 2
     refine bodyPost_ret (by simp [results, Try.results53, go_sem, d0, d1, d2]; try rfl) rfl ?_
     rw [unhide HEQ]
     exact ⟨t7, m7, fun _ => ⟨a1, c1, rfl, q7⟩, fun e => absurd rfl e⟩
   | false =>
    go_wp2_with fail
    refine (unhide HC).mono ?_
    rintro e w8 ⟨rfl, t8, m8⟩
    have I8 := hide ((unhide I5).turn (unhide HQ) (unhide HSS) t8 m8)
    clear k0 k1 k2 k3 l0 l1 kl ll r0 r1 r2 rf rl nk t8 m8 HC
    have k0 : w8.cell? ⟨kb, 0, none⟩ = some (.int .i64 1) := (unhide I8).kept.cell 0
    have k1 : w8.cell? ⟨kb, 1, none⟩ = some (.int .i64 s1) := (unhide I8).kept.cell 1
    have k2 : w8.cell? ⟨kb, 2, none⟩ = some (.slice a1 n1 c1) := (unhide I8).kept.cell 2
    have k3 : w8.cell? ⟨kb, 3, none⟩ = some (.bool al1) := (unhide I8).kept.cell 3
    have l0 : w8.cell? ⟨lb, 0, none⟩ = some (.int .i64 0) := (unhide I8).left.cell 0
    have l1 : w8.cell? ⟨lb, 1, none⟩ = some (.int .i64 s0) := (unhide I8).left.cell 1
    have kl := (unhide I8).kept.lt
    have ll := (unhide I8).left.lt
    have r0 : w8.cell? ⟨w.heap.size, 0, none⟩ = some (.pointer none) := (unhide I8).res.cell 0
    have r1 : w8.cell? ⟨w.heap.size, 1, none⟩ = some (.int .i64 0) := (unhide I8).res.cell 1
    have r2 : w8.cell? ⟨w.heap.size, 2, none⟩ = some (.bool false) := (unhide I8).res.cell 2
    have rf := (unhide I8).res.frozen
    have rl := (unhide I8).res.lt
    have nk : kb ≠ w.heap.size := by have := (unhide I8).ge; omega
    have HEQ := hide (show openP T 1 s1 s0 = (16, T2) from by unfold openP; simp [hk, hl, unhide HX2])
    go_wp2
    obtain ⟨z1, z2, z3, z4⟩ := OpI.fin (x := .pointer none) (y := .int .i64 0) (z := .bool false) (unhide HQ) (unhide HQM) (unhide I8) (unhide HSS)
    refine post_w (fun W => Has W w.heap.size #[.pointer none, .int .i64 0, .bool false] 115 ∧ TapeH W S tb T2 ∧ Mod S w W) ⟨z1, z2, z3⟩ ?_
    rintro w7 ⟨h7, t7, m7⟩
    have d0 : w7.cell? ⟨w.heap.size, 0, none⟩ = some (.pointer none) := h7.cell 0
    have d1 : w7.cell? ⟨w.heap.size, 1, none⟩ = some (.int .i64 0) := h7.cell 1
    have d2 : w7.cell? ⟨w.heap.size, 2, none⟩ = some (.bool false) := h7.cell 2
    refine bodyPost_ret (by simp [results, Try.results53, go_sem, d0, d1, d2]; try rfl) rfl ?_
    rw [unhide HEQ]
    exact ⟨t7, m7, fun e => absurd e (by show ¬ (16 : Int) = 0; omega), fun _ => rfl⟩
  ·have hli : ¬ (s0 : Int) > 0 := by omega
   have HEQ := hide (show openP T 1 s1 s0 = (0, T) from by unfold openP; simp [hk, hl])
   go_wp2_with fail
   go_region
   all_goals go_wp2
   all_goals
    obtain ⟨z1, z2, z3, z4⟩ := OpI.fin (x := .pointer (some ⟨tb, 0, none⟩)) (y := .int .i64 1) (z := .bool (!al1)) (unhide HQ) (unhide HQM) (unhide I5) (unhide HSS)
    refine post_w (fun W => Has W w.heap.size #[.pointer (some ⟨tb, 0, none⟩), .int .i64 1, .bool (!al1)] 115 ∧ TapeH W S tb T ∧ Mod S w W ∧ Q w.heap.size W.heap.size (.slice a1 n1 c1) W) ⟨z1.dr, z2.dr, z3.drew, (unhide HQ) _ _ _ _ _ z4 (Mod.refl _ _).drew⟩ ?_
    rintro w7 ⟨h7, t7, m7, q7⟩
    have d0 : w7.cell? ⟨w.heap.size, 0, none⟩ = some (.pointer (some ⟨tb, 0, none⟩)) := h7.cell 0
    have d1 : w7.cell? ⟨w.heap.size, 1, none⟩ = some (.int .i64 1) := h7.cell 1
    have d2 : w7.cell? ⟨w.heap.size, 2, none⟩ = some (.bool (!al1)) := h7.cell 2
    refine bodyPost_ret (by simp [results, Try.results53, go_sem, d0, d1, d2]; try rfl) rfl ?_
    rw [unhide HEQ]
    exact ⟨t7, m7, fun _ => ⟨a1, c1, rfl, q7⟩, fun e => absurd rfl e⟩
end Go.Proofs.Ythhibagcpjeihaa
