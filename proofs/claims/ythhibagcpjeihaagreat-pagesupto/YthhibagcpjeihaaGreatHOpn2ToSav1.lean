import Derived.Test.YthhibagcpjeihaaGreatHWr6ToOpn1
namespace Go.Proofs.YthhibagcpjeihaaGreat
open Go.RowKit
open M
set_option linter.unusedVariables false
set_option linter.unusedSimpArgs false
set_option maxRecDepth 100000
set_option maxHeartbeats 8000000
def openP (T : TP) (i sk sl : Nat) : Int × TP :=
 let A := if 0 < sk then syncP T i else (true, T)
 if A.1 = false then (16, A.2)
 else
  let B := if 0 < sl then clearP A.2 (1 - i) else (true, A.2)
  if B.1 = false then (16, B.2) else (0, B.2)
structure OpI (w wx : World) (S : Nat → Prop) (tb rb kb lb i j sk sl nk : Nat) (vk vl : Value) (alk all : Bool) (T : TP) (Q : Nat → Nat → Value → World → Prop) : Prop where
 res : Has wx rb #[.pointer none, .int .i64 0, .bool false] 110
 kept : Has wx kb #[.int .i64 i, .int .i64 sk, vk, .bool alk] 155
 left : Has wx lb #[.int .i64 j, .int .i64 sl, vl, .bool all] 155
 tape : TapeH wx S tb T
 q : Q (w.heap.size + 1) kb vk wx
 mod : Mod S w wx
 ge : rb = w.heap.size ∧ w.heap.size < kb ∧ kb < lb
theorem Has.new2' (w : World) (o : Obj) (cs : Array Value) (T : TypeId) : Has ((w.alloc o).alloc (.cells cs T)) (w.heap.size + 1) cs T := by
 have := Has.new (w.alloc o) cs T
 rw [World.size_alloc] at this
 exact this
theorem OpI.still {w wx wy : World} {S : Nat → Prop} {tb rb kb lb i j sk sl nk : Nat} {vk vl : Value} {alk all : Bool} {T : TP} {Q : Nat → Nat → Value → World → Prop} (h : OpI w wx S tb rb kb lb i j sk sl nk vk vl alk all T Q) (hQ : ∀ l h v W W', Q l h v W → Mod (fun k => k < l ∨ h ≤ k) W W' → Q l h v W') (hm : Mod No wx wy) : OpI w wy S tb rb kb lb i j sk sl nk vk vl alk all T Q :=
 ⟨hm.has h.res (fun x => x), hm.has h.kept (fun x => x), hm.has h.left (fun x => x), h.tape.mod0 hm, hQ _ _ _ _ _ h.q (hm.mono (fun _ _ x => x.elim)), h.mod.trans (hm.mono (fun _ _ x => x.elim)), h.ge⟩
theorem OpI.turn {w wx wy : World} {S : Nat → Prop} {tb rb kb lb i j sk sl nk : Nat} {vk vl : Value} {alk all : Bool} {T T' : TP} {Q : Nat → Nat → Value → World → Prop} (h : OpI w wx S tb rb kb lb i j sk sl nk vk vl alk all T Q) (hQ : ∀ l h v W W', Q l h v W → Mod (fun k => k < l ∨ h ≤ k) W W' → Q l h v W') (hS : ∀ k, S k → k < w.heap.size)
  (ht : TapeH wy S tb T') (hm : Mod (fun k => k = tb) wx wy) : OpI w wy S tb rb kb lb i j sk sl nk vk vl alk all T' Q := by
 obtain ⟨h1, h2, h3, h4, h5, h6, h7⟩ := h
 have htb := h4.inn
 have hl := hS _ htb
 exact ⟨hm.has h1 (by omega), hm.has h2 (by omega), hm.has h3 (by omega), ht, hQ _ _ _ _ _ h5 (hm.mono (fun k _ e => .inl (by omega))), h6.trans (hm.mono (fun k _ e => by rw [e]; exact htb)), h7⟩
theorem OpI.fin {w wx : World} {S : Nat → Prop} {tb rb kb lb i j sk sl nk : Nat} {vk vl x y z : Value} {alk all : Bool} {T : TP} {Q : Nat → Nat → Value → World → Prop} (hQ : ∀ l h v W W', Q l h v W → Mod (fun k => k < l ∨ h ≤ k) W W' → Q l h v W') (hQm : ∀ l l' h h' v W, l ≤ l' → h' ≤ h → Q l' h' v W → Q l h v W)
  (h : OpI w wx S tb rb kb lb i j sk sl nk vk vl alk all T Q) (hS : ∀ k, S k → k < w.heap.size) :
  Has (((wx.setCell ⟨rb, 0, none⟩ x).setCell ⟨rb, 1, none⟩ y).setCell ⟨rb, 2, none⟩ z) rb #[x, y, z] 110 ∧ TapeH (((wx.setCell ⟨rb, 0, none⟩ x).setCell ⟨rb, 1, none⟩ y).setCell ⟨rb, 2, none⟩ z) S tb T ∧
   Mod S w (((wx.setCell ⟨rb, 0, none⟩ x).setCell ⟨rb, 1, none⟩ y).setCell ⟨rb, 2, none⟩ z) ∧ Q w.heap.size (((wx.setCell ⟨rb, 0, none⟩ x).setCell ⟨rb, 1, none⟩ y).setCell ⟨rb, 2, none⟩ z).heap.size vk (((wx.setCell ⟨rb, 0, none⟩ x).setCell ⟨rb, 1, none⟩ y).setCell ⟨rb, 2, none⟩ z) := by
 obtain ⟨h1, h2, h3, h4, h5, h6, h7, h8, h9⟩ := h
 have hm : Mod (fun k => k = rb) wx (((wx.setCell ⟨rb, 0, none⟩ x).setCell ⟨rb, 1, none⟩ y).setCell ⟨rb, 2, none⟩ z) := (((Mod.refl _ wx).at 0 x).at 1 y).at 2 z
 have hl := h2.lt
 refine ⟨((h1.set 0 x).set 1 y).set 2 z, h4.mod hm (fun k hk e => by have := hS k hk; omega), h6.trans' hm (fun k e hl => by omega), hQm _ _ _ _ _ _ (by omega) (by simp only [World.size_setCell]; omega) (hQ _ _ _ _ _ h5 (hm.mono (fun k _ e => .inl (by omega))))⟩
theorem Has.dr {w : World} {b : Nat} {cs : Array Value} {T : TypeId} (h : Has w b cs T) : Has w.drew b cs T := h
theorem TapeH.dr {w : World} {S : Nat → Prop} {tb : Nat} {T : TP} (h : TapeH w S tb T) : TapeH w.drew S tb T := h.mod0 (Mod.refl No w).drew
theorem sopen_0 {w : World} {S : Nat → Prop} {tb : Nat} {T : TP} (ht : TapeH w S tb T) (hS : ∀ k, S k → k < w.heap.size) (s0 s1 n0 n1 : Nat) (al0 al1 : Bool) (Q : Nat → Nat → Value → World → Prop)
  (h0 : ∀ W, Mod No w W → Calls Tryz.prog 69 #[.pointer (some ⟨tb, 0, none⟩), .int .i64 0] W fun e w' => ∃ a c, e = .returned (foundV 0 s0 (.slice a n0 c) al0) ∧ Q W.heap.size w'.heap.size (.slice a n0 c) w' ∧ Mod No W w')
  (h1 : ∀ W, Mod No w W → Calls Tryz.prog 69 #[.pointer (some ⟨tb, 0, none⟩), .int .i64 1] W fun e w' => ∃ a c, e = .returned (foundV 1 s1 (.slice a n1 c) al1) ∧ Q W.heap.size w'.heap.size (.slice a n1 c) w' ∧ Mod No W w')
  (hQ : ∀ l h v W W', Q l h v W → Mod (fun k => k < l ∨ h ≤ k) W W' → Q l h v W') (hQm : ∀ l l' h h' v W, l ≤ l' → h' ≤ h → Q l' h' v W → Q l h v W) (hb : betP n1 n0 s1 s0 = false) :
  Calls Tryz.prog 43 #[.pointer (some ⟨tb, 0, none⟩)] w fun e w' =>
   TapeH w' S tb (openP T 0 s0 s1).2 ∧ Mod S w w' ∧
   ((openP T 0 s0 s1).1 = 0 → ∃ a c, e = .returned (.tuple #[.agg #[.pointer (some ⟨tb, 0, none⟩), .int .i64 (0 : Nat), .bool (!al0)], .slice a n0 c, .int .i64 0]) ∧ Q w.heap.size w'.heap.size (.slice a n0 c) w') ∧
   ((openP T 0 s0 s1).1 ≠ 0 → e = .returned (.tuple #[.agg #[.pointer none, .int .i64 0, .bool false], .slice none 0 0, .int .i64 16])) := by
 have m0 : Mod No w (w.alloc (.cells #[.pointer none, .int .i64 0, .bool false] 110)) := (Mod.refl _ _).alloc _
 have HF0 := hide (h0 _ m0)
 have HF1 := hide h1
 have B0 := hide (Has.new w #[.pointer none, .int .i64 0, .bool false] 110)
 have M0 := hide m0
 have HT := hide ht
 have HB := hide hb
 have HQ := hide hQ
 have HQM := hide hQm
 have HSS := hide hS
 have HBET := hide fun W (i j : Int) (s t n m c d : Nat) (a b : Option Addr) (x y : Bool) => better_any W i j s t n m c d a b x y
 unfold foundV at *
 clear h0 h1 m0 ht hQ hQm hS hb
 go_enter Tryz.func43, Tryz.ntmps43
 go_wp2_with fail
 refine (unhide HF0).mono ?_
 rintro e w1 ⟨a0, c0, rfl, q0, m1⟩
 have M1 := hide ((unhide M0).trans m1)
 have M01 := hide m1
 have HF1 := hide ((unhide HF1) w1 (unhide M1))
 have B1 := hide (m1.has (unhide B0) (fun x => x))
 have Q1 := hide q0
 clear q0 m1 HF0 B0
 go_wp2_with fail
 refine (unhide HF1).mono ?_
 rintro e w2 ⟨a1, c1, rfl, q1, m2⟩
 have M2 := hide ((unhide M1).trans m2)
 have B2 := hide (m2.has (unhide B1) (fun x => x))
 have Q2 := hide q1
 have Q12 := hide m2
 clear q1 m2 HF1 B1
 go_upto_region 2 with fail
 have m3 : Mod No w2 ((w2.alloc (.cells #[.int .i64 0, .int .i64 s0, .slice a0 n0 c0, .bool al0] 155)).alloc (.cells #[.int .i64 1, .int .i64 s1, .slice a1 n1 c1, .bool al1] 155)) := ((Mod.refl _ w2).alloc _).alloc _
 have I3 := hide (show OpI w ((w2.alloc (.cells #[.int .i64 0, .int .i64 s0, .slice a0 n0 c0, .bool al0] 155)).alloc (.cells #[.int .i64 1, .int .i64 s1, .slice a1 n1 c1, .bool al1] 155)) S tb w.heap.size w2.heap.size (w2.heap.size + 1) 0 1 s0 s1 n0 (.slice a0 n0 c0) (.slice a1 n1 c1) al0 al1 T Q from
  ⟨m3.has (unhide B2) (fun x => x), (Has.new w2 _ _).alloc _, Has.new2' _ _ _ _, (unhide HT).mod0 ((unhide M2).trans m3), (unhide HQM) _ _ _ _ _ _ (Nat.le_of_eq (World.size_alloc _ _).symm) (unhide Q12).size ((unhide HQ) _ _ _ _ _ (unhide Q1) (((unhide Q12).trans m3).mono (fun _ _ x => x.elim))), ((unhide M2).trans m3).mono (fun _ _ x => x.elim), rfl, (unhide B2).lt, Nat.lt_succ_self _⟩)
 have Q3 := hide ((unhide HQM) (w.heap.size + 1) _ w2.heap.size _ _ _ (Nat.le_trans (Nat.le_of_eq (World.size_alloc _ _).symm) (unhide M01).size) (Nat.le_refl _) ((unhide HQ) _ _ _ _ _ (unhide Q2) (m3.mono (fun _ _ x => x.elim))))
 have LT := hide (show w.heap.size < w2.heap.size from (unhide B2).lt)
 clear m3
 generalize (w2.alloc (.cells #[.int .i64 0, .int .i64 s0, .slice a0 n0 c0, .bool al0] 155)).alloc (.cells #[.int .i64 1, .int .i64 s1, .slice a1 n1 c1, .bool al1] 155) = w3 at *
 generalize w2.heap.size + 1 = lb at *
 generalize hkb : w2.heap.size = kb at *
 clear hkb M2 Q12 Q2 Q1 B2 M1 M0 M01
 have k0 : w3.cell? ⟨kb, 0, none⟩ = some (.int .i64 0) := (unhide I3).kept.cell 0
 have k1 : w3.cell? ⟨kb, 1, none⟩ = some (.int .i64 s0) := (unhide I3).kept.cell 1
 have k2 : w3.cell? ⟨kb, 2, none⟩ = some (.slice a0 n0 c0) := (unhide I3).kept.cell 2
 have k3 : w3.cell? ⟨kb, 3, none⟩ = some (.bool al0) := (unhide I3).kept.cell 3
 have l0 : w3.cell? ⟨lb, 0, none⟩ = some (.int .i64 1) := (unhide I3).left.cell 0
 have l1 : w3.cell? ⟨lb, 1, none⟩ = some (.int .i64 s1) := (unhide I3).left.cell 1
 have l2 : w3.cell? ⟨lb, 2, none⟩ = some (.slice a1 n1 c1) := (unhide I3).left.cell 2
 have l3 : w3.cell? ⟨lb, 3, none⟩ = some (.bool al1) := (unhide I3).left.cell 3
 have kf := (unhide I3).kept.frozen
 have lf := (unhide I3).left.frozen
 have kl := (unhide I3).kept.lt
 have ll := (unhide I3).left.lt
 have HBT := hide (better_any w3 1 0 s1 s0 n1 n0 c1 c0 a1 a0 al1 al0)
 unfold foundV at HBT
 rw [unhide HB] at HBT
 go_wp2_with fail
 refine (unhide HBT).mono ?_
 rintro e w4 ⟨rfl, m4⟩
 have I4 := hide ((unhide I3).still (unhide HQ) m4)
 have Q4 := hide ((unhide HQ) _ _ _ _ _ (unhide Q3) (m4.mono (fun _ _ x => x.elim)))
 clear k0 k1 k2 k3 l0 l1 l2 l3 kf lf kl ll m4 I3 Q3 HBT
 have k0 : w4.cell? ⟨kb, 0, none⟩ = some (.int .i64 0) := (unhide I4).kept.cell 0
 have k1 : w4.cell? ⟨kb, 1, none⟩ = some (.int .i64 s0) := (unhide I4).kept.cell 1
 have k2 : w4.cell? ⟨kb, 2, none⟩ = some (.slice a0 n0 c0) := (unhide I4).kept.cell 2
 have k3 : w4.cell? ⟨kb, 3, none⟩ = some (.bool al0) := (unhide I4).kept.cell 3
 have l0 : w4.cell? ⟨lb, 0, none⟩ = some (.int .i64 1) := (unhide I4).left.cell 0
 have l1 : w4.cell? ⟨lb, 1, none⟩ = some (.int .i64 s1) := (unhide I4).left.cell 1
 have l2 : w4.cell? ⟨lb, 2, none⟩ = some (.slice a1 n1 c1) := (unhide I4).left.cell 2
 have l3 : w4.cell? ⟨lb, 3, none⟩ = some (.bool al1) := (unhide I4).left.cell 3
 have kf := (unhide I4).kept.frozen
 have lf := (unhide I4).left.frozen
 have kl := (unhide I4).kept.lt
 have ll := (unhide I4).left.lt
 go_upto_region 4 with fail
 have I5 := I4
 clear k0 k1 k2 k3 l0 l1 l2 l3 kf lf kl ll I4 Q4
 generalize w4 = w5 at *
 have HOP := hide (show openP T 0 s0 s1 = openP T 0 s0 s1 from rfl)
 clear HT HF1 HBET
 by_cases hk : 0 < s0
 ·have hki : (s0 : Int) > 0 := by omega
  have HS := hide (sync_t (unhide I5).tape 0 (by omega))
  obtain ⟨x1, hx1⟩ : ∃ x, syncP T 0 = x := ⟨_, rfl⟩
  rw [hx1] at HS
  obtain ⟨d1, T1⟩ := x1
  have HX1 := hide hx1
  clear hx1
  cases d1 with
  | true =>
   have k0 : w5.cell? ⟨kb, 0, none⟩ = some (.int .i64 0) := (unhide I5).kept.cell 0
   have k1 : w5.cell? ⟨kb, 1, none⟩ = some (.int .i64 s0) := (unhide I5).kept.cell 1
   have k2 : w5.cell? ⟨kb, 2, none⟩ = some (.slice a0 n0 c0) := (unhide I5).kept.cell 2
   have k3 : w5.cell? ⟨kb, 3, none⟩ = some (.bool al0) := (unhide I5).kept.cell 3
   have l0 : w5.cell? ⟨lb, 0, none⟩ = some (.int .i64 1) := (unhide I5).left.cell 0
   have l1 : w5.cell? ⟨lb, 1, none⟩ = some (.int .i64 s1) := (unhide I5).left.cell 1
   have kl := (unhide I5).kept.lt
   have ll := (unhide I5).left.lt
   have r0 : w5.cell? ⟨w.heap.size, 0, none⟩ = some (.pointer none) := (unhide I5).res.cell 0
   have r1 : w5.cell? ⟨w.heap.size, 1, none⟩ = some (.int .i64 0) := (unhide I5).res.cell 1
   have r2 : w5.cell? ⟨w.heap.size, 2, none⟩ = some (.bool false) := (unhide I5).res.cell 2
   have rf := (unhide I5).res.frozen
   have rl := (unhide I5).res.lt
   have nk : kb ≠ w.heap.size := by have := (unhide I5).ge; omega
   go_wp2_with fail
   refine (unhide HS).mono ?_
   rintro e w6 ⟨rfl, t6, m6⟩
   have I6 := hide ((unhide I5).turn (unhide HQ) (unhide HSS) t6 m6)
   clear k0 k1 k2 k3 l0 l1 kl ll r0 r1 r2 rf rl nk t6 m6 HS
   have k0 : w6.cell? ⟨kb, 0, none⟩ = some (.int .i64 0) := (unhide I6).kept.cell 0
   have k1 : w6.cell? ⟨kb, 1, none⟩ = some (.int .i64 s0) := (unhide I6).kept.cell 1
   have k2 : w6.cell? ⟨kb, 2, none⟩ = some (.slice a0 n0 c0) := (unhide I6).kept.cell 2
   have k3 : w6.cell? ⟨kb, 3, none⟩ = some (.bool al0) := (unhide I6).kept.cell 3
   have l0 : w6.cell? ⟨lb, 0, none⟩ = some (.int .i64 1) := (unhide I6).left.cell 0
   have l1 : w6.cell? ⟨lb, 1, none⟩ = some (.int .i64 s1) := (unhide I6).left.cell 1
   have kl := (unhide I6).kept.lt
   have ll := (unhide I6).left.lt
   have r0 : w6.cell? ⟨w.heap.size, 0, none⟩ = some (.pointer none) := (unhide I6).res.cell 0
   have r1 : w6.cell? ⟨w.heap.size, 1, none⟩ = some (.int .i64 0) := (unhide I6).res.cell 1
   have r2 : w6.cell? ⟨w.heap.size, 2, none⟩ = some (.bool false) := (unhide I6).res.cell 2
   have rf := (unhide I6).res.frozen
   have rl := (unhide I6).res.lt
   have nk : kb ≠ w.heap.size := by have := (unhide I6).ge; omega
   by_cases hl : 0 < s1
   ·have hli : (s1 : Int) > 0 := by omega
    have HC := hide (clear_t (unhide I6).tape 1 (by omega))
    obtain ⟨x2, hx2⟩ : ∃ x, clearP T1 1 = x := ⟨_, rfl⟩
    rw [hx2] at HC
    obtain ⟨d2, T2⟩ := x2
    have HX2 := hide hx2
    clear hx2
    cases d2 with
    | true =>
     go_wp2_with fail
     refine (unhide HC).mono ?_
     rintro e w8 ⟨rfl, t8, m8⟩
     have I8 := hide ((unhide I6).turn (unhide HQ) (unhide HSS) t8 m8)
     clear k0 k1 k2 k3 l0 l1 kl ll r0 r1 r2 rf rl nk t8 m8 HC
     have k0 : w8.cell? ⟨kb, 0, none⟩ = some (.int .i64 0) := (unhide I8).kept.cell 0
     have k1 : w8.cell? ⟨kb, 1, none⟩ = some (.int .i64 s0) := (unhide I8).kept.cell 1
     have k2 : w8.cell? ⟨kb, 2, none⟩ = some (.slice a0 n0 c0) := (unhide I8).kept.cell 2
     have k3 : w8.cell? ⟨kb, 3, none⟩ = some (.bool al0) := (unhide I8).kept.cell 3
     have l0 : w8.cell? ⟨lb, 0, none⟩ = some (.int .i64 1) := (unhide I8).left.cell 0
     have l1 : w8.cell? ⟨lb, 1, none⟩ = some (.int .i64 s1) := (unhide I8).left.cell 1
     have kl := (unhide I8).kept.lt
     have ll := (unhide I8).left.lt
     have r0 : w8.cell? ⟨w.heap.size, 0, none⟩ = some (.pointer none) := (unhide I8).res.cell 0
     have r1 : w8.cell? ⟨w.heap.size, 1, none⟩ = some (.int .i64 0) := (unhide I8).res.cell 1
     have r2 : w8.cell? ⟨w.heap.size, 2, none⟩ = some (.bool false) := (unhide I8).res.cell 2
     have rf := (unhide I8).res.frozen
     have rl := (unhide I8).res.lt
     have nk : kb ≠ w.heap.size := by have := (unhide I8).ge; omega
     have HEQ := hide (show openP T 0 s0 s1 = (0, T2) from by unfold openP; simp [hk, unhide HX1, hl, unhide HX2])
     go_wp2_with fail
     go_region
     all_goals go_wp2
     all_goals
      obtain ⟨z1, z2, z3, z4⟩ := OpI.fin (x := .pointer (some ⟨tb, 0, none⟩)) (y := .int .i64 0) (z := .bool (!al0)) (unhide HQ) (unhide HQM) (unhide I8) (unhide HSS)
      refine post_w (fun W => Has W w.heap.size #[.pointer (some ⟨tb, 0, none⟩), .int .i64 0, .bool (!al0)] 110 ∧ TapeH W S tb T2 ∧ Mod S w W ∧ Q w.heap.size W.heap.size (.slice a0 n0 c0) W) ⟨z1.dr, z2.dr, z3.drew, (unhide HQ) _ _ _ _ _ z4 (Mod.refl _ _).drew⟩ ?_
      rintro w7 ⟨h7, t7, m7, q7⟩
      have d0 : w7.cell? ⟨w.heap.size, 0, none⟩ = some (.pointer (some ⟨tb, 0, none⟩)) := h7.cell 0
      have d1 : w7.cell? ⟨w.heap.size, 1, none⟩ = some (.int .i64 0) := h7.cell 1
      have d2 : w7.cell? ⟨w.heap.size, 2, none⟩ = some (.bool (!al0)) := h7.cell 2
      refine bodyPost_ret (by simp [results, Tryz.results43, go_sem, d0, d1, d2]; try rfl) rfl ?_
      rw [unhide HEQ]
      exact ⟨t7, m7, fun _ => ⟨a0, c0, rfl, q7⟩, fun e => absurd rfl e⟩
    | false =>
     go_wp2_with fail
     refine (unhide HC).mono ?_
     rintro e w8 ⟨rfl, t8, m8⟩
     have I8 := hide ((unhide I6).turn (unhide HQ) (unhide HSS) t8 m8)
     clear k0 k1 k2 k3 l0 l1 kl ll r0 r1 r2 rf rl nk t8 m8 HC
     have k0 : w8.cell? ⟨kb, 0, none⟩ = some (.int .i64 0) := (unhide I8).kept.cell 0
     have k1 : w8.cell? ⟨kb, 1, none⟩ = some (.int .i64 s0) := (unhide I8).kept.cell 1
     have k2 : w8.cell? ⟨kb, 2, none⟩ = some (.slice a0 n0 c0) := (unhide I8).kept.cell 2
     have k3 : w8.cell? ⟨kb, 3, none⟩ = some (.bool al0) := (unhide I8).kept.cell 3
     have l0 : w8.cell? ⟨lb, 0, none⟩ = some (.int .i64 1) := (unhide I8).left.cell 0
     have l1 : w8.cell? ⟨lb, 1, none⟩ = some (.int .i64 s1) := (unhide I8).left.cell 1
     have kl := (unhide I8).kept.lt
     have ll := (unhide I8).left.lt
     have r0 : w8.cell? ⟨w.heap.size, 0, none⟩ = some (.pointer none) := (unhide I8).res.cell 0
     have r1 : w8.cell? ⟨w.heap.size, 1, none⟩ = some (.int .i64 0) := (unhide I8).res.cell 1
     have r2 : w8.cell? ⟨w.heap.size, 2, none⟩ = some (.bool false) := (unhide I8).res.cell 2
     have rf := (unhide I8).res.frozen
     have rl := (unhide I8).res.lt
     have nk : kb ≠ w.heap.size := by have := (unhide I8).ge; omega
     have HEQ := hide (show openP T 0 s0 s1 = (16, T2) from by unfold openP; simp [hk, unhide HX1, hl, unhide HX2])
     go_wp2
     obtain ⟨z1, z2, z3, z4⟩ := OpI.fin (x := .pointer none) (y := .int .i64 0) (z := .bool false) (unhide HQ) (unhide HQM) (unhide I8) (unhide HSS)
     refine post_w (fun W => Has W w.heap.size #[.pointer none, .int .i64 0, .bool false] 110 ∧ TapeH W S tb T2 ∧ Mod S w W) ⟨z1, z2, z3⟩ ?_
     rintro w7 ⟨h7, t7, m7⟩
     have d0 : w7.cell? ⟨w.heap.size, 0, none⟩ = some (.pointer none) := h7.cell 0
     have d1 : w7.cell? ⟨w.heap.size, 1, none⟩ = some (.int .i64 0) := h7.cell 1
     have d2 : w7.cell? ⟨w.heap.size, 2, none⟩ = some (.bool false) := h7.cell 2
     refine bodyPost_ret (by simp [results, Tryz.results43, go_sem, d0, d1, d2]; try rfl) rfl ?_
     rw [unhide HEQ]
     exact ⟨t7, m7, fun e => absurd e (by show ¬ (16 : Int) = 0; omega), fun _ => rfl⟩
   ·have hli : ¬ (s1 : Int) > 0 := by omega
    have HEQ := hide (show openP T 0 s0 s1 = (0, T1) from by unfold openP; simp [hk, unhide HX1, hl])
    go_wp2_with fail
    go_region
    all_goals go_wp2
    all_goals
     obtain ⟨z1, z2, z3, z4⟩ := OpI.fin (x := .pointer (some ⟨tb, 0, none⟩)) (y := .int .i64 0) (z := .bool (!al0)) (unhide HQ) (unhide HQM) (unhide I6) (unhide HSS)
     refine post_w (fun W => Has W w.heap.size #[.pointer (some ⟨tb, 0, none⟩), .int .i64 0, .bool (!al0)] 110 ∧ TapeH W S tb T1 ∧ Mod S w W ∧ Q w.heap.size W.heap.size (.slice a0 n0 c0) W) ⟨z1.dr, z2.dr, z3.drew, (unhide HQ) _ _ _ _ _ z4 (Mod.refl _ _).drew⟩ ?_
     rintro w7 ⟨h7, t7, m7, q7⟩
     have d0 : w7.cell? ⟨w.heap.size, 0, none⟩ = some (.pointer (some ⟨tb, 0, none⟩)) := h7.cell 0
     have d1 : w7.cell? ⟨w.heap.size, 1, none⟩ = some (.int .i64 0) := h7.cell 1
     have d2 : w7.cell? ⟨w.heap.size, 2, none⟩ = some (.bool (!al0)) := h7.cell 2
     refine bodyPost_ret (by simp [results, Tryz.results43, go_sem, d0, d1, d2]; try rfl) rfl ?_
     rw [unhide HEQ]
     exact ⟨t7, m7, fun _ => ⟨a0, c0, rfl, q7⟩, fun e => absurd rfl e⟩
  | false =>
   have k0 : w5.cell? ⟨kb, 0, none⟩ = some (.int .i64 0) := (unhide I5).kept.cell 0
   have k1 : w5.cell? ⟨kb, 1, none⟩ = some (.int .i64 s0) := (unhide I5).kept.cell 1
   have k2 : w5.cell? ⟨kb, 2, none⟩ = some (.slice a0 n0 c0) := (unhide I5).kept.cell 2
   have k3 : w5.cell? ⟨kb, 3, none⟩ = some (.bool al0) := (unhide I5).kept.cell 3
   have l0 : w5.cell? ⟨lb, 0, none⟩ = some (.int .i64 1) := (unhide I5).left.cell 0
   have l1 : w5.cell? ⟨lb, 1, none⟩ = some (.int .i64 s1) := (unhide I5).left.cell 1
   have kl := (unhide I5).kept.lt
   have ll := (unhide I5).left.lt
   have r0 : w5.cell? ⟨w.heap.size, 0, none⟩ = some (.pointer none) := (unhide I5).res.cell 0
   have r1 : w5.cell? ⟨w.heap.size, 1, none⟩ = some (.int .i64 0) := (unhide I5).res.cell 1
   have r2 : w5.cell? ⟨w.heap.size, 2, none⟩ = some (.bool false) := (unhide I5).res.cell 2
   have rf := (unhide I5).res.frozen
   have rl := (unhide I5).res.lt
   have nk : kb ≠ w.heap.size := by have := (unhide I5).ge; omega
   go_wp2_with fail
   refine (unhide HS).mono ?_
   rintro e w6 ⟨rfl, t6, m6⟩
   have I6 := hide ((unhide I5).turn (unhide HQ) (unhide HSS) t6 m6)
   clear k0 k1 k2 k3 l0 l1 kl ll r0 r1 r2 rf rl nk t6 m6 HS
   have k0 : w6.cell? ⟨kb, 0, none⟩ = some (.int .i64 0) := (unhide I6).kept.cell 0
   have k1 : w6.cell? ⟨kb, 1, none⟩ = some (.int .i64 s0) := (unhide I6).kept.cell 1
   have k2 : w6.cell? ⟨kb, 2, none⟩ = some (.slice a0 n0 c0) := (unhide I6).kept.cell 2
   have k3 : w6.cell? ⟨kb, 3, none⟩ = some (.bool al0) := (unhide I6).kept.cell 3
   have l0 : w6.cell? ⟨lb, 0, none⟩ = some (.int .i64 1) := (unhide I6).left.cell 0
   have l1 : w6.cell? ⟨lb, 1, none⟩ = some (.int .i64 s1) := (unhide I6).left.cell 1
   have kl := (unhide I6).kept.lt
   have ll := (unhide I6).left.lt
   have r0 : w6.cell? ⟨w.heap.size, 0, none⟩ = some (.pointer none) := (unhide I6).res.cell 0
   have r1 : w6.cell? ⟨w.heap.size, 1, none⟩ = some (.int .i64 0) := (unhide I6).res.cell 1
   have r2 : w6.cell? ⟨w.heap.size, 2, none⟩ = some (.bool false) := (unhide I6).res.cell 2
   have rf := (unhide I6).res.frozen
   have rl := (unhide I6).res.lt
   have nk : kb ≠ w.heap.size := by have := (unhide I6).ge; omega
   have HEQ := hide (show openP T 0 s0 s1 = (16, T1) from by unfold openP; simp [hk, unhide HX1])
   go_wp2
   obtain ⟨z1, z2, z3, z4⟩ := OpI.fin (x := .pointer none) (y := .int .i64 0) (z := .bool false) (unhide HQ) (unhide HQM) (unhide I6) (unhide HSS)
   refine post_w (fun W => Has W w.heap.size #[.pointer none, .int .i64 0, .bool false] 110 ∧ TapeH W S tb T1 ∧ Mod S w W) ⟨z1, z2, z3⟩ ?_
   rintro w7 ⟨h7, t7, m7⟩
   have d0 : w7.cell? ⟨w.heap.size, 0, none⟩ = some (.pointer none) := h7.cell 0
   have d1 : w7.cell? ⟨w.heap.size, 1, none⟩ = some (.int .i64 0) := h7.cell 1
   have d2 : w7.cell? ⟨w.heap.size, 2, none⟩ = some (.bool false) := h7.cell 2
   refine bodyPost_ret (by simp [results, Tryz.results43, go_sem, d0, d1, d2]; try rfl) rfl ?_
   rw [unhide HEQ]
   exact ⟨t7, m7, fun e => absurd e (by show ¬ (16 : Int) = 0; omega), fun _ => rfl⟩
 ·have hki : ¬ (s0 : Int) > 0 := by omega
  have k0 : w5.cell? ⟨kb, 0, none⟩ = some (.int .i64 0) := (unhide I5).kept.cell 0
  have k1 : w5.cell? ⟨kb, 1, none⟩ = some (.int .i64 s0) := (unhide I5).kept.cell 1
  have k2 : w5.cell? ⟨kb, 2, none⟩ = some (.slice a0 n0 c0) := (unhide I5).kept.cell 2
  have k3 : w5.cell? ⟨kb, 3, none⟩ = some (.bool al0) := (unhide I5).kept.cell 3
  have l0 : w5.cell? ⟨lb, 0, none⟩ = some (.int .i64 1) := (unhide I5).left.cell 0
  have l1 : w5.cell? ⟨lb, 1, none⟩ = some (.int .i64 s1) := (unhide I5).left.cell 1
  have kl := (unhide I5).kept.lt
  have ll := (unhide I5).left.lt
  have r0 : w5.cell? ⟨w.heap.size, 0, none⟩ = some (.pointer none) := (unhide I5).res.cell 0
  have r1 : w5.cell? ⟨w.heap.size, 1, none⟩ = some (.int .i64 0) := (unhide I5).res.cell 1
  have r2 : w5.cell? ⟨w.heap.size, 2, none⟩ = some (.bool false) := (unhide I5).res.cell 2
  have rf := (unhide I5).res.frozen
  have rl := (unhide I5).res.lt
  have nk : kb ≠ w.heap.size := by have := (unhide I5).ge; omega
  by_cases hl : 0 < s1
  ·have hli : (s1 : Int) > 0 := by omega
   have HC := hide (clear_t (unhide I5).tape 1 (by omega))
   obtain ⟨x2, hx2⟩ : ∃ x, clearP T 1 = x := ⟨_, rfl⟩
   rw [hx2] at HC
   obtain ⟨d2, T2⟩ := x2
   have HX2 := hide hx2
   clear hx2
   cases d2 with
   | true =>
    go_wp2_with fail
    refine (unhide HC).mono ?_
    rintro e w8 ⟨rfl, t8, m8⟩
    have I8 := hide ((unhide I5).turn (unhide HQ) (unhide HSS) t8 m8)
    clear k0 k1 k2 k3 l0 l1 kl ll r0 r1 r2 rf rl nk t8 m8 HC
    have k0 : w8.cell? ⟨kb, 0, none⟩ = some (.int .i64 0) := (unhide I8).kept.cell 0
    have k1 : w8.cell? ⟨kb, 1, none⟩ = some (.int .i64 s0) := (unhide I8).kept.cell 1
    have k2 : w8.cell? ⟨kb, 2, none⟩ = some (.slice a0 n0 c0) := (unhide I8).kept.cell 2
    have k3 : w8.cell? ⟨kb, 3, none⟩ = some (.bool al0) := (unhide I8).kept.cell 3
    have l0 : w8.cell? ⟨lb, 0, none⟩ = some (.int .i64 1) := (unhide I8).left.cell 0
    have l1 : w8.cell? ⟨lb, 1, none⟩ = some (.int .i64 s1) := (unhide I8).left.cell 1
    have kl := (unhide I8).kept.lt
    have ll := (unhide I8).left.lt
    have r0 : w8.cell? ⟨w.heap.size, 0, none⟩ = some (.pointer none) := (unhide I8).res.cell 0
    have r1 : w8.cell? ⟨w.heap.size, 1, none⟩ = some (.int .i64 0) := (unhide I8).res.cell 1
    have r2 : w8.cell? ⟨w.heap.size, 2, none⟩ = some (.bool false) := (unhide I8).res.cell 2
    have rf := (unhide I8).res.frozen
    have rl := (unhide I8).res.lt
    have nk : kb ≠ w.heap.size := by have := (unhide I8).ge; omega
    have HEQ := hide (show openP T 0 s0 s1 = (0, T2) from by unfold openP; simp [hk, hl, unhide HX2])
    go_wp2_with fail
    go_region
    all_goals go_wp2
    all_goals
     obtain ⟨z1, z2, z3, z4⟩ := OpI.fin (x := .pointer (some ⟨tb, 0, none⟩)) (y := .int .i64 0) (z := .bool (!al0)) (unhide HQ) (unhide HQM) (unhide I8) (unhide HSS)
     refine post_w (fun W => Has W w.heap.size #[.pointer (some ⟨tb, 0, none⟩), .int .i64 0, .bool (!al0)] 110 ∧ TapeH W S tb T2 ∧ Mod S w W ∧ Q w.heap.size W.heap.size (.slice a0 n0 c0) W) ⟨z1.dr, z2.dr, z3.drew, (unhide HQ) _ _ _ _ _ z4 (Mod.refl _ _).drew⟩ ?_
     rintro w7 ⟨h7, t7, m7, q7⟩
     have d0 : w7.cell? ⟨w.heap.size, 0, none⟩ = some (.pointer (some ⟨tb, 0, none⟩)) := h7.cell 0
     have d1 : w7.cell? ⟨w.heap.size, 1, none⟩ = some (.int .i64 0) := h7.cell 1
     have d2 : w7.cell? ⟨w.heap.size, 2, none⟩ = some (.bool (!al0)) := h7.cell 2
     refine bodyPost_ret (by simp [results, Tryz.results43, go_sem, d0, d1, d2]; try rfl) rfl ?_
     rw [unhide HEQ]
     exact ⟨t7, m7, fun _ => ⟨a0, c0, rfl, q7⟩, fun e => absurd rfl e⟩
   | false =>
    go_wp2_with fail
    refine (unhide HC).mono ?_
    rintro e w8 ⟨rfl, t8, m8⟩
    have I8 := hide ((unhide I5).turn (unhide HQ) (unhide HSS) t8 m8)
    clear k0 k1 k2 k3 l0 l1 kl ll r0 r1 r2 rf rl nk t8 m8 HC
    have k0 : w8.cell? ⟨kb, 0, none⟩ = some (.int .i64 0) := (unhide I8).kept.cell 0
    have k1 : w8.cell? ⟨kb, 1, none⟩ = some (.int .i64 s0) := (unhide I8).kept.cell 1
    have k2 : w8.cell? ⟨kb, 2, none⟩ = some (.slice a0 n0 c0) := (unhide I8).kept.cell 2
    have k3 : w8.cell? ⟨kb, 3, none⟩ = some (.bool al0) := (unhide I8).kept.cell 3
    have l0 : w8.cell? ⟨lb, 0, none⟩ = some (.int .i64 1) := (unhide I8).left.cell 0
    have l1 : w8.cell? ⟨lb, 1, none⟩ = some (.int .i64 s1) := (unhide I8).left.cell 1
    have kl := (unhide I8).kept.lt
    have ll := (unhide I8).left.lt
    have r0 : w8.cell? ⟨w.heap.size, 0, none⟩ = some (.pointer none) := (unhide I8).res.cell 0
    have r1 : w8.cell? ⟨w.heap.size, 1, none⟩ = some (.int .i64 0) := (unhide I8).res.cell 1
    have r2 : w8.cell? ⟨w.heap.size, 2, none⟩ = some (.bool false) := (unhide I8).res.cell 2
    have rf := (unhide I8).res.frozen
    have rl := (unhide I8).res.lt
    have nk : kb ≠ w.heap.size := by have := (unhide I8).ge; omega
    have HEQ := hide (show openP T 0 s0 s1 = (16, T2) from by unfold openP; simp [hk, hl, unhide HX2])
    go_wp2
    obtain ⟨z1, z2, z3, z4⟩ := OpI.fin (x := .pointer none) (y := .int .i64 0) (z := .bool false) (unhide HQ) (unhide HQM) (unhide I8) (unhide HSS)
    refine post_w (fun W => Has W w.heap.size #[.pointer none, .int .i64 0, .bool false] 110 ∧ TapeH W S tb T2 ∧ Mod S w W) ⟨z1, z2, z3⟩ ?_
    rintro w7 ⟨h7, t7, m7⟩
    have d0 : w7.cell? ⟨w.heap.size, 0, none⟩ = some (.pointer none) := h7.cell 0
    have d1 : w7.cell? ⟨w.heap.size, 1, none⟩ = some (.int .i64 0) := h7.cell 1
    have d2 : w7.cell? ⟨w.heap.size, 2, none⟩ = some (.bool false) := h7.cell 2
    refine bodyPost_ret (by simp [results, Tryz.results43, go_sem, d0, d1, d2]; try rfl) rfl ?_
    rw [unhide HEQ]
    exact ⟨t7, m7, fun e => absurd e (by show ¬ (16 : Int) = 0; omega), fun _ => rfl⟩
  ·have hli : ¬ (s1 : Int) > 0 := by omega
   have HEQ := hide (show openP T 0 s0 s1 = (0, T) from by unfold openP; simp [hk, hl])
   go_wp2_with fail
   go_region
   all_goals go_wp2
   all_goals
    obtain ⟨z1, z2, z3, z4⟩ := OpI.fin (x := .pointer (some ⟨tb, 0, none⟩)) (y := .int .i64 0) (z := .bool (!al0)) (unhide HQ) (unhide HQM) (unhide I5) (unhide HSS)
    refine post_w (fun W => Has W w.heap.size #[.pointer (some ⟨tb, 0, none⟩), .int .i64 0, .bool (!al0)] 110 ∧ TapeH W S tb T ∧ Mod S w W ∧ Q w.heap.size W.heap.size (.slice a0 n0 c0) W) ⟨z1.dr, z2.dr, z3.drew, (unhide HQ) _ _ _ _ _ z4 (Mod.refl _ _).drew⟩ ?_
    rintro w7 ⟨h7, t7, m7, q7⟩
    have d0 : w7.cell? ⟨w.heap.size, 0, none⟩ = some (.pointer (some ⟨tb, 0, none⟩)) := h7.cell 0
    have d1 : w7.cell? ⟨w.heap.size, 1, none⟩ = some (.int .i64 0) := h7.cell 1
    have d2 : w7.cell? ⟨w.heap.size, 2, none⟩ = some (.bool (!al0)) := h7.cell 2
    refine bodyPost_ret (by simp [results, Tryz.results43, go_sem, d0, d1, d2]; try rfl) rfl ?_
    rw [unhide HEQ]
    exact ⟨t7, m7, fun _ => ⟨a0, c0, rfl, q7⟩, fun e => absurd rfl e⟩
set_option maxHeartbeats 4000000
theorem step_callx {P : Program} {ops : Array Oper} {o : Oper} {a : Act} {w : World} {K : Act → World → Prop} {Q : Exit → Act → World → Prop} {E : Prop}
  (hg : o.guard = none) (f : FuncId) (args : Array Operand) (tys : Array TypeId) (hop : o.op = Op.call { callee := Callee.value (Operand.func f), args := args, argTypes := tys })
  (vs : Array Value) (hvs : args.map a.eval = vs) (hcf : ∀ W, (callFunc f vs).run P W = .ok (.enter f vs) W) (R : Value → World → Prop) (hc : Calls P f vs w fun e w' => ∃ v, e = .returned v ∧ R v w')
  (hK : ∀ v w', R v w' → K (a.put o.dst v) w') : if Region.wanted o (yielded ops a.tmps) = true then Oper.wp P o a w K Q else E := by
 have hw : Region.wanted o (yielded ops a.tmps) = true := by simp [Region.wanted, hg]
 rw [if_pos hw]
 unfold Oper.wp execOp
 simp [go_sem, hop, hvs]
 rw [hcf]
 simp [go_sem]
 refine hc.mono ?_
 rintro e w' ⟨v, rfl, hr⟩
 exact hK _ _ hr
theorem chV_iface (e : Ent) : ∃ t u, chV e = .iface t u := by
 unfold chV startV fillV emptyV shiftV refitV passV
 repeat' split
 all_goals exact ⟨_, _, rfl⟩
theorem record_one {w : World} {now : Int} {e : Ent} {t : TypeId} {u : Value} (hv : chV e = .iface t u) (hf : CFit now e) (b cap : Nat) (hb : Has w b #[.int .i64 e.fl, .iface t u] 125) :
  Calls Tryz.prog 81 #[.int .i64 now, .slice (some ⟨b, 0, none⟩) 1 cap] w fun r w' => ∃ v, r = .returned v ∧ Recorded w w' v (recB now [e]) := by
 refine record_any now b 0 1 cap w [e] rfl (by omega) (fun _ => e.fl) (fun _ => t) (fun _ => u) (fun i hi => ?_) hb.lt (fun i hi => ?_) (fun i hi W hW wb xs hx hX => ?_)
 ·obtain rfl : i = 0 := by omega
  exact ⟨hb.cell 0, hb.cell 1⟩
 ·have h1 := entB_len hf
  have : i = 0 ∨ i = 1 := by omega
  rcases this with rfl | rfl
  ·simp [entsTo, entsB]
  ·simp only [entsTo, entsB, List.take_succ_cons, List.take_zero, List.append_nil]
   omega
 ·obtain rfl : i = 0 := by simp at hi; omega
  have h1 : timeAt now [e] 0 = now := rfl
  rw [h1] at hX ⊢
  rw [← hv]
  exact wentry_any hX (fun k hk => Nat.le_trans hW.size hk) (by omega) e hf
theorem save_shut {w : World} {kb : Nat} {now : Int} {pt : Nat → Option Nat} (hh : Has w kb (keepCells now pt) 121) (hp : pt 29 = none) (ht : tornB pt = false) (e : Ent) (hf : CFit now e) :
  Calls Tryz.prog 50 #[.pointer (some ⟨kb, 0, none⟩), .agg #[.int .i64 e.fl, chV e]] w fun r w' => r = .returned (.int .i64 17) ∧ Mod No w w' := by
 obtain ⟨t, u, hv⟩ := chV_iface e
 have m0 : Mod No w (w.alloc (.cells #[.int .i64 e.fl, .iface t u] 125)) := (Mod.refl _ _).alloc _
 have b0 := Has.new w #[.int .i64 e.fl, .iface t u] 125
 have h1 := m0.has hh (fun x => x)
 have HV := hide hv
 rw [hv]
 have H1 := hide h1
 have M0 := hide m0
 have B0 := hide b0
 have HP := hide hp
 have HTN := hide ht
 clear hh h1 m0 b0 hp hv ht
 go_enter Tryz.func50, Tryz.ntmps50
 go_upto_region 3 with fail
 generalize w.alloc (.cells #[.int .i64 e.fl, .iface t u] 125) = w1 at *
 have HT := hide (torn_any (unhide H1) false (by rw [keep_s2, unhide HTN]))
 have c0 : w1.cell? ⟨kb, 0, none⟩ = some (.int .i64 now) := (unhide H1).cell 0
 have lt0 := (unhide H1).lt
 have e0 : w1.cell? ⟨w.heap.size, 0, none⟩ = some (.int .i64 e.fl) := (unhide B0).cell 0
 have e1 : w1.cell? ⟨w.heap.size, 1, none⟩ = some (.iface t u) := (unhide B0).cell 1
 have le0 := (unhide B0).lt
 go_wp2_with fail
 refine (unhide HT).mono ?_
 rintro r w1' ⟨rfl, rfl⟩
 have BX := hide (Has.new w1' #[.int .i64 e.fl, .iface t u] 125)
 have MX := hide ((Mod.refl No w1').alloc (.cells #[.int .i64 e.fl, .iface t u] 125))
 have HR := hide fun W (hb : Has W w1'.heap.size #[.int .i64 e.fl, .iface t u] 125) => record_one (unhide HV) hf w1'.heap.size 1 hb
 have HA := hide fun W a n c (hM : Mod No w1' W) => sappend_shut (hM.has (unhide H1) (fun x => x)) (by rw [keep_s0, unhide HP]; rfl) a n c
 clear HT
 go_wp2_with fail
 go_region_law (first
  |(refine step_callx rfl 81 _ _ rfl #[.int .i64 now, .slice (some ⟨w1'.heap.size, 0, none⟩) 1 1] (by simp [Act.eval, Act.put]) (fun W => by kernel_rfl) _ ((unhide HR) _ (by first | with_reducible exact (unhide BX).drew | with_reducible exact (unhide BX))) ?_; intro v5 w5 hr5; obtain ⟨a5, s5, rfl⟩ := slice_of_owns hr5.row)
  |(refine step_call rfl 80 _ _ rfl #[.pointer (some ⟨kb, 30, none⟩), _] (by simp [Act.eval, Act.put]; try rfl) (fun W => by kernel_rfl) (.int .i64 17) (fun w' => w' = w5) ((unhide HA) w5 a5 (recB now [e]).length s5 ((unhide MX).drew.trans hr5.mod)) ?_; rintro w6 rfl))
 all_goals go_wp2
 all_goals go_ret
 all_goals exact ⟨rfl, (unhide M0).trans ((unhide MX).drew.trans hr5.mod)⟩
structure Saved (w w' : World) (ow : Nat → Nat) (kb : Nat) (now : Int) (pt : Nat → Option Nat) (fl : Nat → Option (Pla × List Sea)) (K' : KS) : Prop where
 ex : ∃ ow' pt', KeepT w' ow' kb now pt' fl K' ∧ (∀ k, k < w.heap.size → ow' k = ow k) ∧ ∀ j, j < 29 → pt' j = pt j
 mod : Mod (fun k => ow k ≠ 0) w w'
theorem save_live {w : World} {ow : Nat → Nat} {kb : Nat} {now : Int} {pt : Nat → Option Nat} {fl : Nat → Option (Pla × List Sea)} {K : KS} (h : KeepT w ow kb now pt fl K) (hl : K.live = true) (ht : K.torn = false) (hi : K.file < 2) (hlen : (K.T.b K.file).length + 42 ≤ 17592186044416) (e : Ent) (hf : CFit now e) :
  Calls Tryz.prog 50 #[.pointer (some ⟨kb, 0, none⟩), .agg #[.int .i64 e.fl, chV e]] w fun r w' => r = .returned (.int .i64 (layK K (recB now [e])).1) ∧ Saved w w' ow kb now pt fl (layK K (recB now [e])).2 := by
 obtain ⟨t, u, hv⟩ := chV_iface e
 have m0 : Mod No w (w.alloc (.cells #[.int .i64 e.fl, .iface t u] 125)) := (Mod.refl _ _).alloc _
 have b0 := Has.new w #[.int .i64 e.fl, .iface t u] 125
 have hs0 : w.heap.size ≤ (w.alloc (.cells #[.int .i64 e.fl, .iface t u] 125)).heap.size := m0.size
 have h1 := h.mod0 m0
 have hp := h.ptr
 rw [hl, if_pos rfl] at hp
 have HV := hide hv
 rw [hv]
 unfold layK
 rw [hl, if_neg (by simp)]
 simp only
 obtain ⟨L, hL⟩ : ∃ L, layP K.T K.file (recB now [e]) = L := ⟨_, rfl⟩
 rw [hL]
 have HLL := hide hL
 clear hL
 have H1 := hide h1
 have H := hide h
 have M0 := hide m0
 have B0 := hide b0
 have HP := hide hp
 have HL := hide hl
 have HTN := hide ht
 clear h h1 m0 b0 hp hv hl ht
 go_enter Tryz.func50, Tryz.ntmps50
 go_upto_region 3 with fail
 generalize w.alloc (.cells #[.int .i64 e.fl, .iface t u] 125) = w1 at *
 have HT := hide (torn_any (unhide H1).keep.has false (by rw [keep_s2, (unhide H1).torn, unhide HTN]))
 have c0 : w1.cell? ⟨kb, 0, none⟩ = some (.int .i64 now) := (unhide H1).keep.has.cell 0
 have lt0 := (unhide H1).keep.has.lt
 have e0 : w1.cell? ⟨w.heap.size, 0, none⟩ = some (.int .i64 e.fl) := (unhide B0).cell 0
 have e1 : w1.cell? ⟨w.heap.size, 1, none⟩ = some (.iface t u) := (unhide B0).cell 1
 have le0 := (unhide B0).lt
 go_wp2_with fail
 refine (unhide HT).mono ?_
 rintro r w1' ⟨rfl, rfl⟩
 have BX := hide (Has.new w1' #[.int .i64 e.fl, .iface t u] 125)
 have MX := hide ((Mod.refl No w1').alloc (.cells #[.int .i64 e.fl, .iface t u] 125))
 have HR := hide fun W (hb : Has W w1'.heap.size #[.int .i64 e.fl, .iface t u] 125) => record_one (unhide HV) hf w1'.heap.size 1 hb
 have HRB := hide (rec1_byte hf)
 have HRL := hide (rec1_len hf)
 have HA := hide fun W v (hM : Mod No w1' W) (hr : W.ownsRow 0 5 1 v (recB now [e]).length (u8s (recB now [e]))) (hn : ∀ k, v.ownBlock = some k → w1'.heap.size ≤ k) =>
  (show Calls Tryz.prog 80 #[.pointer (some ⟨kb, 30, none⟩), v] W fun r w' => r = .returned (.int .i64 L.1) ∧ Saved w w' ow kb now pt fl { K with T := L.2, live := L.1 != 16 } from by
   rw [← unhide HLL]
   obtain ⟨a, c, rfl⟩ := slice_of_owns hr
   have hW := (unhide H1).mod0 hM
   have tl := (unhide H1).tape.lt
   have ko : ow kb = 1 := (unhide H1).keep.mine
   refine (sappend_any (S := fun k => ow k = 30) hW.keep.has (by rw [keep_s0, unhide HP]; rfl) (by omega) hW.tape K.file hi (by rw [keep_s1, hW.file]) a c (recB now [e]) (reads_of_owns hr) (fun q => by have := hn _ q; omega) (unhide HRB) (by have := unhide HRL; omega)).mono ?_
   rintro r w' ⟨q1, q2, q3, q4⟩
   obtain ⟨p1, p2, p3⟩ := KeepT.laid (unhide H) (Nat.le_trans (unhide M0).size hM.size) q4.size (unhide HL) q2 q3 ((((unhide M0).trans hM).mono (fun _ _ x => x.elim)).trans q4)
   exact ⟨q1, ⟨_, _, p1, p2, fun j hj => ptOf_eq _ _ _ (by omega)⟩, p3⟩)
 clear HT
 go_wp2_with fail
 go_region_law (first
  |(refine step_callx rfl 81 _ _ rfl #[.int .i64 now, .slice (some ⟨w1'.heap.size, 0, none⟩) 1 1] (by simp [Act.eval, Act.put]) (fun W => by kernel_rfl) _ ((unhide HR) _ (by first | with_reducible exact (unhide BX).drew | with_reducible exact (unhide BX))) ?_; intro v5 w5 hr5; obtain ⟨a5, s5, rfl⟩ := slice_of_owns hr5.row)
  |(refine step_call rfl 80 _ _ rfl #[.pointer (some ⟨kb, 30, none⟩), _] (by simp [Act.eval, Act.put]; try rfl) (fun W => by kernel_rfl) (.int .i64 L.1) _ ((unhide HA) _ _ ((unhide MX).drew.trans hr5.mod) hr5.row (fun k hk => Nat.le_trans (unhide MX).size (hr5.new k hk))) ?_; intro w6 hs6))
 all_goals go_wp2
 all_goals go_ret
 all_goals exact ⟨rfl, hs6⟩
end Go.Proofs.YthhibagcpjeihaaGreat
