import Derived.Test.YthhibagcpjeihaaGreatILaw2ToRef32
import Derived.Deep.RegionHeld2
namespace Go.Proofs.YthhibagcpjeihaaGreat
open Go.RowKit
open M
set_option linter.unusedVariables false
set_option linter.unusedSimpArgs false
set_option maxRecDepth 100000
set_option maxHeartbeats 8000000
theorem reseat_walk2 {w w0 : World} {nb g cap cp : Nat} {a : Option Addr} {Q : Pla} {num ep : Int} {acc0 hs : List Sea} (hw : ∀ s ∈ hs, s.wf ∧ s.st ≠ 0) (hl : hs.length ≤ 120) (Q0 : Exit → Act → World → Prop)
  (hI : Hid (ReN w w0 nb g cap Q num ep acc0 hs (.slice a hs.length cp) 0)) (sl0 sl1 sl2 sl3 sl4 sl5 sl8 sl9 sl10 sl12 sl13 sl14 sl15 sl16 sl17 sl18 sl19 sl20 sl21 sl22 sl23 sl24 sl25 sl26 sl27 sl28 sl29 sl30 sl31 sl32 sl33 sl34 sl35 sl36 sl37 sl38 sl39 sl40 sl41 sl42 sl43 sl44 sl45 sl46 sl47 sl48 sl49 sl50 sl51 sl52 sl53 sl54 sl55 sl56 sl57 sl58 sl59 sl60 sl61 sl62 sl63 sl64 sl65 sl66 sl67 sl68 sl69 sl70 sl71 sl72 sl73 sl74 sl75 sl76 sl77 sl78 sl79 sl80 sl81 sl82 sl83 sl84 sl85 sl86 sl87 sl88 sl89 sl90 sl91 sl92 sl93 sl94 sl95 sl96 sl97 sl98 sl99 sl100 sl101 sl102 sl103 sl104 sl105 sl106 sl107 sl108 sl109 sl110 sl111 sl112 sl113 sl114 sl115 sl116 sl117 sl118 sl119 sl120 sl121 sl122 : Value)
  (hexit : ∀ (x11 x12 x13 x85 x86 x87 x88 x89 x90 x91 x92 x93 x94 x95 x96 x97 x98 x99 x100 x101 x102 x103 x104 x105 x106 x107 x108 x109 x110 x111 x112 x113 x114 x115 x116 x117 x118 x119 : Value) (wx : World), Hid (ReN w wx nb g cap Q num ep acc0 hs (.slice a hs.length cp) hs.length) → Q0 (.exit 2) ⟨#[sl0, sl1, sl2, sl3, sl4, sl5, .pointer (some ⟨nb, 0, none⟩), .slice a hs.length cp, sl8, sl9, sl10, x11, x12, x13, sl14, sl15, sl16, sl17, sl18, sl19, sl20, sl21, sl22, sl23, sl24, sl25, sl26, sl27, sl28, sl29, sl30, sl31, sl32, sl33, sl34, sl35, sl36, sl37, sl38, sl39, sl40, sl41, sl42, sl43, sl44, sl45, sl46, sl47, sl48, sl49, sl50, sl51, sl52, sl53, sl54, sl55, sl56, sl57, sl58, sl59, sl60, sl61, sl62, sl63, sl64, sl65, sl66, sl67, sl68, sl69, sl70, sl71, sl72, sl73, sl74, sl75, sl76, sl77, sl78, sl79, sl80, sl81, sl82, sl83, sl84, x85, x86, x87, x88, x89, x90, x91, x92, x93, x94, x95, x96, x97, x98, x99, x100, x101, x102, x103, x104, x105, x106, x107, x108, x109, x110, x111, x112, x113, x114, x115, x116, x117, x118, x119, sl120, sl121, sl122], []⟩ wx) :
  Code.wp Tryz.prog (swapLoop 1) Q0 ⟨#[sl0, sl1, sl2, sl3, sl4, sl5, .pointer (some ⟨nb, 0, none⟩), .slice a hs.length cp, sl8, sl9, sl10, .int .i64 0, sl12, sl13, sl14, sl15, sl16, sl17, sl18, sl19, sl20, sl21, sl22, sl23, sl24, sl25, sl26, sl27, sl28, sl29, sl30, sl31, sl32, sl33, sl34, sl35, sl36, sl37, sl38, sl39, sl40, sl41, sl42, sl43, sl44, sl45, sl46, sl47, sl48, sl49, sl50, sl51, sl52, sl53, sl54, sl55, sl56, sl57, sl58, sl59, sl60, sl61, sl62, sl63, sl64, sl65, sl66, sl67, sl68, sl69, sl70, sl71, sl72, sl73, sl74, sl75, sl76, sl77, sl78, sl79, sl80, sl81, sl82, sl83, sl84, sl85, sl86, sl87, sl88, sl89, sl90, sl91, sl92, sl93, sl94, sl95, sl96, sl97, sl98, sl99, sl100, sl101, sl102, sl103, sl104, sl105, sl106, sl107, sl108, sl109, sl110, sl111, sl112, sl113, sl114, sl115, sl116, sl117, sl118, sl119, sl120, sl121, sl122], []⟩ w0 := by
 conv => arg 4; dsimp only
 conv => arg 2; whnf
 have HW := hide hw
 clear hw
 go_loopw [11] (fun s11 wr => ∃ n : Nat, s11 = .int .i64 n ∧ n ≤ hs.length ∧ Hid (ReN w wr nb g cap Q num ep acc0 hs (.slice a hs.length cp) n)) (fun s11 _ => hs.length - (intOf s11).toNat)
 case atStart => exact ⟨0, rfl, by omega, hI⟩
 case round =>
  obtain ⟨n, rfl, hn, I1⟩ := hrel
  clear hI
  by_cases hnl : n < hs.length
  ·have hni : (n : Int) < (hs.length : Int) := by omega
   have hn0 : (0 : Int) ≤ n := by omega
   have hn1 : IntKind.i64.wrap ((n : Int) + 1) = ((n + 1 : Nat) : Int) := by rw [wrap_id _ (by omega) (by omega)]; rfl
   obtain ⟨gh, rfl, RH⟩ := rowS_some (unhide I1).home (by omega)
   have hgo := (unhide I1).own gh rfl
   have RH := hide RH
   have HOW := hide hgo
   clear hgo
   go_upto_block 4 with fail
   refine wp_block ?_
   refine free_walk hnl _ I1 _ _ _ _ _ _ _ _ _ _ _ _ _ _ _ _ _ _ _ _ _ _ _ _ _ _ _ _ _ _ _ _ _ _ _ _ _ _ _ _ _ _ _ _ _ _ _ _ _ _ _ _ _ _ _ _ _ _ _ _ _ _ _ _ _ _ _ _ _ _ _ _ _ _ _ _ _ _ _ _ _ _ _ _ _ _ _ _ _ _ _ _ _ _ _ _ _ _ _ _ _ _ _ _ _ _ _ _ _ _ _ _ _ _ _ _ _ _ _ _ _ ?_
   intro x91 x92 x93 x94 x95 x96 x97 x98 x99
   have hkl := (unhide I1).free hnl
   obtain ⟨k, hk⟩ : ∃ k, firstFree (accN acc0 hs n) = k := ⟨_, rfl⟩
   rw [hk] at hkl ⊢
   obtain ⟨N, hN⟩ : ∃ N, (accN acc0 hs n).length = N := ⟨_, rfl⟩
   have hNle : N ≤ 120 := by rw [← hN]; exact wf_len (unhide I1).fli.wf
   have hki : (k : Int) < (N : Int) := by omega
   have hk0 : (0 : Int) ≤ k := by omega
   obtain ⟨x, hx⟩ : ∃ x, (accN acc0 hs n)[k] = x := ⟨_, rfl⟩
   obtain ⟨s, hs0⟩ : ∃ s, hs[n] = s := ⟨_, rfl⟩
   have HNX := hide fun W (hW : Mod No wr W) => ((unhide I1).still hW).next (unhide HW) hnl s hs0 k hk hkl x hx
   have HROW := hide fun W (hW : Mod No wr W) => (show W.cell? ⟨nb, 8, none⟩ = some (.slice (some ⟨g, 0, none⟩) N cap) from by rw [← hN]; exact ((unhide I1).fli.still hW).has.cell 8)
   have HCX := hide fun W (hW : Mod No wr W) => (show W.cell? ⟨g, k * 6, none⟩ = some (.int .i64 x.row) ∧ W.cell? ⟨g, k * 6 + 1, none⟩ = some (.int .i64 x.col) ∧ W.cell? ⟨g, k * 6 + 2, none⟩ = some (.int .i64 x.st) ∧ W.cell? ⟨g, k * 6 + 3, none⟩ = some (.int .i64 x.pa) ∧ W.cell? ⟨g, k * 6 + 4, none⟩ = some (.int .i64 x.cl) ∧ W.cell? ⟨g, k * 6 + 5, none⟩ = some (.int .i64 x.un) ∧ (∀ o, W.frozen? ⟨g, o, none⟩ = false) ∧ g < W.heap.size from by
    have r := ((unhide I1).fli.still hW).row
    exact ⟨by rw [← hx]; exact r.row k hkl, by rw [← hx]; exact r.col k hkl, by rw [← hx]; exact r.st k hkl, by rw [← hx]; exact r.pa k hkl, by rw [← hx]; exact r.cl k hkl, by rw [← hx]; exact r.un k hkl, r.froz, r.lt⟩)
   have HCS := hide fun W (hW : Mod No wr W) => (show W.cell? ⟨gh, n * 6, none⟩ = some (.int .i64 s.row) ∧ W.cell? ⟨gh, n * 6 + 1, none⟩ = some (.int .i64 s.col) ∧ W.cell? ⟨gh, n * 6 + 2, none⟩ = some (.int .i64 s.st) ∧ W.cell? ⟨gh, n * 6 + 3, none⟩ = some (.int .i64 s.pa) ∧ W.cell? ⟨gh, n * 6 + 4, none⟩ = some (.int .i64 s.cl) ∧ W.cell? ⟨gh, n * 6 + 5, none⟩ = some (.int .i64 s.un) from by
    have r := (unhide RH).mod hW (fun x => x)
    exact ⟨by rw [← hs0]; exact r.row n hnl, by rw [← hs0]; exact r.col n hnl, by rw [← hs0]; exact r.st n hnl, by rw [← hs0]; exact r.pa n hnl, by rw [← hs0]; exact r.cl n hnl, by rw [← hs0]; exact r.un n hnl⟩)
   have NG := hide (show g ≠ gh from fun e => (unhide HOW).2.2 e.symm)
   have NB := hide (show nb ≠ g from (unhide I1).fli.ne)
   clear hk hkl hN hx hs0 I1 RH HOW
   have r0 := (unhide HROW) wr (Mod.refl _ _)
   obtain ⟨d0, d1, _⟩ := (unhide HCX) wr (Mod.refl _ _)
   go_upto_region 23 with fail
   have M1 := hide ((Mod.refl No wr).alloc (.cells #[.int .i64 x.row, .int .i64 x.col] 36))
   have B1 := hide (Has.new wr #[.int .i64 x.row, .int .i64 x.col] 36)
   have hlt1 : wr.heap.size < (wr.alloc (.cells #[.int .i64 x.row, .int .i64 x.col] 36)).heap.size := (unhide B1).lt
   clear r0 d0 d1
   have GT := hide (show g ≠ wr.heap.size from by obtain ⟨_, _, _, _, _, _, _, h⟩ := (unhide HCX) wr (Mod.refl _ _); omega)
   generalize wr.heap.size = tb at *
   generalize wr.alloc (.cells #[.int .i64 x.row, .int .i64 x.col] 36) = w1 at *
   have r1 := (unhide HROW) w1 (unhide M1)
   obtain ⟨d0, d1, d2, d3, d4, d5, fz, lg⟩ := (unhide HCX) w1 (unhide M1)
   obtain ⟨c0, c1, c2, c3, c4, c5⟩ := (unhide HCS) w1 (unhide M1)
   have b0 : w1.cell? ⟨tb, 0, none⟩ = some (.int .i64 x.row) := (unhide B1).cell 0
   have b1 : w1.cell? ⟨tb, 1, none⟩ = some (.int .i64 x.col) := (unhide B1).cell 1
   have ng := unhide NG
   have nbg := unhide NB
   have gt := unhide GT
   have NX := hide ((unhide HNX) w1 (unhide M1))
   clear HNX HROW HCX HCS B1 M1
   go_region
   all_goals go_wp2
   all_goals exact ⟨⟨n + 1, rfl, by omega, (unhide NX).still (by repeat' (first | with_reducible exact Mod.refl _ _ | refine Mod.drewN ?_ _ | refine Mod.drew ?_))⟩, by simp [intOf]; omega⟩
  ·have hni : ¬ (n : Int) < (hs.length : Int) := by omega
   obtain rfl : n = hs.length := by omega
   go_wp2
def put10 (w : World) (gf fo : Nat) (num : Int) (Q : Pla) (g E cap : Nat) (ep : Int) : World := ((((((((((w.setCell ⟨gf, fo, none⟩ (.int .i64 num)).setCell ⟨gf, fo + 1, none⟩ (.int .i64 Q.rows)).setCell ⟨gf, fo + 2, none⟩ (.int .i64 Q.cols)).setCell ⟨gf, fo + 3, none⟩ (.int .i64 Q.front)).setCell ⟨gf, fo + 4, none⟩ (.int .i64 Q.l0)).setCell ⟨gf, fo + 5, none⟩ (.int .i64 Q.l1)).setCell ⟨gf, fo + 6, none⟩ (.int .i64 Q.l2)).setCell ⟨gf, fo + 7, none⟩ (.int .i64 Q.l3)).setCell ⟨gf, fo + 8, none⟩ (.slice (some ⟨g, 0, none⟩) E cap)).setCell ⟨gf, fo + 9, none⟩ (.int .i64 ep))
theorem NewF.made {w w3 w5 : World} {g cap : Nat} {Q : Pla} {num ep : Int} (hm : Mod No w w3) (h5 : Mod No w3 w5) (hr : RowS w5 g cap (emptySeats Q)) (hg : w3.heap.size < g) (hwf : Wf Q (emptySeats Q)) :
  NewF w (w5.alloc (.cells #[.int .i64 num, .int .i64 Q.rows, .int .i64 Q.cols, .int .i64 Q.front, .int .i64 Q.l0, .int .i64 Q.l1, .int .i64 Q.l2, .int .i64 Q.l3, .slice (some ⟨g, 0, none⟩) (emptySeats Q).length cap, .int .i64 ep] 134)) w5.heap.size g cap Q num ep (emptySeats Q) := by
 have h6 : Mod No w5 (w5.alloc (.cells #[.int .i64 num, .int .i64 Q.rows, .int .i64 Q.cols, .int .i64 Q.front, .int .i64 Q.l0, .int .i64 Q.l1, .int .i64 Q.l2, .int .i64 Q.l3, .slice (some ⟨g, 0, none⟩) (emptySeats Q).length cap, .int .i64 ep] 134)) := (Mod.refl _ _).alloc _
 have := hm.size
 have := h5.size
 have := hr.lt
 exact ⟨Has.new _ _ _, hr.mod h6 (fun x => x), hwf, by omega, by omega, (hm.trans h5).trans h6⟩
theorem NewF.made2 {w w3 w5 : World} {bb g cap : Nat} {Q : Pla} {num ep : Int} (hm : Mod No w w3) (h5 : Mod No w3 w5) (hz : Has w3 bb #[.int .i64 0, .int .i64 0, .int .i64 0, .int .i64 0, .int .i64 0, .int .i64 0, .int .i64 0, .int .i64 0, .slice none 0 0, .int .i64 0] 134) (hbb : w.heap.size ≤ bb) (hr : RowS w5 g cap (emptySeats Q)) (hg : w3.heap.size < g) (hwf : Wf Q (emptySeats Q)) :
  NewF w ((((((((((w5.setCell ⟨bb, 0, none⟩ (.int .i64 num)).setCell ⟨bb, 1, none⟩ (.int .i64 Q.rows)).setCell ⟨bb, 2, none⟩ (.int .i64 Q.cols)).setCell ⟨bb, 3, none⟩ (.int .i64 Q.front)).setCell ⟨bb, 4, none⟩ (.int .i64 Q.l0)).setCell ⟨bb, 5, none⟩ (.int .i64 Q.l1)).setCell ⟨bb, 6, none⟩ (.int .i64 Q.l2)).setCell ⟨bb, 7, none⟩ (.int .i64 Q.l3)).setCell ⟨bb, 8, none⟩ (.slice (some ⟨g, 0, none⟩) (emptySeats Q).length cap)).setCell ⟨bb, 9, none⟩ (.int .i64 ep)) bb g cap Q num ep (emptySeats Q) := by
 have z5 := h5.has hz (fun x => x)
 have hlt := hz.lt
 have hgb : g ≠ bb := by omega
 have m6 : Mod (fun k => k = bb) w5 ((((((((((w5.setCell ⟨bb, 0, none⟩ (.int .i64 num)).setCell ⟨bb, 1, none⟩ (.int .i64 Q.rows)).setCell ⟨bb, 2, none⟩ (.int .i64 Q.cols)).setCell ⟨bb, 3, none⟩ (.int .i64 Q.front)).setCell ⟨bb, 4, none⟩ (.int .i64 Q.l0)).setCell ⟨bb, 5, none⟩ (.int .i64 Q.l1)).setCell ⟨bb, 6, none⟩ (.int .i64 Q.l2)).setCell ⟨bb, 7, none⟩ (.int .i64 Q.l3)).setCell ⟨bb, 8, none⟩ (.slice (some ⟨g, 0, none⟩) (emptySeats Q).length cap)).setCell ⟨bb, 9, none⟩ (.int .i64 ep)) := (((((((((((Mod.refl _ w5).at 0 _).at 1 _).at 2 _).at 3 _).at 4 _).at 5 _).at 6 _).at 7 _).at 8 _).at 9 _)
 have e0 : Has (w5.setCell ⟨bb, 0, none⟩ (.int .i64 num)) bb #[.int .i64 num, .int .i64 0, .int .i64 0, .int .i64 0, .int .i64 0, .int .i64 0, .int .i64 0, .int .i64 0, .slice none 0 0, .int .i64 0] 134 := z5.set 0 _
 have e1 : Has ((w5.setCell ⟨bb, 0, none⟩ (.int .i64 num)).setCell ⟨bb, 1, none⟩ (.int .i64 Q.rows)) bb #[.int .i64 num, .int .i64 Q.rows, .int .i64 0, .int .i64 0, .int .i64 0, .int .i64 0, .int .i64 0, .int .i64 0, .slice none 0 0, .int .i64 0] 134 := e0.set 1 _
 have e2 : Has (((w5.setCell ⟨bb, 0, none⟩ (.int .i64 num)).setCell ⟨bb, 1, none⟩ (.int .i64 Q.rows)).setCell ⟨bb, 2, none⟩ (.int .i64 Q.cols)) bb #[.int .i64 num, .int .i64 Q.rows, .int .i64 Q.cols, .int .i64 0, .int .i64 0, .int .i64 0, .int .i64 0, .int .i64 0, .slice none 0 0, .int .i64 0] 134 := e1.set 2 _
 have e3 : Has ((((w5.setCell ⟨bb, 0, none⟩ (.int .i64 num)).setCell ⟨bb, 1, none⟩ (.int .i64 Q.rows)).setCell ⟨bb, 2, none⟩ (.int .i64 Q.cols)).setCell ⟨bb, 3, none⟩ (.int .i64 Q.front)) bb #[.int .i64 num, .int .i64 Q.rows, .int .i64 Q.cols, .int .i64 Q.front, .int .i64 0, .int .i64 0, .int .i64 0, .int .i64 0, .slice none 0 0, .int .i64 0] 134 := e2.set 3 _
 have e4 : Has (((((w5.setCell ⟨bb, 0, none⟩ (.int .i64 num)).setCell ⟨bb, 1, none⟩ (.int .i64 Q.rows)).setCell ⟨bb, 2, none⟩ (.int .i64 Q.cols)).setCell ⟨bb, 3, none⟩ (.int .i64 Q.front)).setCell ⟨bb, 4, none⟩ (.int .i64 Q.l0)) bb #[.int .i64 num, .int .i64 Q.rows, .int .i64 Q.cols, .int .i64 Q.front, .int .i64 Q.l0, .int .i64 0, .int .i64 0, .int .i64 0, .slice none 0 0, .int .i64 0] 134 := e3.set 4 _
 have e5 : Has ((((((w5.setCell ⟨bb, 0, none⟩ (.int .i64 num)).setCell ⟨bb, 1, none⟩ (.int .i64 Q.rows)).setCell ⟨bb, 2, none⟩ (.int .i64 Q.cols)).setCell ⟨bb, 3, none⟩ (.int .i64 Q.front)).setCell ⟨bb, 4, none⟩ (.int .i64 Q.l0)).setCell ⟨bb, 5, none⟩ (.int .i64 Q.l1)) bb #[.int .i64 num, .int .i64 Q.rows, .int .i64 Q.cols, .int .i64 Q.front, .int .i64 Q.l0, .int .i64 Q.l1, .int .i64 0, .int .i64 0, .slice none 0 0, .int .i64 0] 134 := e4.set 5 _
 have e6 : Has (((((((w5.setCell ⟨bb, 0, none⟩ (.int .i64 num)).setCell ⟨bb, 1, none⟩ (.int .i64 Q.rows)).setCell ⟨bb, 2, none⟩ (.int .i64 Q.cols)).setCell ⟨bb, 3, none⟩ (.int .i64 Q.front)).setCell ⟨bb, 4, none⟩ (.int .i64 Q.l0)).setCell ⟨bb, 5, none⟩ (.int .i64 Q.l1)).setCell ⟨bb, 6, none⟩ (.int .i64 Q.l2)) bb #[.int .i64 num, .int .i64 Q.rows, .int .i64 Q.cols, .int .i64 Q.front, .int .i64 Q.l0, .int .i64 Q.l1, .int .i64 Q.l2, .int .i64 0, .slice none 0 0, .int .i64 0] 134 := e5.set 6 _
 have e7 : Has ((((((((w5.setCell ⟨bb, 0, none⟩ (.int .i64 num)).setCell ⟨bb, 1, none⟩ (.int .i64 Q.rows)).setCell ⟨bb, 2, none⟩ (.int .i64 Q.cols)).setCell ⟨bb, 3, none⟩ (.int .i64 Q.front)).setCell ⟨bb, 4, none⟩ (.int .i64 Q.l0)).setCell ⟨bb, 5, none⟩ (.int .i64 Q.l1)).setCell ⟨bb, 6, none⟩ (.int .i64 Q.l2)).setCell ⟨bb, 7, none⟩ (.int .i64 Q.l3)) bb #[.int .i64 num, .int .i64 Q.rows, .int .i64 Q.cols, .int .i64 Q.front, .int .i64 Q.l0, .int .i64 Q.l1, .int .i64 Q.l2, .int .i64 Q.l3, .slice none 0 0, .int .i64 0] 134 := e6.set 7 _
 have e8 : Has (((((((((w5.setCell ⟨bb, 0, none⟩ (.int .i64 num)).setCell ⟨bb, 1, none⟩ (.int .i64 Q.rows)).setCell ⟨bb, 2, none⟩ (.int .i64 Q.cols)).setCell ⟨bb, 3, none⟩ (.int .i64 Q.front)).setCell ⟨bb, 4, none⟩ (.int .i64 Q.l0)).setCell ⟨bb, 5, none⟩ (.int .i64 Q.l1)).setCell ⟨bb, 6, none⟩ (.int .i64 Q.l2)).setCell ⟨bb, 7, none⟩ (.int .i64 Q.l3)).setCell ⟨bb, 8, none⟩ (.slice (some ⟨g, 0, none⟩) (emptySeats Q).length cap)) bb #[.int .i64 num, .int .i64 Q.rows, .int .i64 Q.cols, .int .i64 Q.front, .int .i64 Q.l0, .int .i64 Q.l1, .int .i64 Q.l2, .int .i64 Q.l3, .slice (some ⟨g, 0, none⟩) (emptySeats Q).length cap, .int .i64 0] 134 := e7.set 8 _
 have e9 : Has ((((((((((w5.setCell ⟨bb, 0, none⟩ (.int .i64 num)).setCell ⟨bb, 1, none⟩ (.int .i64 Q.rows)).setCell ⟨bb, 2, none⟩ (.int .i64 Q.cols)).setCell ⟨bb, 3, none⟩ (.int .i64 Q.front)).setCell ⟨bb, 4, none⟩ (.int .i64 Q.l0)).setCell ⟨bb, 5, none⟩ (.int .i64 Q.l1)).setCell ⟨bb, 6, none⟩ (.int .i64 Q.l2)).setCell ⟨bb, 7, none⟩ (.int .i64 Q.l3)).setCell ⟨bb, 8, none⟩ (.slice (some ⟨g, 0, none⟩) (emptySeats Q).length cap)).setCell ⟨bb, 9, none⟩ (.int .i64 ep)) bb #[.int .i64 num, .int .i64 Q.rows, .int .i64 Q.cols, .int .i64 Q.front, .int .i64 Q.l0, .int .i64 Q.l1, .int .i64 Q.l2, .int .i64 Q.l3, .slice (some ⟨g, 0, none⟩) (emptySeats Q).length cap, .int .i64 ep] 134 := e8.set 9 _
 exact ⟨e9, hr.mod m6 hgb, hwf, fun e => hgb e.symm, by have := hm.size; omega, (hm.trans h5).trans' m6 (fun i hi hl => by omega)⟩
structure FlW (w : World) (gf fo g0 cap0 : Nat) (p Q : Pla) (num ep : Int) (l : List Sea) : Prop where
 row : RowS w g0 cap0 l
 wf : Wf p l
 ne : gf ≠ g0
 cell : ∀ j, j < 10 → w.cell? ⟨gf, fo + j, none⟩ = (nV num p g0 l.length cap0 ep)[j]?
 froz : ∀ o, w.frozen? ⟨gf, o, none⟩ = false
 lt : gf < w.heap.size
 l0 : Q.l0 = p.l0
 l1 : Q.l1 = p.l1
 l2 : Q.l2 = p.l2
 l3 : Q.l3 = p.l3
theorem swapped_bad {w : World} {gf fo g0 cap0 : Nat} {p Q : Pla} {l : List Sea} {num ep : Int} (a0 a1 a2 a3 : Int) (h : FlW w gf fo g0 cap0 p Q num ep l) (hb : ¬ (Q.sized = true ∧ ¬ Q.rows * Q.cols < (nFull l : Int))) :
  Calls Tryz.prog 54 #[.pointer (some ⟨gf, fo, none⟩), .agg #[.int .i64 Q.rows, .int .i64 Q.cols, .int .i64 Q.front, .int .i64 a0, .int .i64 a1, .int .i64 a2, .int .i64 a3]] w fun e w' => e = .returned (.int .i64 4) ∧ Mod No w w' := by
 have HCG := hide fun W (hW : Mod No w W) => (show W.cell? ⟨gf, fo, none⟩ = some (.int .i64 num) ∧ W.cell? ⟨gf, fo + 1, none⟩ = some (.int .i64 p.rows) ∧ W.cell? ⟨gf, fo + 2, none⟩ = some (.int .i64 p.cols) ∧ W.cell? ⟨gf, fo + 3, none⟩ = some (.int .i64 p.front) ∧ W.cell? ⟨gf, fo + 4, none⟩ = some (.int .i64 Q.l0) ∧ W.cell? ⟨gf, fo + 5, none⟩ = some (.int .i64 Q.l1) ∧ W.cell? ⟨gf, fo + 6, none⟩ = some (.int .i64 Q.l2) ∧ W.cell? ⟨gf, fo + 7, none⟩ = some (.int .i64 Q.l3) ∧ W.cell? ⟨gf, fo + 8, none⟩ = some (.slice (some ⟨g0, 0, none⟩) l.length cap0) ∧ W.cell? ⟨gf, fo + 9, none⟩ = some (.int .i64 ep) ∧ (∀ o, W.frozen? ⟨gf, o, none⟩ = false) ∧ gf < W.heap.size from by
  have hgl := h.lt
  have k := fun j (hj : j < 10) v (hv : (nV num p g0 l.length cap0 ep)[j]? = some v) => cell_keep hW ((h.cell j hj).trans hv) (fun x => x)
  refine ⟨k 0 (by omega) _ rfl, k 1 (by omega) _ rfl, k 2 (by omega) _ rfl, k 3 (by omega) _ rfl, by rw [h.l0]; exact k 4 (by omega) _ rfl, by rw [h.l1]; exact k 5 (by omega) _ rfl, by rw [h.l2]; exact k 6 (by omega) _ rfl, by rw [h.l3]; exact k 7 (by omega) _ rfl, k 8 (by omega) _ rfl, k 9 (by omega) _ rfl, fun o => ?_, Nat.lt_of_lt_of_le hgl hW.size⟩
  have := h.froz o
  unfold World.frozen? at this ⊢
  rw [hW.block gf hgl (fun x => x)]
  exact this)
 have HSZ := hide fun W => (show Calls Tryz.prog 82 #[.agg #[.int .i64 Q.rows, .int .i64 Q.cols, .int .i64 Q.front, .int .i64 a0, .int .i64 a1, .int .i64 a2, .int .i64 a3]] W fun e w' => e = .returned (.bool Q.sized) ∧ Mod No W w' from rsized_any ⟨Q.rows, Q.cols, Q.front, a0, a1, a2, a3, 0⟩ W)
 have HFR := hide fun W (hW : Mod No w W) => free_any gf fo g0 cap0 l W (h.row.mod hW (fun x => x)) (by have := wf_len h.wf; omega) (cell_keep hW (h.cell 8 (by omega)) (fun x => x))
 have hl1 : l.length ≤ 120 := wf_len h.wf
 have hfl := nFree_le l
 have hff := nFull_free l
 have M0 := hide ((Mod.refl No w).alloc (.cells #[.int .i64 Q.rows, .int .i64 Q.cols, .int .i64 Q.front, .int .i64 a0, .int .i64 a1, .int .i64 a2, .int .i64 a3] 39))
 have B0 := hide (Has.new w #[.int .i64 Q.rows, .int .i64 Q.cols, .int .i64 Q.front, .int .i64 a0, .int .i64 a1, .int .i64 a2, .int .i64 a3] 39)
 cases hs : Q.sized with
 | false =>
  rw [hs] at HSZ
  clear h hb hs HFR
  go_enter Tryz.func54, Tryz.ntmps54
  go_wp2_with fail
  refine ((unhide HSZ) _).mono ?_
  rintro e w2 ⟨rfl, m2⟩
  have M2 := hide ((unhide M0).trans m2)
  clear m2 B0 M0
  obtain ⟨f0, f1, f2, f3, f4, f5, f6, f7, f8, f9, fz, fl⟩ := (unhide HCG) w2 (unhide M2)
  go_wp2_with fail
  go_quiet (fail)
  go_wp2
  go_ret
  exact ⟨rfl, (unhide M2).drewN _⟩
 | true =>
  have hlt : Q.rows * Q.cols < (nFull l : Int) := by
   by_cases hx : Q.rows * Q.cols < (nFull l : Int)
   ·exact hx
   ·exact absurd ⟨hs, hx⟩ hb
  have hsb := hs
  simp only [Pla.sized, decide_eq_true_eq] at hsb
  have m0 : 0 ≤ Q.rows * Q.cols := Int.mul_nonneg (by omega) (by omega)
  have e1 : wrap64 (Q.rows * Q.cols) = Q.rows * Q.cols := by unfold wrap64; omega
  have e2 : IntKind.i64.wrap ((l.length : Int) - (nFree l : Int)) = (l.length : Int) - (nFree l : Int) := wrap_id _ (by omega) (by omega)
  have hd : decide (Q.rows * Q.cols < (l.length : Int) - (nFree l : Int)) = true := by simp; omega
  rw [hs] at HSZ
  clear h hb hs hsb hlt hff m0
  generalize nFree l = fr at *
  go_enter Tryz.func54, Tryz.ntmps54
  go_wp2_with fail
  refine ((unhide HSZ) _).mono ?_
  rintro e w2 ⟨rfl, m2⟩
  have M2 := hide ((unhide M0).trans m2)
  have b2 := (m2.has (unhide B0) (fun x => x)).cell
  clear m2 B0 M0
  generalize w.heap.size = pb at *
  obtain ⟨f0, f1, f2, f3, f4, f5, f6, f7, f8, f9, fz, fl⟩ := (unhide HCG) w2 (unhide M2)
  have HFN := hide fun n => (unhide HFR) (w2.drewN n) ((unhide M2).drewN n)
  clear HFR
  go_wp2_with fail
  go_quiet ((go_at_call 58; exact Calls.quiet_of_same ((unhide HFN) _)))
  go_wp2
  go_ret
  exact ⟨rfl, (unhide M2).drewN _⟩
theorem ReN.start {w wr : World} {nb g cap cp : Nat} {p Q : Pla} {num ep : Int} {l : List Sea} {a : Option Addr} (h : StI w wr nb g cap Q num ep l (.slice a (nHome Q l l.length) cp) l.length) (hwf : Wf p l) (h1 : Q.sized = true) (h2 : Q.limited = true) (hn : ¬ Q.rows * Q.cols < (nFull l : Int)) :
  ReN w wr nb g cap Q num ep (stay Q l) (homeless Q l) (.slice a (homeless Q l).length cp) 0 := by
 obtain ⟨k1, k2, k3⟩ := h
 unfold nHome at k2 k3
 rw [List.take_length] at k1 k2 k3
 exact ⟨k1, reseat_start hwf h1 h2 hn, k2, k3⟩
theorem swapped_ok {w : World} {gf fo g0 cap0 : Nat} {p Q : Pla} {l : List Sea} {num ep : Int} (a0 a1 a2 a3 : Int) (h : FlW w gf fo g0 cap0 p Q num ep l) (h1 : Q.sized = true) (h2 : Q.limited = true) (hn : ¬ Q.rows * Q.cols < (nFull l : Int)) :
  Calls Tryz.prog 54 #[.pointer (some ⟨gf, fo, none⟩), .agg #[.int .i64 Q.rows, .int .i64 Q.cols, .int .i64 Q.front, .int .i64 a0, .int .i64 a1, .int .i64 a2, .int .i64 a3]] w fun e w' => e = .returned (.int .i64 0) ∧
   ∃ (wx : World) (g cap : Nat), Mod No w wx ∧ w.heap.size ≤ g ∧ RowS wx g cap (swapSeats Q l) ∧ w' = put10 wx gf fo num Q g (swapSeats Q l).length cap ep := by
 have HCG := hide fun W (hW : Mod No w W) => (show W.cell? ⟨gf, fo, none⟩ = some (.int .i64 num) ∧ W.cell? ⟨gf, fo + 1, none⟩ = some (.int .i64 p.rows) ∧ W.cell? ⟨gf, fo + 2, none⟩ = some (.int .i64 p.cols) ∧ W.cell? ⟨gf, fo + 3, none⟩ = some (.int .i64 p.front) ∧ W.cell? ⟨gf, fo + 4, none⟩ = some (.int .i64 Q.l0) ∧ W.cell? ⟨gf, fo + 5, none⟩ = some (.int .i64 Q.l1) ∧ W.cell? ⟨gf, fo + 6, none⟩ = some (.int .i64 Q.l2) ∧ W.cell? ⟨gf, fo + 7, none⟩ = some (.int .i64 Q.l3) ∧ W.cell? ⟨gf, fo + 8, none⟩ = some (.slice (some ⟨g0, 0, none⟩) l.length cap0) ∧ W.cell? ⟨gf, fo + 9, none⟩ = some (.int .i64 ep) ∧ (∀ o, W.frozen? ⟨gf, o, none⟩ = false) ∧ gf < W.heap.size from by
  have hgl := h.lt
  have k := fun j (hj : j < 10) v (hv : (nV num p g0 l.length cap0 ep)[j]? = some v) => cell_keep hW ((h.cell j hj).trans hv) (fun x => x)
  refine ⟨k 0 (by omega) _ rfl, k 1 (by omega) _ rfl, k 2 (by omega) _ rfl, k 3 (by omega) _ rfl, by rw [h.l0]; exact k 4 (by omega) _ rfl, by rw [h.l1]; exact k 5 (by omega) _ rfl, by rw [h.l2]; exact k 6 (by omega) _ rfl, by rw [h.l3]; exact k 7 (by omega) _ rfl, k 8 (by omega) _ rfl, k 9 (by omega) _ rfl, fun o => ?_, Nat.lt_of_lt_of_le hgl hW.size⟩
  have := h.froz o
  unfold World.frozen? at this ⊢
  rw [hW.block gf hgl (fun x => x)]
  exact this)
 have HSZ := hide fun W => (show Calls Tryz.prog 82 #[.agg #[.int .i64 Q.rows, .int .i64 Q.cols, .int .i64 Q.front, .int .i64 a0, .int .i64 a1, .int .i64 a2, .int .i64 a3]] W fun e w' => e = .returned (.bool Q.sized) ∧ Mod No W w' from rsized_any ⟨Q.rows, Q.cols, Q.front, a0, a1, a2, a3, 0⟩ W)
 have HFR := hide fun W (hW : Mod No w W) => free_any gf fo g0 cap0 l W (h.row.mod hW (fun x => x)) (by have := wf_len h.wf; omega) (cell_keep hW (h.cell 8 (by omega)) (fun x => x))
 have hl1 : l.length ≤ 120 := wf_len h.wf
 have hfl := nFree_le l
 have hff := nFull_free l
 have M0 := hide ((Mod.refl No w).alloc (.cells #[.int .i64 Q.rows, .int .i64 Q.cols, .int .i64 Q.front, .int .i64 a0, .int .i64 a1, .int .i64 a2, .int .i64 a3] 39))
 have B0 := hide (Has.new w #[.int .i64 Q.rows, .int .i64 Q.cols, .int .i64 Q.front, .int .i64 a0, .int .i64 a1, .int .i64 a2, .int .i64 a3] 39)
 have HFLR := hide (show FlR w gf fo g0 cap0 p l from ⟨h.row, by omega, h.ne, h.cell 8 (by omega), fun j hj => by
  rw [Nat.add_assoc, h.cell (4 + j) (by omega)]
  match j, hj with
  | 0, _ => rfl
  | 1, _ => rfl
  | 2, _ => rfl
  | 3, _ => rfl⟩)
 have HWF := hide h.wf
 have HEW := hide (empty_wf h1 h2)
 have HE := hide fun W => (show Calls Tryz.prog 84 #[.agg #[.int .i64 Q.rows, .int .i64 Q.cols, .int .i64 Q.front, .int .i64 Q.l0, .int .i64 Q.l1, .int .i64 Q.l2, .int .i64 Q.l3]] W fun e w' => ∃ v, e = .returned v ∧ ∃ g cap, v = .slice (some ⟨g, 0, none⟩) (emptySeats Q).length cap ∧ RowS w' g cap (emptySeats Q) ∧ W.heap.size < g ∧ Mod No W w' from
  (rempty_any Q h1 W).mono fun e w' ⟨g, cap, k1, k2⟩ => ⟨_, k1, g, cap, rfl, k2⟩)
 have H1 := hide h1
 have H2 := hide h2
 have HN := hide hn
 have hsb := h1
 simp only [Pla.sized, decide_eq_true_eq] at hsb
 have m0 : 0 ≤ Q.rows * Q.cols := Int.mul_nonneg (by omega) (by omega)
 have m1 : Q.rows * Q.cols ≤ 20 * 6 := Int.mul_le_mul (by omega) (by omega) (by omega) (by omega)
 have e1 : wrap64 (Q.rows * Q.cols) = Q.rows * Q.cols := by unfold wrap64; omega
 have e2 : IntKind.i64.wrap ((l.length : Int) - (nFree l : Int)) = (l.length : Int) - (nFree l : Int) := wrap_id _ (by omega) (by omega)
 have hd : decide (Q.rows * Q.cols < (l.length : Int) - (nFree l : Int)) = false := by simp; omega
 rw [h1] at HSZ
 clear h h1 h2 hn hsb hff m0 m1
 generalize nFree l = fr at *
 go_enter Tryz.func54, Tryz.ntmps54
 go_wp2_with fail
 refine ((unhide HSZ) _).mono ?_
 rintro e w2 ⟨rfl, m2⟩
 have M2 := hide ((unhide M0).trans m2)
 have B2 := hide (m2.has (unhide B0) (fun x => x))
 have b2 := (unhide B2).cell
 have PW := hide (show w.heap.size ≤ w.heap.size from Nat.le_refl _)
 clear m2 B0 M0
 generalize hpb : w.heap.size = pb at *
 have HPB := hide hpb
 clear hpb
 obtain ⟨f0, f1, f2, f3, f4, f5, f6, f7, f8, f9, fz, fl⟩ := (unhide HCG) w2 (unhide M2)
 have HFN := hide fun n => (unhide HFR) (w2.drewN n) ((unhide M2).drewN n)
 clear HFR HSZ
 go_upto_region 2 with fail
 go_cut [33] (fun s33 wx => s33 = .bool false ∧ Hid (Mod No w2 wx))
 case first =>
  go_quiet ((go_at_call 58; exact Calls.quiet_of_same ((unhide HFN) _)))
  go_wp2
  go_meet
  exact ⟨rfl, (Mod.refl No w2).drewN _⟩
 case rest =>
  obtain ⟨rfl, MC⟩ := hcut
  apply_assumption
  clear HFN f0 f1 f2 f3 f4 f5 f6 f7 f8 f9 fz fl b2 hd e1 e2
  have M3 := hide ((unhide M2).trans (unhide MC))
  have B3 := hide ((unhide MC).has (unhide B2) (fun x => x))
  have b3 := (unhide B3).cell
  have bz3 := (unhide B3).frozen
  have bl3 := (unhide B3).lt
  obtain ⟨f0, f1, f2, f3, f4, f5, f6, f7, f8, f9, fz, fl⟩ := (unhide HCG) wc (unhide M3)
  have NP := hide (show gf ≠ pb from fun e => by have := (unhide HFLR).slice; have := World.block_lt_of_cell? w _ this; have := unhide HPB; simp only at *; omega)
  have np := unhide NP
  clear M2 B2 MC
  go_upto_region 5 with fail
  have B4 := hide (show Has ((((wc.setCell ⟨pb, 3, none⟩ (.int .i64 Q.l0)).setCell ⟨pb, 4, none⟩ (.int .i64 Q.l1)).setCell ⟨pb, 5, none⟩ (.int .i64 Q.l2)).setCell ⟨pb, 6, none⟩ (.int .i64 Q.l3)) pb #[.int .i64 Q.rows, .int .i64 Q.cols, .int .i64 Q.front, .int .i64 Q.l0, .int .i64 Q.l1, .int .i64 Q.l2, .int .i64 Q.l3] 39 from ((((unhide B3).set 3 _).set 4 _).set 5 _).set 6 _)
  have M4 := hide (show Mod No w ((((wc.setCell ⟨pb, 3, none⟩ (.int .i64 Q.l0)).setCell ⟨pb, 4, none⟩ (.int .i64 Q.l1)).setCell ⟨pb, 5, none⟩ (.int .i64 Q.l2)).setCell ⟨pb, 6, none⟩ (.int .i64 Q.l3)) from ((((unhide M3).setCell (p := ⟨pb, 3, none⟩) (.inr (by have := unhide HPB; simp only; omega)) _).setCell (p := ⟨pb, 4, none⟩) (.inr (by have := unhide HPB; simp only; omega)) _).setCell (p := ⟨pb, 5, none⟩) (.inr (by have := unhide HPB; simp only; omega)) _).setCell (p := ⟨pb, 6, none⟩) (.inr (by have := unhide HPB; simp only; omega)) _)
  clear b3 bz3 bl3 f0 f1 f2 f3 f4 f5 f6 f7 f8 f9 fz fl B3 M3 np
  generalize ((((wc.setCell ⟨pb, 3, none⟩ (.int .i64 Q.l0)).setCell ⟨pb, 4, none⟩ (.int .i64 Q.l1)).setCell ⟨pb, 5, none⟩ (.int .i64 Q.l2)).setCell ⟨pb, 6, none⟩ (.int .i64 Q.l3)) = w4 at *
  have b4 := (unhide B4).cell
  have lb4 := (unhide B4).lt
  obtain ⟨f0, _, _, _, _, _, _, _, _, f9, _, fl⟩ := (unhide HCG) w4 (unhide M4)
  go_cut [6] (fun s6 wx => ∃ nb g cap, s6 = .pointer (some ⟨nb, 0, none⟩) ∧ Hid (NewF w wx nb g cap Q num ep (emptySeats Q)))
  case first =>
   have B4d := hide (unhide B4).drew
   have M4d := hide (unhide M4).drew
   have mz : Mod No w4 ((w4.alloc (.cells #[.int .i64 0, .int .i64 0, .int .i64 0, .int .i64 0, .int .i64 0, .int .i64 0, .int .i64 0, .int .i64 0, .slice none 0 0, .int .i64 0] 134)).drew) := ((Mod.refl _ w4).alloc _).drew
   have B4z := hide (mz.has (unhide B4) (fun x => x))
   have M4z := hide ((unhide M4).trans mz)
   have Z4z := hide (Has.new w4 #[.int .i64 0, .int .i64 0, .int .i64 0, .int .i64 0, .int .i64 0, .int .i64 0, .int .i64 0, .int .i64 0, .slice none 0 0, .int .i64 0] 134).drew
   clear mz
   have gz1 : gf ≠ w4.heap.size := by omega
   have gz2 : w4.heap.size ≠ gf := by omega
   have pz1 : pb ≠ w4.heap.size := by omega
   have pz2 : w4.heap.size ≠ pb := by omega
   go_region_held2 (fun w' => w'.cell? ⟨gf, fo, none⟩ = some (.int .i64 num) ∧ w'.cell? ⟨gf, fo + 9, none⟩ = some (.int .i64 ep) ∧ w'.cell? ⟨pb, 0, none⟩ = some (.int .i64 Q.rows) ∧ w'.cell? ⟨pb, 1, none⟩ = some (.int .i64 Q.cols) ∧ w'.cell? ⟨pb, 2, none⟩ = some (.int .i64 Q.front) ∧ w'.cell? ⟨pb, 3, none⟩ = some (.int .i64 Q.l0) ∧ w'.cell? ⟨pb, 4, none⟩ = some (.int .i64 Q.l1) ∧ w'.cell? ⟨pb, 5, none⟩ = some (.int .i64 Q.l2) ∧ w'.cell? ⟨pb, 6, none⟩ = some (.int .i64 Q.l3)) (first | with_reducible assumption | go_keep) (first
    |(refine step_call2 rfl 84 _ _ rfl #[.agg #[.int .i64 Q.rows, .int .i64 Q.cols, .int .i64 Q.front, .int .i64 Q.l0, .int .i64 Q.l1, .int .i64 Q.l2, .int .i64 Q.l3]] (by simp [Act.eval, Act.put]) (fun W => by kernel_rfl) _ ((unhide HE) _) ?_; rintro v5 w5 ⟨g5, cap5, rfl, h5, z5, m5⟩; have s5 : w5.cell? ⟨gf, fo, none⟩ = some (.int .i64 num) ∧ w5.cell? ⟨gf, fo + 9, none⟩ = some (.int .i64 ep) ∧ w5.cell? ⟨pb, 0, none⟩ = some (.int .i64 Q.rows) ∧ w5.cell? ⟨pb, 1, none⟩ = some (.int .i64 Q.cols) ∧ w5.cell? ⟨pb, 2, none⟩ = some (.int .i64 Q.front) ∧ w5.cell? ⟨pb, 3, none⟩ = some (.int .i64 Q.l0) ∧ w5.cell? ⟨pb, 4, none⟩ = some (.int .i64 Q.l1) ∧ w5.cell? ⟨pb, 5, none⟩ = some (.int .i64 Q.l2) ∧ w5.cell? ⟨pb, 6, none⟩ = some (.int .i64 Q.l3) := (by have hb := (m5.has (unhide B4d) (fun x => x)).cell; obtain ⟨k0, _, _, _, _, _, _, _, _, k9, _, _⟩ := (unhide HCG) w5 ((unhide M4d).trans m5); exact ⟨k0, k9, hb 0, hb 1, hb 2, hb 3, hb 4, hb 5, hb 6⟩); obtain ⟨s50, s59, s5a, s5b, s5c, s5d, s5e, s5f, s5g⟩ := id s5)
    |(refine step_call2 rfl 84 _ _ rfl #[.agg #[.int .i64 Q.rows, .int .i64 Q.cols, .int .i64 Q.front, .int .i64 Q.l0, .int .i64 Q.l1, .int .i64 Q.l2, .int .i64 Q.l3]] (by simp [Act.eval, Act.put]) (fun W => by kernel_rfl) _ ((unhide HE) _) ?_; rintro v5 w5 ⟨g5, cap5, rfl, h5, z5, m5⟩; have s5 : w5.cell? ⟨gf, fo, none⟩ = some (.int .i64 num) ∧ w5.cell? ⟨gf, fo + 9, none⟩ = some (.int .i64 ep) ∧ w5.cell? ⟨pb, 0, none⟩ = some (.int .i64 Q.rows) ∧ w5.cell? ⟨pb, 1, none⟩ = some (.int .i64 Q.cols) ∧ w5.cell? ⟨pb, 2, none⟩ = some (.int .i64 Q.front) ∧ w5.cell? ⟨pb, 3, none⟩ = some (.int .i64 Q.l0) ∧ w5.cell? ⟨pb, 4, none⟩ = some (.int .i64 Q.l1) ∧ w5.cell? ⟨pb, 5, none⟩ = some (.int .i64 Q.l2) ∧ w5.cell? ⟨pb, 6, none⟩ = some (.int .i64 Q.l3) := (by have hb := (m5.has (unhide B4z) (fun x => x)).cell; obtain ⟨k0, _, _, _, _, _, _, _, _, k9, _, _⟩ := (unhide HCG) w5 ((unhide M4z).trans m5); exact ⟨k0, k9, hb 0, hb 1, hb 2, hb 3, hb 4, hb 5, hb 6⟩); obtain ⟨s50, s59, s5a, s5b, s5c, s5d, s5e, s5f, s5g⟩ := id s5; have zb5 := (m5.has (unhide Z4z) (fun x => x)).cell; have zf5 := (m5.has (unhide Z4z) (fun x => x)).frozen; have zl5 := (m5.has (unhide Z4z) (fun x => x)).lt))
   all_goals go_wp2
   all_goals go_meet
   all_goals first
    | with_reducible exact ⟨_, g5, cap5, rfl, hide (NewF.made (unhide M4d) m5 h5 z5 (unhide HEW))⟩
    | with_reducible exact ⟨_, g5, cap5, rfl, hide (NewF.made2 (unhide M4z) m5 (unhide Z4z) (unhide M4).size h5 z5 (unhide HEW))⟩
  case rest =>
   obtain ⟨nb, g, cap, rfl, NF⟩ := hcut
   clear b4 lb4 f0 f9 fl B4 M4 HE
   apply_assumption
   go_upto_block 0 with fail
   refine wp_block ?_
   refine stay_walk (unhide HFLR) (unhide HWF) (unhide H1) (unhide H2) _ (hide (StI.start l (unhide NF))) _ _ _ _ _ _ _ _ _ _ _ _ _ _ _ _ _ _ _ _ _ _ _ _ _ _ _ _ _ _ _ _ _ _ _ _ _ _ _ _ _ _ _ _ _ _ _ _ _ _ _ _ _ _ _ _ _ _ _ _ _ _ _ _ _ _ _ _ _ _ _ _ _ _ _ _ _ _ _ _ _ _ _ _ _ _ _ _ _ _ _ _ _ _ _ _ _ _ _ _ _ _ _ _ _ _ _ _ _ _ _ _ _ _ _ _ _ _ _ ?_
   intro x8 x9 x10 x52 x53 x54 x55 x56 x57 x58 x59 x60 x61 x62 x63 x64 x65 x66 x67 x68 x69 x70 x71 x72 x73 x74 x75 x76 x77 x78 x79 x80 x81 x82 x83 x84 a cp wx IX
   have RX := hide (ReN.start (unhide IX) (unhide HWF) (unhide H1) (unhide H2) (by have := unhide HN; omega))
   have HOK := homeless_ok (q := Q) (unhide HWF)
   have HL := Nat.le_trans (nHome_le Q l l.length) hl1
   have hnh : nHome Q l l.length = (homeless Q l).length := by unfold nHome; rw [List.take_length]
   rw [hnh] at HL ⊢
   have HOK := hide HOK
   clear NF IX hnh
   obtain ⟨hs, hhs⟩ : ∃ hs, homeless Q l = hs := ⟨_, rfl⟩
   rw [hhs] at HL RX HOK ⊢
   have HHS := hide hhs
   clear hhs
   go_upto_block 2 with fail
   refine wp_block ?_
   refine reseat_walk2 (unhide HOK) HL _ RX _ _ _ _ _ _ _ _ _ _ _ _ _ _ _ _ _ _ _ _ _ _ _ _ _ _ _ _ _ _ _ _ _ _ _ _ _ _ _ _ _ _ _ _ _ _ _ _ _ _ _ _ _ _ _ _ _ _ _ _ _ _ _ _ _ _ _ _ _ _ _ _ _ _ _ _ _ _ _ _ _ _ _ _ _ _ _ _ _ _ _ _ _ _ _ _ _ _ _ _ _ _ _ _ _ _ _ _ _ _ _ _ _ _ _ _ _ _ _ _ ?_
   intro x11 x12 x13 x85 x86 x87 x88 x89 x90 x91 x92 x93 x94 x95 x96 x97 x98 x99 x100 x101 x102 x103 x104 x105 x106 x107 x108 x109 x110 x111 x112 x113 x114 x115 x116 x117 x118 x119 wy RY
   have hall : accN (stay Q l) hs hs.length = swapSeats Q l := by
    unfold accN swapSeats
    rw [List.take_length, unhide HHS]
   have NY := (unhide RY).fli
   rw [hall] at NY
   obtain ⟨f0, f1, f2, f3, f4, f5, f6, f7, f8, f9, fz, fl⟩ := (unhide HCG) wy NY.mod
   have y0 : wy.cell? ⟨nb, 0, none⟩ = some (.int .i64 num) := NY.has.cell 0
   have y1 : wy.cell? ⟨nb, 1, none⟩ = some (.int .i64 Q.rows) := NY.has.cell 1
   have y2 : wy.cell? ⟨nb, 2, none⟩ = some (.int .i64 Q.cols) := NY.has.cell 2
   have y3 : wy.cell? ⟨nb, 3, none⟩ = some (.int .i64 Q.front) := NY.has.cell 3
   have y4 : wy.cell? ⟨nb, 4, none⟩ = some (.int .i64 Q.l0) := NY.has.cell 4
   have y5 : wy.cell? ⟨nb, 5, none⟩ = some (.int .i64 Q.l1) := NY.has.cell 5
   have y6 : wy.cell? ⟨nb, 6, none⟩ = some (.int .i64 Q.l2) := NY.has.cell 6
   have y7 : wy.cell? ⟨nb, 7, none⟩ = some (.int .i64 Q.l3) := NY.has.cell 7
   have y8 : wy.cell? ⟨nb, 8, none⟩ = some (.slice (some ⟨g, 0, none⟩) (swapSeats Q l).length cap) := NY.has.cell 8
   have y9 : wy.cell? ⟨nb, 9, none⟩ = some (.int .i64 ep) := NY.has.cell 9
   have NY := hide NY
   clear hall RX RY HOK HL HCG HFLR HWF HEW H1 H2 HN HHS
   have FIN := hide (show ∃ (wx : World) (g' cap' : Nat), Mod No w wx ∧ w.heap.size ≤ g' ∧ RowS wx g' cap' (swapSeats Q l) ∧ put10 wy gf fo num Q g (swapSeats Q l).length cap ep = put10 wx gf fo num Q g' (swapSeats Q l).length cap' ep from ⟨wy, g, cap, (unhide NY).mod, (unhide NY).new.2, (unhide NY).row, rfl⟩)
   have HPB2 := HPB
   obtain ⟨L, hL⟩ : ∃ L, (swapSeats Q l).length = L := ⟨_, rfl⟩
   rw [hL] at y8 FIN
   have HLL := hide hL
   clear hL
   have EP := hide (show put10 wy gf fo num Q g L cap ep = ((((((((((wy.setCell ⟨gf, fo, none⟩ (.int .i64 num)).setCell ⟨gf, fo + 1, none⟩ (.int .i64 Q.rows)).setCell ⟨gf, fo + 2, none⟩ (.int .i64 Q.cols)).setCell ⟨gf, fo + 3, none⟩ (.int .i64 Q.front)).setCell ⟨gf, fo + 4, none⟩ (.int .i64 Q.l0)).setCell ⟨gf, fo + 5, none⟩ (.int .i64 Q.l1)).setCell ⟨gf, fo + 6, none⟩ (.int .i64 Q.l2)).setCell ⟨gf, fo + 7, none⟩ (.int .i64 Q.l3)).setCell ⟨gf, fo + 8, none⟩ (.slice (some ⟨g, 0, none⟩) L cap)).setCell ⟨gf, fo + 9, none⟩ (.int .i64 ep)) from rfl)
   rw [unhide EP] at FIN
   clear EP NY
   go_wp2_with fail
   go_ret
   have HE0 := unhide FIN
   rw [unhide HLL]
   exact ⟨rfl, by with_reducible exact HE0⟩
end Go.Proofs.YthhibagcpjeihaaGreat
