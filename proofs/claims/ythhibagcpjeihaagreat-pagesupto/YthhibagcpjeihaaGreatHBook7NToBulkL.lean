import Derived.Test.YthhibagcpjeihaaGreatHBook7SToBook6N
import Derived.Test.YthhibagcpjeihaaGreatHOpArgsToPg4
import Derived.Test.YthhibagcpjeihaaGreatHRef31ToRef34
import Derived.Deep.CutBlock
import Derived.Test.YthhibagcpjeihaaGreatHLaw13ToRFacts2
import Derived.Test.YthhibagcpjeihaaGreatRows
namespace Go.Proofs.YthhibagcpjeihaaGreat
open Go.RowKit
open M
set_option linter.unusedVariables false
set_option linter.unusedSimpArgs false
set_option maxRecDepth 100000
set_option maxHeartbeats 8000000
noncomputable def whLoopN (n : Nat) : Code := ((loopsOf (Tryz.f11.body.getD .skip))[n]?).getD .skip
theorem wl3N {w0 : World} {yb ab rb i q m c L cx : Nat} {a : Option Addr} (hx : ∀ W, Mod No w0 W → W.cell? ⟨yb, 2, none⟩ = some (.slice (some ⟨ab, 0, none⟩) L cx) ∧ yb < W.heap.size ∧ W.cell? ⟨ab, i, none⟩ = some (.slice (some ⟨rb, 0, none⟩) 4 4) ∧ ab < W.heap.size ∧ W.cell? ⟨rb, q, none⟩ = some (.slice a m c) ∧ rb < W.heap.size ∧ ∀ j, j < m → ∃ g, a = some ⟨g, 0, none⟩ ∧ g < W.heap.size ∧ W.rangeAt g (j * 3) (zVN i).toList) (hi : i < L) (hL : L ≤ 1099511627776) (hq : q < 4) (hm : m ≤ 1000000) (Q0 : Exit → Act → World → Prop) (sl1 sl2 sl3 sl4 sl5 sl6 sl10 sl11 sl12 sl13 sl14 sl15 sl16 sl17 sl18 sl19 sl20 sl21 sl22 sl23 sl24 sl25 sl26 sl27 sl28 sl29 sl30 sl31 sl32 sl33 sl34 sl35 sl36 sl37 sl38 sl39 sl40 sl41 sl42 sl43 sl44 sl45 sl46 sl47 sl48 sl49 sl50 sl51 sl52 sl53 sl54 sl55 sl56 sl57 sl58 sl59 sl60 sl61 sl62 sl63 sl64 sl65 sl66 sl67 sl68 sl69 sl70 sl71 sl72 sl73 sl74 sl75 sl76 sl77 sl78 sl79 sl80 sl81 sl82 sl83 sl84 sl85 sl86 sl87 sl88 sl89 sl90 sl91 sl92 sl93 sl94 sl95 sl96 sl97 sl98 sl99 sl100 sl101 sl102 sl103 sl104 sl105 sl106 sl107 sl108 sl109 sl110 sl111 sl112 sl113 sl114 sl115 sl116 sl117 sl118 sl119 sl120 sl121 sl122 sl123 sl124 sl125 sl126 sl127 sl128 sl129 sl130 sl131 sl132 sl133 sl134 sl135 sl136 sl137 sl138 sl139 sl140 sl141 sl142 sl143 sl144 sl145 sl146 sl147 sl148 sl149 sl150 sl151 sl152 sl153 : Value)
  (hexit : ∀ (x2 x9 x10 x112 x113 x114 x115 x116 x117 x118 x119 x120 x121 x122 x123 x124 x125 x126 x127 x128 x129 x130 x131 x132 x133 x134 x135 x136 x137 x138 x139 x140 x141 x142 x143 x144 x145 x146 x147 x148 x149 x150 x151 x152 x153 : Value) (W : World), Hid (Mod No w0 W) → Q0 (.exit 10) ⟨#[.pointer (some ⟨yb, 1, none⟩), sl1, x2, sl3, sl4, sl5, sl6, .int .i64 (i : Int), .int .i64 (q : Int), x9, x10, sl11, sl12, sl13, sl14, sl15, sl16, sl17, sl18, sl19, sl20, sl21, sl22, sl23, sl24, sl25, sl26, sl27, sl28, sl29, sl30, sl31, sl32, sl33, sl34, sl35, sl36, sl37, sl38, sl39, sl40, sl41, sl42, sl43, sl44, sl45, sl46, sl47, sl48, sl49, sl50, sl51, sl52, sl53, sl54, sl55, sl56, sl57, sl58, sl59, sl60, sl61, sl62, sl63, sl64, sl65, sl66, sl67, sl68, sl69, sl70, sl71, sl72, sl73, sl74, sl75, sl76, sl77, sl78, sl79, sl80, sl81, sl82, sl83, sl84, sl85, sl86, sl87, sl88, sl89, sl90, sl91, sl92, sl93, sl94, sl95, sl96, sl97, sl98, sl99, sl100, sl101, sl102, sl103, sl104, sl105, sl106, sl107, sl108, sl109, sl110, sl111, x112, x113, x114, x115, x116, x117, x118, x119, x120, x121, x122, x123, x124, x125, x126, x127, x128, x129, x130, x131, x132, x133, x134, x135, x136, x137, x138, x139, x140, x141, x142, x143, x144, x145, x146, x147, x148, x149, x150, x151, x152, x153], []⟩ W) :
  Code.wp Tryz.prog (whLoopN 5) Q0 ⟨#[.pointer (some ⟨yb, 1, none⟩), sl1, sl2, sl3, sl4, sl5, sl6, .int .i64 (i : Int), .int .i64 (q : Int), .int .i64 0, sl10, sl11, sl12, sl13, sl14, sl15, sl16, sl17, sl18, sl19, sl20, sl21, sl22, sl23, sl24, sl25, sl26, sl27, sl28, sl29, sl30, sl31, sl32, sl33, sl34, sl35, sl36, sl37, sl38, sl39, sl40, sl41, sl42, sl43, sl44, sl45, sl46, sl47, sl48, sl49, sl50, sl51, sl52, sl53, sl54, sl55, sl56, sl57, sl58, sl59, sl60, sl61, sl62, sl63, sl64, sl65, sl66, sl67, sl68, sl69, sl70, sl71, sl72, sl73, sl74, sl75, sl76, sl77, sl78, sl79, sl80, sl81, sl82, sl83, sl84, sl85, sl86, sl87, sl88, sl89, sl90, sl91, sl92, sl93, sl94, sl95, sl96, sl97, sl98, sl99, sl100, sl101, sl102, sl103, sl104, sl105, sl106, sl107, sl108, sl109, sl110, sl111, sl112, sl113, sl114, sl115, sl116, sl117, sl118, sl119, sl120, sl121, sl122, sl123, sl124, sl125, sl126, sl127, sl128, sl129, sl130, sl131, sl132, sl133, sl134, sl135, sl136, sl137, sl138, sl139, sl140, sl141, sl142, sl143, sl144, sl145, sl146, sl147, sl148, sl149, sl150, sl151, sl152, sl153], []⟩ w0 := by
 conv => arg 4; dsimp only
 conv => arg 2; whnf
 have HEX := hide hexit
 clear hexit
 have HX := hide hx
 have HL := hide hL
 have i0 : (0 : Int) ≤ i := by omega
 have iL : (i : Int) < (L : Int) := by omega
 have q0 : (0 : Int) ≤ q := by omega
 have q4 : (q : Int) < 4 := by omega
 have HM := hide hm
 clear hx hL hi hq hm
 go_loopw [9] (fun s wx => ∃ j : Nat, s = .int .i64 (j : Int) ∧ j ≤ m ∧ Hid (Mod No w0 wx)) (fun s _ => m - (intOf s).toNat)
 case atStart => exact ⟨0, rfl, by omega, Mod.refl _ _⟩
 case round =>
  obtain ⟨j, rfl, hj, M1⟩ := hrel
  obtain ⟨c1, l1, c2, l2, c3, l3, hz⟩ := (unhide HX) wr (unhide M1)
  have hm := unhide HM
  by_cases hjm : j < m
  ·have hji : (j : Int) < (m : Int) := by omega
   have hj0 : (0 : Int) ≤ j := by omega
   have hj1 : IntKind.i64.wrap ((j : Int) + 1) = ((j + 1 : Nat) : Int) := by rw [wrap_id _ (by omega) (by omega)]; rfl
   obtain ⟨g, rfl, hg, hr⟩ := hz j hjm
   have z0 : wr.cell? ⟨g, j * 3, none⟩ = some (.int .i64 (-9)) := hr 0 _ rfl
   have z1 : wr.cell? ⟨g, j * 3 + 1, none⟩ = some (.int .i64 0) := hr 1 _ rfl
   have z2 : wr.cell? ⟨g, j * 3 + 2, none⟩ = some (.int .i64 (i : Int)) := hr 2 _ rfl
   clear hz hr
   have M2 := hide ((unhide M1).alloc (.cells (zVN i) 68))
   unfold zVN at M2
   go_wp2
   exact ⟨⟨j + 1, rfl, by omega, M2⟩, by simp [intOf]; omega⟩
  ·have hji : ¬ (j : Int) < (m : Int) := by omega
   clear hz
   go_wp2
   exact (unhide HEX) _ _ _ _ _ _ _ _ _ _ _ _ _ _ _ _ _ _ _ _ _ _ _ _ _ _ _ _ _ _ _ _ _ _ _ _ _ _ _ _ _ _ _ _ _ _ M1
theorem wl2N {w0 : World} {yb i : Nat} {F : Nat → Prop} {xv : Value} {ls : List Nat} {av bv lv : Value} (hx : BkXN w0 F xv ls) (hy : w0.cell? ⟨yb, 2, none⟩ = some xv) (hyl : yb < w0.heap.size) (hi : i < ls.length) (hL : ls.length ≤ 1099511627776) (Q0 : Exit → Act → World → Prop) (sl1 sl2 sl3 sl4 sl5 sl6 sl9 sl10 sl11 sl12 sl13 sl14 sl15 sl16 sl17 sl18 sl19 sl20 sl21 sl22 sl23 sl24 sl25 sl26 sl27 sl28 sl29 sl30 sl31 sl32 sl33 sl34 sl35 sl36 sl37 sl38 sl39 sl40 sl41 sl42 sl43 sl44 sl45 sl46 sl47 sl48 sl49 sl50 sl51 sl52 sl53 sl54 sl55 sl56 sl57 sl58 sl59 sl60 sl61 sl62 sl63 sl64 sl65 sl66 sl67 sl68 sl69 sl70 sl71 sl72 sl73 sl74 sl75 sl76 sl77 sl78 sl79 sl80 sl81 sl82 sl83 sl84 sl85 sl86 sl87 sl88 sl89 sl90 sl91 sl92 sl93 sl94 sl95 sl96 sl97 sl98 sl99 sl100 sl101 sl102 sl103 sl104 sl105 sl106 sl107 sl108 sl109 sl110 sl111 sl112 sl113 sl114 sl115 sl116 sl117 sl118 sl119 sl120 sl121 sl122 sl123 sl124 sl125 sl126 sl127 sl128 sl129 sl130 sl131 sl132 sl133 sl134 sl135 sl136 sl137 sl138 sl139 sl140 sl141 sl142 sl143 sl144 sl145 sl146 sl147 sl148 sl149 sl150 sl151 sl152 sl153 : Value)
  (hexit : ∀ (x2 x8 x9 x10 x100 x101 x102 x103 x104 x105 x106 x107 x108 x109 x110 x111 x112 x113 x114 x115 x116 x117 x118 x119 x120 x121 x122 x123 x124 x125 x126 x127 x128 x129 x130 x131 x132 x133 x134 x135 x136 x137 x138 x139 x140 x141 x142 x143 x144 x145 x146 x147 x148 x149 x150 x151 x152 x153 : Value) (W : World), Hid (Mod No w0 W) → Q0 (.exit 8) ⟨#[.pointer (some ⟨yb, 1, none⟩), sl1, x2, sl3, sl4, sl5, sl6, .int .i64 (i : Int), x8, x9, x10, sl11, sl12, sl13, sl14, sl15, sl16, sl17, sl18, sl19, sl20, sl21, sl22, sl23, sl24, sl25, sl26, sl27, sl28, sl29, sl30, sl31, sl32, sl33, sl34, sl35, sl36, sl37, sl38, sl39, sl40, sl41, sl42, sl43, sl44, sl45, sl46, sl47, sl48, sl49, sl50, sl51, sl52, sl53, sl54, sl55, sl56, sl57, sl58, sl59, sl60, sl61, sl62, sl63, sl64, sl65, sl66, sl67, sl68, sl69, sl70, sl71, sl72, sl73, sl74, sl75, sl76, sl77, sl78, sl79, sl80, sl81, sl82, sl83, sl84, sl85, sl86, sl87, sl88, sl89, sl90, sl91, sl92, sl93, sl94, sl95, sl96, sl97, sl98, sl99, x100, x101, x102, x103, x104, x105, x106, x107, x108, x109, x110, x111, x112, x113, x114, x115, x116, x117, x118, x119, x120, x121, x122, x123, x124, x125, x126, x127, x128, x129, x130, x131, x132, x133, x134, x135, x136, x137, x138, x139, x140, x141, x142, x143, x144, x145, x146, x147, x148, x149, x150, x151, x152, x153], []⟩ W) :
  Code.wp Tryz.prog (whLoopN 4) Q0 ⟨#[.pointer (some ⟨yb, 1, none⟩), sl1, sl2, sl3, sl4, sl5, sl6, .int .i64 (i : Int), .int .i64 0, sl9, sl10, sl11, sl12, sl13, sl14, sl15, sl16, sl17, sl18, sl19, sl20, sl21, sl22, sl23, sl24, sl25, sl26, sl27, sl28, sl29, sl30, sl31, sl32, sl33, sl34, sl35, sl36, sl37, sl38, sl39, sl40, sl41, sl42, sl43, sl44, sl45, sl46, sl47, sl48, sl49, sl50, sl51, sl52, sl53, sl54, sl55, sl56, sl57, sl58, sl59, sl60, sl61, sl62, sl63, sl64, sl65, sl66, sl67, sl68, sl69, sl70, sl71, sl72, sl73, sl74, sl75, sl76, sl77, sl78, sl79, sl80, sl81, sl82, sl83, sl84, sl85, sl86, sl87, sl88, sl89, sl90, sl91, sl92, sl93, sl94, sl95, sl96, sl97, sl98, sl99, sl100, sl101, sl102, sl103, sl104, sl105, sl106, sl107, sl108, sl109, sl110, sl111, sl112, sl113, sl114, sl115, sl116, sl117, sl118, sl119, sl120, sl121, sl122, sl123, sl124, sl125, sl126, sl127, sl128, sl129, sl130, sl131, sl132, sl133, sl134, sl135, sl136, sl137, sl138, sl139, sl140, sl141, sl142, sl143, sl144, sl145, sl146, sl147, sl148, sl149, sl150, sl151, sl152, sl153], []⟩ w0 := by
 conv => arg 4; dsimp only
 conv => arg 2; whnf
 have HEX := hide hexit
 clear hexit
 have HXX := hide hx
 have HY := hide hy
 have HYL := hide hyl
 have HI := hide hi
 have HL := hide hL
 obtain ⟨ab, cx, rb, rfl, hab, hrb, hc2⟩ := hx.at hi
 have HRB := hide hrb
 have HC2 := hide hc2
 have HAB := hide hab
 have i0 : (0 : Int) ≤ i := by omega
 have iL : (i : Int) < (ls.length : Int) := by omega
 clear hx hy hyl hc2 hab hL hrb
 go_loopw [8] (fun s wx => ∃ q : Nat, s = .int .i64 (q : Int) ∧ q ≤ 4 ∧ Hid (Mod No w0 wx)) (fun s _ => 4 - (intOf s).toNat)
 case atStart => exact ⟨0, rfl, by omega, Mod.refl _ _⟩
 case round =>
  obtain ⟨q, rfl, hq, M1⟩ := hrel
  have c1 : wr.cell? ⟨yb, 2, none⟩ = some (.slice (some ⟨ab, 0, none⟩) ls.length cx) := mod_cell0 (unhide M1) (unhide HY)
  have l1 := Nat.lt_of_lt_of_le (unhide HYL) (unhide M1).size
  have c2 := mod_cell0 (unhide M1) (unhide HC2)
  have l2 := Nat.lt_of_lt_of_le (unhide HAB) (unhide M1).size
  by_cases hq4 : q < 4
  ·have hqi : (q : Int) < 4 := by omega
   have hq0 : (0 : Int) ≤ q := by omega
   have hq1 : IntKind.i64.wrap ((q : Int) + 1) = ((q + 1 : Nat) : Int) := by rw [wrap_id _ (by omega) (by omega)]; rfl
   obtain ⟨a, m, c, hm, hrl, hc3, hz⟩ := (unhide HXX).head (unhide HRB) hq4
   have HX3 := hide (fun (W : World) (hW : Mod No wr W) => (show W.cell? ⟨yb, 2, none⟩ = some (.slice (some ⟨ab, 0, none⟩) ls.length cx) ∧ yb < W.heap.size ∧ W.cell? ⟨ab, i, none⟩ = some (.slice (some ⟨rb, 0, none⟩) 4 4) ∧ ab < W.heap.size ∧ W.cell? ⟨rb, q, none⟩ = some (.slice a m c) ∧ rb < W.heap.size ∧ ∀ j, j < m → ∃ g, a = some ⟨g, 0, none⟩ ∧ g < W.heap.size ∧ W.rangeAt g (j * 3) (zVN i).toList from by
    have hM := (unhide M1).trans hW
    refine ⟨mod_cell0 hM (unhide HY), Nat.lt_of_lt_of_le (unhide HYL) hM.size, mod_cell0 hM (unhide HC2), Nat.lt_of_lt_of_le (unhide HAB) hM.size, mod_cell0 hM hc3, Nat.lt_of_lt_of_le hrl hM.size, fun j hj => ?_⟩
    obtain ⟨g, e1, e2, e3⟩ := hz j hj
    exact ⟨g, e1, Nat.lt_of_lt_of_le e2 hM.size, mod_range0 hM e3⟩))
   have HM := hide hm
   clear hc3 hz hrl hm
   go_upto_block 10 with fail
   refine wp_block ?_
   refine wl3N (unhide HX3) (unhide HI) (unhide HL) hq4 (unhide HM) _ _ _ _ _ _ _ _ _ _ _ _ _ _ _ _ _ _ _ _ _ _ _ _ _ _ _ _ _ _ _ _ _ _ _ _ _ _ _ _ _ _ _ _ _ _ _ _ _ _ _ _ _ _ _ _ _ _ _ _ _ _ _ _ _ _ _ _ _ _ _ _ _ _ _ _ _ _ _ _ _ _ _ _ _ _ _ _ _ _ _ _ _ _ _ _ _ _ _ _ _ _ _ _ _ _ _ _ _ _ _ _ _ _ _ _ _ _ _ _ _ _ _ _ _ _ _ _ _ _ _ _ _ _ _ _ _ _ _ _ _ _ _ _ _ _ _ _ _ _ _ ?_
   intro x2 x9 x10 x112 x113 x114 x115 x116 x117 x118 x119 x120 x121 x122 x123 x124 x125 x126 x127 x128 x129 x130 x131 x132 x133 x134 x135 x136 x137 x138 x139 x140 x141 x142 x143 x144 x145 x146 x147 x148 x149 x150 x151 x152 x153 W3 M3
   have M4 := hide ((unhide M1).trans (unhide M3))
   clear c1 l1 c2 l2 HX3
   go_wp2
   exact ⟨⟨q + 1, rfl, by omega, M4⟩, by simp [intOf]; omega⟩
  ·have hqi : ¬ (q : Int) < 4 := by omega
   go_wp2
   exact (unhide HEX) _ _ _ _ _ _ _ _ _ _ _ _ _ _ _ _ _ _ _ _ _ _ _ _ _ _ _ _ _ _ _ _ _ _ _ _ _ _ _ _ _ _ _ _ _ _ _ _ _ _ _ _ _ _ _ _ _ _ _ M1
theorem wl1N {w0 : World} {yb : Nat} {F : Nat → Prop} {xv : Value} {ls : List Nat} (hx : BkXN w0 F xv ls) (hy : w0.cell? ⟨yb, 2, none⟩ = some xv) (hyl : yb < w0.heap.size) (hL : ls.length ≤ 1099511627776) (Q0 : Exit → Act → World → Prop) (sl1 sl2 sl3 sl4 sl5 sl6 sl8 sl9 sl10 sl11 sl12 sl13 sl14 sl15 sl16 sl17 sl18 sl19 sl20 sl21 sl22 sl23 sl24 sl25 sl26 sl27 sl28 sl29 sl30 sl31 sl32 sl33 sl34 sl35 sl36 sl37 sl38 sl39 sl40 sl41 sl42 sl43 sl44 sl45 sl46 sl47 sl48 sl49 sl50 sl51 sl52 sl53 sl54 sl55 sl56 sl57 sl58 sl59 sl60 sl61 sl62 sl63 sl64 sl65 sl66 sl67 sl68 sl69 sl70 sl71 sl72 sl73 sl74 sl75 sl76 sl77 sl78 sl79 sl80 sl81 sl82 sl83 sl84 sl85 sl86 sl87 sl88 sl89 sl90 sl91 sl92 sl93 sl94 sl95 sl96 sl97 sl98 sl99 sl100 sl101 sl102 sl103 sl104 sl105 sl106 sl107 sl108 sl109 sl110 sl111 sl112 sl113 sl114 sl115 sl116 sl117 sl118 sl119 sl120 sl121 sl122 sl123 sl124 sl125 sl126 sl127 sl128 sl129 sl130 sl131 sl132 sl133 sl134 sl135 sl136 sl137 sl138 sl139 sl140 sl141 sl142 sl143 sl144 sl145 sl146 sl147 sl148 sl149 sl150 sl151 sl152 sl153 : Value)
  (hexit : ∀ (x2 x7 x8 x9 x10 x91 x92 x93 x94 x95 x96 x97 x98 x99 x100 x101 x102 x103 x104 x105 x106 x107 x108 x109 x110 x111 x112 x113 x114 x115 x116 x117 x118 x119 x120 x121 x122 x123 x124 x125 x126 x127 x128 x129 x130 x131 x132 x133 x134 x135 x136 x137 x138 x139 x140 x141 x142 x143 x144 x145 x146 x147 x148 x149 x150 x151 x152 x153 : Value) (W : World), Hid (Mod No w0 W) → Q0 (.exit 6) ⟨#[.pointer (some ⟨yb, 1, none⟩), sl1, x2, sl3, sl4, sl5, sl6, x7, x8, x9, x10, sl11, sl12, sl13, sl14, sl15, sl16, sl17, sl18, sl19, sl20, sl21, sl22, sl23, sl24, sl25, sl26, sl27, sl28, sl29, sl30, sl31, sl32, sl33, sl34, sl35, sl36, sl37, sl38, sl39, sl40, sl41, sl42, sl43, sl44, sl45, sl46, sl47, sl48, sl49, sl50, sl51, sl52, sl53, sl54, sl55, sl56, sl57, sl58, sl59, sl60, sl61, sl62, sl63, sl64, sl65, sl66, sl67, sl68, sl69, sl70, sl71, sl72, sl73, sl74, sl75, sl76, sl77, sl78, sl79, sl80, sl81, sl82, sl83, sl84, sl85, sl86, sl87, sl88, sl89, sl90, x91, x92, x93, x94, x95, x96, x97, x98, x99, x100, x101, x102, x103, x104, x105, x106, x107, x108, x109, x110, x111, x112, x113, x114, x115, x116, x117, x118, x119, x120, x121, x122, x123, x124, x125, x126, x127, x128, x129, x130, x131, x132, x133, x134, x135, x136, x137, x138, x139, x140, x141, x142, x143, x144, x145, x146, x147, x148, x149, x150, x151, x152, x153], []⟩ W) :
  Code.wp Tryz.prog (whLoopN 3) Q0 ⟨#[.pointer (some ⟨yb, 1, none⟩), sl1, sl2, sl3, sl4, sl5, sl6, .int .i64 0, sl8, sl9, sl10, sl11, sl12, sl13, sl14, sl15, sl16, sl17, sl18, sl19, sl20, sl21, sl22, sl23, sl24, sl25, sl26, sl27, sl28, sl29, sl30, sl31, sl32, sl33, sl34, sl35, sl36, sl37, sl38, sl39, sl40, sl41, sl42, sl43, sl44, sl45, sl46, sl47, sl48, sl49, sl50, sl51, sl52, sl53, sl54, sl55, sl56, sl57, sl58, sl59, sl60, sl61, sl62, sl63, sl64, sl65, sl66, sl67, sl68, sl69, sl70, sl71, sl72, sl73, sl74, sl75, sl76, sl77, sl78, sl79, sl80, sl81, sl82, sl83, sl84, sl85, sl86, sl87, sl88, sl89, sl90, sl91, sl92, sl93, sl94, sl95, sl96, sl97, sl98, sl99, sl100, sl101, sl102, sl103, sl104, sl105, sl106, sl107, sl108, sl109, sl110, sl111, sl112, sl113, sl114, sl115, sl116, sl117, sl118, sl119, sl120, sl121, sl122, sl123, sl124, sl125, sl126, sl127, sl128, sl129, sl130, sl131, sl132, sl133, sl134, sl135, sl136, sl137, sl138, sl139, sl140, sl141, sl142, sl143, sl144, sl145, sl146, sl147, sl148, sl149, sl150, sl151, sl152, sl153], []⟩ w0 := by
 conv => arg 4; dsimp only
 conv => arg 2; whnf
 have HEX := hide hexit
 clear hexit
 have HXX := hide hx
 have HY := hide hy
 have HYL := hide hyl
 have HL := hide hL
 obtain ⟨ax, cx, rfl⟩ := slice_of_owns hx.row
 clear hx hy hyl
 go_loopw [7] (fun s wx => ∃ i : Nat, s = .int .i64 (i : Int) ∧ i ≤ ls.length ∧ Hid (Mod No w0 wx)) (fun s _ => ls.length - (intOf s).toNat)
 case atStart => exact ⟨0, rfl, by omega, Mod.refl _ _⟩
 case round =>
  obtain ⟨i, rfl, hi, M1⟩ := hrel
  have c1 : wr.cell? ⟨yb, 2, none⟩ = some (.slice ax ls.length cx) := mod_cell0 (unhide M1) (unhide HY)
  have l1 := Nat.lt_of_lt_of_le (unhide HYL) (unhide M1).size
  by_cases hil : i < ls.length
  ·have hii : (i : Int) < (ls.length : Int) := by omega
   have hi0 : (0 : Int) ≤ i := by omega
   have hi1 : IntKind.i64.wrap ((i : Int) + 1) = ((i + 1 : Nat) : Int) := by rw [wrap_id _ (by omega) (by omega)]; rfl
   have HXM := hide ((unhide HXX).mod (F' := F) ((unhide M1).mono (S' := F) (fun _ _ x => x.elim)) (fun _ _ x => x))
   have C1 := hide c1
   have L1 := hide l1
   have HIL := hide hil
   go_upto_block 8 with fail
   refine wp_block ?_
   refine wl2N (av := undef) (bv := undef) (lv := undef) (unhide HXM) (unhide C1) (unhide L1) (unhide HIL) (unhide HL) _ _ _ _ _ _ _ _ _ _ _ _ _ _ _ _ _ _ _ _ _ _ _ _ _ _ _ _ _ _ _ _ _ _ _ _ _ _ _ _ _ _ _ _ _ _ _ _ _ _ _ _ _ _ _ _ _ _ _ _ _ _ _ _ _ _ _ _ _ _ _ _ _ _ _ _ _ _ _ _ _ _ _ _ _ _ _ _ _ _ _ _ _ _ _ _ _ _ _ _ _ _ _ _ _ _ _ _ _ _ _ _ _ _ _ _ _ _ _ _ _ _ _ _ _ _ _ _ _ _ _ _ _ _ _ _ _ _ _ _ _ _ _ _ _ _ _ _ _ _ _ _ ?_
   intro x2 x8 x9 x10 x100 x101 x102 x103 x104 x105 x106 x107 x108 x109 x110 x111 x112 x113 x114 x115 x116 x117 x118 x119 x120 x121 x122 x123 x124 x125 x126 x127 x128 x129 x130 x131 x132 x133 x134 x135 x136 x137 x138 x139 x140 x141 x142 x143 x144 x145 x146 x147 x148 x149 x150 x151 x152 x153 W3 M3
   have M4 := hide ((unhide M1).trans (unhide M3))
   clear c1 l1 HXM C1 L1
   go_wp2
   exact ⟨⟨i + 1, rfl, by omega, M4⟩, by simp [intOf]; omega⟩
  ·have hii : ¬ (i : Int) < (ls.length : Int) := by omega
   go_wp2
   exact (unhide HEX) _ _ _ _ _ _ _ _ _ _ _ _ _ _ _ _ _ _ _ _ _ _ _ _ _ _ _ _ _ _ _ _ _ _ _ _ _ _ _ _ _ _ _ _ _ _ _ _ _ _ _ _ _ _ _ _ _ _ _ _ _ _ _ _ _ _ _ _ _ M1
set_option maxHeartbeats 4000000
def bkB (av bv : Value) (b : Nat) : World → (Nat → Prop) → Prop := fun w F => ∃ la lb, la.length ≤ b ∧ lb.length ≤ b ∧ BkXS w (fun k => F k ∨ bv.ownBlock = some k) av la ∧ BkXN w (fun k => F k ∨ av.ownBlock = some k) bv lb
theorem bkB_ok (av bv : Value) (b : Nat) : BookOk (bkB av bv b) := fun w w' F F' h hm hF => by
 obtain ⟨la, lb, h1, h2, h3, h4⟩ := h
 exact ⟨la, lb, h1, h2, h3.mod (hm.mono (fun _ _ x => .inl x)) (fun k hk x => x.imp (hF k hk) id), h4.mod (hm.mono (fun _ _ x => .inl x)) (fun k hk x => x.imp (hF k hk) id)⟩
theorem PlayX.listed {P : Nat → OneI → Prop} {B B' : World → (Nat → Prop) → Prop} (hP : ∀ n I, P n I → P (n + 1) I) {w0 w w' : World} {who : Nat → Nat} {yb : Nat} {lv av bv av' bv' : Value} {os : List Nat} {n j : Nat} (h : PlayX P B w0 w who yb lv av bv os n) (hj : j < os.length) {S : Nat → Prop} (hm : Mod S w w')
  (hS : ∀ k, S k → k < w.heap.size → k = yb ∨ who k = j + 1 ∨ (w0.heap.size ≤ k ∧ who k = 0 ∧ lv.ownBlock ≠ some k)) (hh : Has w' yb #[lv, av', bv'] 34) {I' : OneI} (h1 : OneX w' (fun k => who k = j + 1) os[j] I') (hI : P (n + 1) I') (hb : B' w' (farX who yb lv)) : PlayX P B' w0 w' who yb lv av' bv' os (n + 1) := by
 have hsz := hm.size
 refine ⟨hh, hm.owns h.row (fun k hk hs => ?_), fun i hi => ?_, fun k hk => ⟨(h.wlt k hk).1, Nat.lt_of_lt_of_le (h.wlt k hk).2 hsz⟩, h.yb0, h.lv0, by have := h.cnt; omega, h.top, h.mod.trans' hm (fun k hk hl => ?_), hb⟩
 ·obtain ⟨q1, q2, q3⟩ := h.lv0 k hk
  rcases hS k hs (owns_lt h.row k hk) with e | e | e
  ·exact q3 e
  ·omega
  ·exact e.2.2 hk
 ·by_cases e : i = j
  ·subst e
   exact ⟨I', h1, hI⟩
  ·obtain ⟨J, r1, r2⟩ := h.ones i hi
   refine ⟨J, r1.mod hm (fun k hk hs => ?_), hP _ _ r2⟩
   have hk : who k = i + 1 := hk
   rcases hS k hs (h.wlt k (by omega)).2 with q | q | q
   ·subst q; have := h.yb0.1; omega
   ·omega
   ·omega
 ·have h0 := h.mod.size
  rcases hS k hk (by omega) with q | q | q
  ·subst q; have := h.yb0.2; omega
  ·have := (h.wlt k (by omega)).1; omega
  ·have := q.1; omega
theorem OneX.nums {w w' : World} {O S : Nat → Prop} {ob : Nat} {I I' : OneI} (h : OneX w O ob I) (hm : Mod S w w') (hs : ∀ k, O k → S k → k = ob) (hh : Has w' ob (oneV I') 55)
  (e1 : I'.kb = I.kb ∧ I'.okp = I.okp ∧ I'.om = I.om ∧ I'.now = I.now ∧ I'.fl = I.fl ∧ I'.K = I.K ∧ I'.tl = I.tl) (e2 : I'.owt = I.owt ∧ I'.tob = I.tob ∧ I'.vs = I.vs ∧ I'.ns = I.ns ∧ I'.bs = I.bs) (e3 : I'.W = I.W ∧ I'.mb = I.mb) : OneX w' O ob I' := by
 obtain ⟨cls, c1, c2, c3, c4, c5, c6, c7⟩ := h.ex
 obtain ⟨a1, a2, a3, a4, a5, a6, a7⟩ := e1
 obtain ⟨b1, b2, b3, b4, b5⟩ := e2
 have g : ∀ k n, cls k = n → n ≠ 0 → n ≠ 1 → ¬ S k := fun k n e h0 h1 q => by
  have := hs k (c7 k (by omega)) q
  subst this
  omega
 refine ⟨hh, ?_, ?_, ?_, ?_, ?_, fun k hk => Nat.lt_of_lt_of_le (h.lt k hk) hm.size⟩
 ·rw [a1, a2, a3, a4, a5, a6, a7]
  exact h.keep.mod hm (fun k hk => g k _ (c2 k hk) (by omega) (by omega)) (fun k hk => g k _ (c5 k hk) (by omega) (by omega))
 ·rw [e3.1]
  exact h.wor.mod hm (fun k hk => g k _ (c3 k hk) (by omega) (by omega))
 ·intro M hM
  rw [e3.2] at hM
  exact (h.may M hM).mod hm (fun k hk => g k _ (c6 M hM k hk) (by omega) (by omega))
 ·rw [b1, b2, b3, b4, b5]
  exact h.told.mod hm (fun k hk => g k _ (c4 k hk) (by omega) (by omega))
 ·refine ⟨cls, c1, ?_, ?_, ?_, ?_, ?_, c7⟩
  ·rw [a2]; exact c2
  ·rw [e3.1]; exact c3
  ·rw [b1]; exact c4
  ·rw [a3]; exact c5
  ·intro M hM; rw [e3.2] at hM; exact c6 M hM
theorem PlayX.paged {P : Nat → OneI → Prop} (hP : ∀ n I, P n I → P (n + 1) I) {w0 w w' : World} {who : Nat → Nat} {yb : Nat} {lv av bv : Value} {os : List Nat} {n j b : Nat} {la lb : List Nat} (h : PlayX P (bkB av bv b) w0 w who yb lv av bv os n) (hj : j < os.length) {I : OneI} {R : PageR} (hI : OneX w (fun k => who k = j + 1) os[j] I) (hP1 : P (n + 1) (I.paged R))
  (hla : la.length ≤ b ∧ lb.length ≤ b ∧ BkXS w (fun k => farX who yb lv k ∨ bv.ownBlock = some k) av la ∧ BkXN w (fun k => farX who yb lv k ∨ av.ownBlock = some k) bv lb) (hav : ∀ g, av.ownBlock = some g → w0.heap.size ≤ g) (hd : PagD w w' (fun k => farX who yb lv k ∨ bv.ownBlock = some k) yb os[j] I R lv av bv la) :
  ∃ av', PlayX P (bkB av' bv (b + 1)) w0 w' who yb lv av' bv os (n + 1) ∧ ∀ g, av'.ownBlock = some g → w0.heap.size ≤ g := by
 obtain ⟨l1, l2, l3, l4⟩ := hla
 obtain ⟨⟨av', rb, d1, d2, d3⟩, d4, d5⟩ := hd
 obtain ⟨cls, c1, _, _, _, _, _, c7⟩ := hI.ex
 have hob : who os[j] = j + 1 := c7 _ (by omega)
 have hm0 := h.mod.size
 have hfar := l3.far
 refine ⟨av', ?_, fun g hg => (d3 g hg).elim (hav g) (fun q => by omega)⟩
 refine h.listed hP hj d5 (fun k hk hl => ?_) d2 (I' := I.paged R) ?_ hP1 ⟨la ++ [rb], lb, by simp; omega, by omega, d1, l4.mod (d5.mono (fun k _ e => ?_)) (fun k hk e => ?_)⟩
 ·rcases hk with e | e | e
  ·exact .inl e
  ·exact .inr (.inl (by rw [e]; exact hob))
  ·refine .inr (.inr ⟨hav k e, ?_, fun q => hfar k e (.inl (.inr (.inr q)))⟩)
   by_cases z : who k = 0
   ·exact z
   ·exact absurd (.inl (.inl z)) (hfar k e)
 ·refine hI.nums d5 (fun k hk hs => ?_) d4 ?_ ?_ ?_
  ·have hk : who k = j + 1 := hk
   rcases hs with e | e | e
   ·subst e; have := h.yb0.1; omega
   ·exact e
   ·exact absurd (.inl (.inl (by omega))) (hfar k e)
  all_goals
   unfold OneI.paged
   split <;> simp
 ·rcases e with e | e | e
  ·exact .inl (.inr (.inl e))
  ·exact .inl (.inl (by rw [e]; omega))
  ·exact .inr e
 ·rcases e with e | e
  ·exact .inl e
  ·rcases d3 k e with q | q
   ·exact .inr q
   ·omega
def JP (w0 : World) (yb : Nat) (m : Nat) (W : World) : Prop := ∃ who lv av bv os b, (b ≤ m ∧ b ≤ 1048577) ∧ PlayX PD (bkB av bv b) w0 W who yb lv av bv os m ∧ (∀ g, av.ownBlock = some g → w0.heap.size ≤ g) ∧ ∀ g, bv.ownBlock = some g → w0.heap.size ≤ g
theorem JP.start (w : World) : JP w w.heap.size 0 (w.alloc (.cells #[.slice none 0 0, .slice none 0 0, .slice none 0 0] 34)) :=
 ⟨fun _ => 0, .slice none 0 0, .slice none 0 0, .slice none 0 0, [], 0, by omega, ⟨Has.new w _ _, by simpa using World.ownsRow_nil _ _ _ _, fun j hj => absurd hj (Nat.not_lt_zero _), fun k hk => absurd rfl hk, ⟨rfl, Nat.le_refl _⟩, fun k hk => by simp [Value.ownBlock] at hk, Nat.zero_le _, fun k => Nat.zero_le _, (Mod.refl No w).alloc _,
  ⟨[], [], Nat.le_refl _, Nat.le_refl _, BkXS.nil _ _, BkXN.nil _ _⟩⟩, fun g hg => by simp [Value.ownBlock] at hg, fun g hg => by simp [Value.ownBlock] at hg⟩
theorem PD.paged {n : Nat} {I : OneI} (h : PD n I) (R : PageR) : PD n (I.paged R) := by
 unfold OneI.paged
 split
 ·exact ⟨h.kb, h.mb, h.sh, h.same, h.live, h.torn, h.file, h.fuse, h.ch, h.used, h.now, h.most⟩
 ·exact h
theorem OpS.cur {S : Array Value} (h : OpS S) : ∃ r c e : Int, S[20]? = some (.int .i64 r) ∧ S[21]? = some (.int .i64 c) ∧ S[22]? = some (.int .i64 e) := by
 obtain ⟨x0, x1, x2, x3, x4, x5, x6, x7, x8, x9, x10, x11, x12, x13, x14, x15, x16, x17, x18, x19, x20, x21, x22, v23, v24, rfl, _⟩ := h.lits
 exact ⟨x20, x21, x22, rfl, rfl, rfl⟩
theorem step_pages {w0 w : World} {yb m : Nat} (h : JP w0 yb m w) (hm : m ≤ 1048576) (x : OpL) {k : Int} (hk : x.S[0]? = some (.int .i64 k)) (h1 : 1 ≤ k ∧ k ≤ 7) :
  Calls Tryz.prog 10 #[ptrTo yb, .agg x.S] w fun e w' => e = .returned (.bool true) ∧ JP w0 yb (m + 1) w' := by
 obtain ⟨who, lv, av, bv, os, bd, hbd, hP, hav, hbv⟩ := h
 obtain ⟨k', a, b, c, cm, hS, ha, hr, hC, ht⟩ := x.ok.nums
 obtain ⟨r0, c0, e0, h20, h21, h22⟩ := x.ok.cur
 have ek : k' = k := by
  have := hS.k0
  rw [hk] at this
  injection this with e
  injection e with _ e
  exact e.symm
 subst ek
 have toJ : ∀ (w' : World), PlayD PD (bkB av bv bd) w0 w' yb av bv m → JP w0 yb (m + 1) w' := fun w' hd => by
  obtain ⟨⟨who', lv', os', q⟩⟩ := hd
  exact ⟨who', lv', av, bv, os', bd, by omega, q, hav, hbv⟩
 by_cases k1 : k' = 1
 ·subst k1
  have c0 : c = 0 := by
   have h3 := x.live hk
   have := hS.c3
   rw [h3] at this
   injection this with e
   injection e with _ e
   exact e.symm
  subst c0
  exact (step_new (bkB_ok _ _ _) PD.more hP (by omega) hS (fun tb kb wb tob _ => pd_new _ _ _ _ _ _)).mono fun e w' ⟨he, hd⟩ => ⟨he, toJ w' hd⟩
 ·by_cases hne : 0 < os.length
  case neg =>
   obtain rfl : os = [] := List.eq_nil_of_length_eq_zero (by omega)
   exact (step_none (bkB_ok _ _ _) PD.more hP hS k1).mono fun e w' ⟨he, hd⟩ => ⟨he, toJ w' hd⟩
  have hp := pickN_range a (os.length : Int) (by omega)
  obtain ⟨j, hja⟩ : ∃ j : Nat, pickN a (os.length : Int) = (j : Int) := ⟨(pickN a (os.length : Int)).toNat, by omega⟩
  have hj : j < os.length := by rw [hja] at hp; omega
  have hW := fun n' => hP.still (bkB_ok _ _ _) (((Mod.refl No w).alloc (.cells x.S 45)).drewN n')
  refine (step_pick (bkB_ok _ _ _) pd_pick hP (by omega) hne hS ha hr (by omega) (cmdCells cm) rfl hC j hj hja (Q := fun _ w' => JP w0 yb (m + 1) w') (fun e n' => ?_) (fun e n' => ?_))
  ·obtain ⟨I, hI, hch⟩ := (hW n').ones j hj
   refine (done_pd hI hch hm cm ht).mono ?_
   rintro e' w' ⟨he, hd⟩
   obtain ⟨who', q1, _⟩ := (hW n').step (bkB_ok _ _ _) PD.more hj (fun _ q => q) hd
   exact ⟨he, who', _, _, _, _, bd, by omega, q1, hav, hbv⟩
  ·obtain ⟨I, hI, hch⟩ := (hW n').ones j hj
   obtain ⟨kb, hkb⟩ := hch.kb
   have hA := hI.ask hkb hch.same
   have fin : ∀ {e' : Ending} {w' : World}, e' = .returned (.bool true) ∧ Mod No ((w.alloc (.cells x.S 45)).drewN n') w' → e' = .returned (.bool true) ∧ JP w0 yb (m + 1) w' := fun {e' w'} h => ⟨h.1, who, lv, av, bv, os, bd, by omega, ((hW n').still (bkB_ok _ _ _) h.2).more PD.more, hav, hbv⟩
   obtain ⟨la, lb, l1, l2, l3, l4⟩ := (hW n').book
   obtain ⟨cls, c1, _, _, _, _, _, c7⟩ := hI.ex
   have hob : who os[j] = j + 1 := c7 _ (by omega)
   have hAP : AskP ((w.alloc (.cells x.S 45)).drewN n') (fun k => farX who yb lv k ∨ bv.ownBlock = some k) yb os[j] ⟨kb, I.okp, I.W.wb, I.W.ow, I.W.v, I.W.xs, I.now, I.fl⟩ I lv av bv la :=
    ⟨hA, hI.has, (hW n').has, l3, .inl (.inr (.inl rfl)), .inl (.inl (by omega)), fun k hk => by
     rcases hk with (q | q | q) | q
     ·exact ((hW n').wlt k q).2
     ·subst q; exact (hW n').has.lt
     ·exact owns_lt (hW n').row k q
     ·exact owns_lt l4.row k q, by omega⟩
   have fin2 : ∀ {R : PageR} {e' : Ending} {w' : World}, e' = .returned (.bool true) ∧ PagD ((w.alloc (.cells x.S 45)).drewN n') w' (fun k => farX who yb lv k ∨ bv.ownBlock = some k) yb os[j] I R lv av bv la → e' = .returned (.bool true) ∧ JP w0 yb (m + 1) w' := fun {R e' w'} h => by
    obtain ⟨av', q1, q2⟩ := (hW n').paged PD.more hj hI (PD.more _ _ (hch.paged R)) ⟨l1, l2, l3, l4⟩ hav h.2
    exact ⟨h.1, who, lv, av', bv, os, bd + 1, by omega, q1, q2, hbv⟩
   have : k' = 3 ∨ k' = 4 ∨ k' = 5 ∨ k' = 6 ∨ k' = 7 := by omega
   rcases this with rfl | rfl | rfl | rfl | rfl
   ·exact (asked_now hA hS).mono fun e w' h => fin h
   ·exact (asked_left hA hS).mono fun e w' h => fin h
   ·exact (asked_count hA hS).mono fun e w' h => fin h
   ·exact (asked_seats hAP hS h20 h21 h22).mono fun e w' h => fin2 h
   ·exact (asked_next hAP hS).mono fun e w' h => fin2 h
set_option maxHeartbeats 8000000
theorem whole_all {w : World} {F F' : Nat → Prop} {yb : Nat} {lv av bv : Value} {la lb : List Nat} (hy : Has w yb #[lv, av, bv] 34) (ha : BkXS w F av la) (hb : BkXN w F' bv lb) (hla : la.length ≤ 1099511627776) (hlb : lb.length ≤ 1099511627776) :
  Calls Tryz.prog 11 #[.pointer (some ⟨yb, 1, none⟩)] w fun e w' => e = .returned (.bool true) ∧ Mod No w w' := by
 have HY := hide hy
 have HA := hide ha
 have HB := hide hb
 have HLA := hide hla
 have HLB := hide hlb
 clear hy ha hb hla hlb
 go_enter Tryz.func11, Tryz.ntmps11
 go_upto_block 0 with fail
 refine wp_block ?_
 refine wl1S (unhide HA) ((unhide HY).cell 1) (unhide HY).lt (unhide HLA) _ _ _ _ _ _ _ _ _ _ _ _ _ _ _ _ _ _ _ _ _ _ _ _ _ _ _ _ _ _ _ _ _ _ _ _ _ _ _ _ _ _ _ _ _ _ _ _ _ _ _ _ _ _ _ _ _ _ _ _ _ _ _ _ _ _ _ _ _ _ _ _ _ _ _ _ _ _ _ _ _ _ _ _ _ _ _ _ _ _ _ _ _ _ _ _ _ _ _ _ _ _ _ _ _ _ _ _ _ _ _ _ _ _ _ _ _ _ _ _ _ _ _ _ _ _ _ _ _ _ _ _ _ _ _ _ _ _ _ _ _ _ _ _ _ _ _ _ _ _ _ _ _ ?_
 intro x2 x3 x4 x5 x6 x11 x12 x13 x14 x15 x16 x17 x18 x19 x20 x21 x22 x23 x24 x25 x26 x27 x28 x29 x30 x31 x32 x33 x34 x35 x36 x37 x38 x39 x40 x41 x42 x43 x44 x45 x46 x47 x48 x49 x50 x51 x52 x53 x54 x55 x56 x57 x58 x59 x60 x61 x62 x63 x64 x65 x66 x67 x68 x69 x70 x71 x72 x73 x74 x75 x76 x77 x78 x79 x80 x81 x82 x83 x84 x85 x86 x87 x88 x89 x90 W1 M1
 have HB1 := hide ((unhide HB).mod (F' := F') ((unhide M1).mono (S' := F') (fun _ _ x => x.elim)) (fun _ _ x => x))
 have HY1 := hide ((unhide M1).has (unhide HY) (fun x => x))
 go_upto_block 6 with fail
 refine wp_block ?_
 refine wl1N (unhide HB1) ((unhide HY1).cell 2) (unhide HY1).lt (unhide HLB) _ _ _ _ _ _ _ _ _ _ _ _ _ _ _ _ _ _ _ _ _ _ _ _ _ _ _ _ _ _ _ _ _ _ _ _ _ _ _ _ _ _ _ _ _ _ _ _ _ _ _ _ _ _ _ _ _ _ _ _ _ _ _ _ _ _ _ _ _ _ _ _ _ _ _ _ _ _ _ _ _ _ _ _ _ _ _ _ _ _ _ _ _ _ _ _ _ _ _ _ _ _ _ _ _ _ _ _ _ _ _ _ _ _ _ _ _ _ _ _ _ _ _ _ _ _ _ _ _ _ _ _ _ _ _ _ _ _ _ _ _ _ _ _ _ _ _ _ _ _ _ _ _ ?_
 intro y2 y7 y8 y9 y10 y91 y92 y93 y94 y95 y96 y97 y98 y99 y100 y101 y102 y103 y104 y105 y106 y107 y108 y109 y110 y111 y112 y113 y114 y115 y116 y117 y118 y119 y120 y121 y122 y123 y124 y125 y126 y127 y128 y129 y130 y131 y132 y133 y134 y135 y136 y137 y138 y139 y140 y141 y142 y143 y144 y145 y146 y147 y148 y149 y150 y151 y152 y153 W2 M2
 have FIN := hide ((unhide M1).trans (unhide M2))
 go_wp2
 go_ret
 exact ⟨rfl, unhide FIN⟩
set_option maxHeartbeats 4000000
theorem JP.whole {w0 w : World} {yb m : Nat} (h : JP w0 yb m w) : Calls Tryz.prog 11 #[.pointer (some ⟨yb, 1, none⟩)] w fun e w' => e = .returned (.bool true) ∧ JP w0 yb m w' := by
 obtain ⟨who, lv, av, bv, os, b, hb, q, h1, h2⟩ := h
 obtain ⟨la, lb, l1, l2, l3, l4⟩ := q.book
 exact (whole_all q.has l3 l4 (by omega) (by omega)).mono fun e w' ⟨he, hw⟩ => ⟨he, who, lv, av, bv, os, b, hb, q.still (bkB_ok _ _ _) hw, h1, h2⟩
theorem pages_any (a : Option Addr) (n cap : Nat) (hn : n ≤ 1048576) (w : World) (hs : Ops w a n) :
  Calls Tryz.prog 4 #[.slice a n cap] w fun e w' => e = .returned (.bool true) ∧ Mod No w w' := by
 have HL := hide (living_any a n cap (by omega) w hs)
 clear hs
 go_enter Tryz.func4, Tryz.ntmps4
 go_wp2_with fail
 refine (unhide HL).mono ?_
 rintro e w1 ⟨v, rfl, ⟨l, hl, ho, hb⟩, hm⟩
 obtain ⟨a1, c1, rfl⟩ := slice_of_owns ho
 subst hl
 have hlive := live_of ho rfl
 have mA : Mod No w1 (w1.alloc (.cells #[.int .i64 1, .int .i64 2, .int .i64 3, .int .i64 4, .int .i64 5, .int .i64 6, .int .i64 7] 3)) := (Mod.refl _ _).alloc _
 have hK := Has.new w1 #[.int .i64 1, .int .i64 2, .int .i64 3, .int .i64 4, .int .i64 5, .int .i64 6, .int .i64 7] 3
 have HP := hide (plays_any (w := w1.alloc (.cells #[.int .i64 1, .int .i64 2, .int .i64 3, .int .i64 4, .int .i64 5, .int .i64 6, .int .i64 7] 3)) a1 l.length c1 (by omega) (hlive.mod mA (fun _ _ _ _ x => x)) w1.heap.size 7 [1, 2, 3, 4, 5, 6, 7] (fun q hq => by
   have : q = 0 ∨ q = 1 ∨ q = 2 ∨ q = 3 ∨ q = 4 ∨ q = 5 ∨ q = 6 := by simp at hq; omega
   rw [hK.cell]
   rcases this with rfl | rfl | rfl | rfl | rfl | rfl | rfl <;> rfl) hK.lt (by simp) true (JP _ _) (JP.start _)
  (fun m W h => by obtain ⟨_, _, _, _, _, _, _, q, _⟩ := h; exact q.mod) (fun m W h => by obtain ⟨who, lv, av, bv, os, b, hb, q, h1, h2⟩ := h; exact ⟨who, lv, av, bv, os, b, by omega, q.more PD.more, h1, h2⟩) (fun m W W' h hm => by obtain ⟨who, lv, av, bv, os, b, hb, q, h1, h2⟩ := h; exact ⟨who, lv, av, bv, os, b, hb, q.still (bkB_ok _ _ _) hm, h1, h2⟩)
  (fun m W x k ck hm hJ hk hck hin hsw => step_pages hJ (by omega) x hk (by
    simp [inK] at hin
    omega))
  (fun m W hJ => hJ.whole))
 have MM := hide (hm.trans mA)
 clear HL ho hb hm hlive mA hK
 go_wp2_with fail
 refine (unhide HP).mono ?_
 rintro e w2 ⟨rfl, hm2⟩
 have M2 := hide ((unhide MM).trans hm2)
 clear hm2 HP MM
 go_wp2
 go_ret
 exact ⟨rfl, unhide M2⟩
theorem bulk_one {H : Type} (d : DataW H) : 1 ≤ Rows.uptoBulk d := by
 cases d with
 | lit l => cases l <;> simp [Rows.uptoBulk]
 | nil => simp [Rows.uptoBulk]
 | ptr d => simp [Rows.uptoBulk]
 | slice elems spare => simp [Rows.uptoBulk]
 | agg parts => simp [Rows.uptoBulk]
 | iface t d => simp [Rows.uptoBulk]
 | map entries => simp [Rows.uptoBulk]
 | held h => simp [Rows.uptoBulk]
theorem bulk_part {H : Type} {d : DataW H} {l : List (DataW H)} (h : d ∈ l) : Rows.uptoBulk d ≤ Rows.uptoBulkAll l := by
 induction l with
 | nil => cases h
 | cons x r ih =>
  simp only [Rows.uptoBulkAll]
  cases List.mem_cons.1 h with
  | inl e => subst e; omega
  | inr e => have := ih e; omega
theorem bulk_len {H : Type} (l : List (DataW H)) : l.length ≤ Rows.uptoBulkAll l := by
 induction l with
 | nil => simp [Rows.uptoBulkAll]
 | cons x r ih => have := bulk_one x; simp only [Rows.uptoBulkAll, List.length_cons]; omega
theorem bulk_slice {H : Type} {es sp : List (DataW H)} {l : List (DataW H)} (h : (DataW.slice es sp : DataW H) ∈ l) (hk : Rows.uptoSmall H l = true) : es.length ≤ 1048576 := by
 have h1 : Rows.uptoBulkAll l ≤ 1048576 := of_decide_eq_true hk
 have h2 := bulk_part h
 have h3 := bulk_len es
 simp only [Rows.uptoBulk] at h2
 omega
end Go.Proofs.YthhibagcpjeihaaGreat
