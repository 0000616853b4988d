import Derived.Test.YthhibagcpjeihaaGreatIBook3NToBook6N
import Derived.Test.YthhibagcpjeihaaGreatIOpArgsToLaw8
import Derived.Test.YthhibagcpjeihaaGreatILaw2ToRef32
import Derived.Deep.CutBlock
import Derived.Test.YthhibagcpjeihaaGreatILaw9ToLaw13
import Derived.Test.YthhibagcpjeihaaGreatIRef36ToLaw5
import Derived.Test.YthhibagcpjeihaaGreatIAppend2ToBook2N
import Derived.Test.YthhibagcpjeihaaGreatIRef16ToSwap1
import Derived.Test.YthhibagcpjeihaaGreatIRef13ToRef15
import Derived.Test.YthhibagcpjeihaaGreatISav1ToOpen
import Derived.Test.YthhibagcpjeihaaGreatIRelToKeepM
import Derived.Test.YthhibagcpjeihaaGreatIRef10ToRef12
import Derived.Test.YthhibagcpjeihaaGreatIRFactsToRFacts2
namespace Go.Proofs.YthhibagcpjeihaaGreat
open Go.RowKit
open M
set_option linter.unusedVariables false
set_option linter.unusedSimpArgs false
set_option maxRecDepth 100000
set_option maxHeartbeats 8000000
noncomputable def whLoopN (n : Nat) : Code := ((loopsOf (Tryz.f11.body.getD .skip))[n]?).getD .skip
theorem wl3N {w0 : World} {yb ab rb i q m c L cx : Nat} {a : Option Addr} (hx : ∀ W, Mod No w0 W → W.cell? ⟨yb, 2, none⟩ = some (.slice (some ⟨ab, 0, none⟩) L cx) ∧ yb < W.heap.size ∧ W.cell? ⟨ab, i, none⟩ = some (.slice (some ⟨rb, 0, none⟩) 4 4) ∧ ab < W.heap.size ∧ W.cell? ⟨rb, q, none⟩ = some (.slice a m c) ∧ rb < W.heap.size ∧ ∀ j, j < m → ∃ g, a = some ⟨g, 0, none⟩ ∧ g < W.heap.size ∧ W.rangeAt g (j * 3) (zVN i).toList) (hi : i < L) (hL : L ≤ 1099511627776) (hq : q < 4) (hm : m ≤ 1000000) (Q0 : Exit → Act → World → Prop) (sl1 sl2 sl3 sl4 sl5 sl6 sl10 sl11 sl12 sl13 sl14 sl15 sl16 sl17 sl18 sl19 sl20 sl21 sl22 sl23 sl24 sl25 sl26 sl27 sl28 sl29 sl30 sl31 sl32 sl33 sl34 sl35 sl36 sl37 sl38 sl39 sl40 sl41 sl42 sl43 sl44 sl45 sl46 sl47 sl48 sl49 sl50 sl51 sl52 sl53 sl54 sl55 sl56 sl57 sl58 sl59 sl60 sl61 sl62 sl63 sl64 sl65 sl66 sl67 sl68 sl69 sl70 sl71 sl72 sl73 sl74 sl75 sl76 sl77 sl78 sl79 sl80 sl81 sl82 sl83 sl84 sl85 sl86 sl87 sl88 sl89 sl90 sl91 sl92 sl93 sl94 sl95 sl96 sl97 sl98 sl99 sl100 sl101 sl102 sl103 sl104 sl105 sl106 sl107 sl108 sl109 sl110 sl111 sl112 sl113 sl114 sl115 sl116 sl117 sl118 sl119 sl120 sl121 sl122 sl123 sl124 sl125 sl126 sl127 sl128 sl129 sl130 sl131 sl132 sl133 sl134 sl135 sl136 sl137 sl138 sl139 sl140 sl141 sl142 sl143 sl144 sl145 sl146 sl147 sl148 sl149 sl150 sl151 sl152 sl153 : Value)
  (hexit : ∀ (x2 x9 x10 x112 x113 x114 x115 x116 x117 x118 x119 x120 x121 x122 x123 x124 x125 x126 x127 x128 x129 x130 x131 x132 x133 x134 x135 x136 x137 x138 x139 x140 x141 x142 x143 x144 x145 x146 x147 x148 x149 x150 x151 x152 x153 : Value) (W : World), Hid (Mod No w0 W) → Q0 (.exit 10) ⟨#[.pointer (some ⟨yb, 1, none⟩), sl1, x2, sl3, sl4, sl5, sl6, .int .i64 (i : Int), .int .i64 (q : Int), x9, x10, sl11, sl12, sl13, sl14, sl15, sl16, sl17, sl18, sl19, sl20, sl21, sl22, sl23, sl24, sl25, sl26, sl27, sl28, sl29, sl30, sl31, sl32, sl33, sl34, sl35, sl36, sl37, sl38, sl39, sl40, sl41, sl42, sl43, sl44, sl45, sl46, sl47, sl48, sl49, sl50, sl51, sl52, sl53, sl54, sl55, sl56, sl57, sl58, sl59, sl60, sl61, sl62, sl63, sl64, sl65, sl66, sl67, sl68, sl69, sl70, sl71, sl72, sl73, sl74, sl75, sl76, sl77, sl78, sl79, sl80, sl81, sl82, sl83, sl84, sl85, sl86, sl87, sl88, sl89, sl90, sl91, sl92, sl93, sl94, sl95, sl96, sl97, sl98, sl99, sl100, sl101, sl102, sl103, sl104, sl105, sl106, sl107, sl108, sl109, sl110, sl111, x112, x113, x114, x115, x116, x117, x118, x119, x120, x121, x122, x123, x124, x125, x126, x127, x128, x129, x130, x131, x132, x133, x134, x135, x136, x137, x138, x139, x140, x141, x142, x143, x144, x145, x146, x147, x148, x149, x150, x151, x152, x153], []⟩ W) :
  Code.wp Tryz.prog (whLoopN 5) Q0 ⟨#[.pointer (some ⟨yb, 1, none⟩), sl1, sl2, sl3, sl4, sl5, sl6, .int .i64 (i : Int), .int .i64 (q : Int), .int .i64 0, sl10, sl11, sl12, sl13, sl14, sl15, sl16, sl17, sl18, sl19, sl20, sl21, sl22, sl23, sl24, sl25, sl26, sl27, sl28, sl29, sl30, sl31, sl32, sl33, sl34, sl35, sl36, sl37, sl38, sl39, sl40, sl41, sl42, sl43, sl44, sl45, sl46, sl47, sl48, sl49, sl50, sl51, sl52, sl53, sl54, sl55, sl56, sl57, sl58, sl59, sl60, sl61, sl62, sl63, sl64, sl65, sl66, sl67, sl68, sl69, sl70, sl71, sl72, sl73, sl74, sl75, sl76, sl77, sl78, sl79, sl80, sl81, sl82, sl83, sl84, sl85, sl86, sl87, sl88, sl89, sl90, sl91, sl92, sl93, sl94, sl95, sl96, sl97, sl98, sl99, sl100, sl101, sl102, sl103, sl104, sl105, sl106, sl107, sl108, sl109, sl110, sl111, sl112, sl113, sl114, sl115, sl116, sl117, sl118, sl119, sl120, sl121, sl122, sl123, sl124, sl125, sl126, sl127, sl128, sl129, sl130, sl131, sl132, sl133, sl134, sl135, sl136, sl137, sl138, sl139, sl140, sl141, sl142, sl143, sl144, sl145, sl146, sl147, sl148, sl149, sl150, sl151, sl152, sl153], []⟩ w0 := by
 conv => arg 4; dsimp only
 conv => arg 2; whnf
 have HEX := hide hexit
 clear hexit
 have HX := hide hx
 have HL := hide hL
 have i0 : (0 : Int) ≤ i := by omega
 have iL : (i : Int) < (L : Int) := by omega
 have q0 : (0 : Int) ≤ q := by omega
 have q4 : (q : Int) < 4 := by omega
 have HM := hide hm
 clear hx hL hi hq hm
 go_loopw [9] (fun s wx => ∃ j : Nat, s = .int .i64 (j : Int) ∧ j ≤ m ∧ Hid (Mod No w0 wx)) (fun s _ => m - (intOf s).toNat)
 case atStart => exact ⟨0, rfl, by omega, Mod.refl _ _⟩
 case round =>
  obtain ⟨j, rfl, hj, M1⟩ := hrel
  obtain ⟨c1, l1, c2, l2, c3, l3, hz⟩ := (unhide HX) wr (unhide M1)
  have hm := unhide HM
  by_cases hjm : j < m
  ·have hji : (j : Int) < (m : Int) := by omega
   have hj0 : (0 : Int) ≤ j := by omega
   have hj1 : IntKind.i64.wrap ((j : Int) + 1) = ((j + 1 : Nat) : Int) := by rw [wrap_id _ (by omega) (by omega)]; rfl
   obtain ⟨g, rfl, hg, hr⟩ := hz j hjm
   have z0 : wr.cell? ⟨g, j * 3, none⟩ = some (.int .i64 (-9)) := hr 0 _ rfl
   have z1 : wr.cell? ⟨g, j * 3 + 1, none⟩ = some (.int .i64 0) := hr 1 _ rfl
   have z2 : wr.cell? ⟨g, j * 3 + 2, none⟩ = some (.int .i64 (i : Int)) := hr 2 _ rfl
   clear hz hr
   have M2 := hide ((unhide M1).alloc (.cells (zVN i) 68))
   unfold zVN at M2
   go_wp2
   exact ⟨⟨j + 1, rfl, by omega, M2⟩, by simp [intOf]; omega⟩
  ·have hji : ¬ (j : Int) < (m : Int) := by omega
   clear hz
   go_wp2
   exact (unhide HEX) _ _ _ _ _ _ _ _ _ _ _ _ _ _ _ _ _ _ _ _ _ _ _ _ _ _ _ _ _ _ _ _ _ _ _ _ _ _ _ _ _ _ _ _ _ _ M1
theorem wl2N {w0 : World} {yb i : Nat} {F : Nat → Prop} {xv : Value} {ls : List Nat} {av bv lv : Value} (hx : BkXN w0 F xv ls) (hy : w0.cell? ⟨yb, 2, none⟩ = some xv) (hyl : yb < w0.heap.size) (hi : i < ls.length) (hL : ls.length ≤ 1099511627776) (Q0 : Exit → Act → World → Prop) (sl1 sl2 sl3 sl4 sl5 sl6 sl9 sl10 sl11 sl12 sl13 sl14 sl15 sl16 sl17 sl18 sl19 sl20 sl21 sl22 sl23 sl24 sl25 sl26 sl27 sl28 sl29 sl30 sl31 sl32 sl33 sl34 sl35 sl36 sl37 sl38 sl39 sl40 sl41 sl42 sl43 sl44 sl45 sl46 sl47 sl48 sl49 sl50 sl51 sl52 sl53 sl54 sl55 sl56 sl57 sl58 sl59 sl60 sl61 sl62 sl63 sl64 sl65 sl66 sl67 sl68 sl69 sl70 sl71 sl72 sl73 sl74 sl75 sl76 sl77 sl78 sl79 sl80 sl81 sl82 sl83 sl84 sl85 sl86 sl87 sl88 sl89 sl90 sl91 sl92 sl93 sl94 sl95 sl96 sl97 sl98 sl99 sl100 sl101 sl102 sl103 sl104 sl105 sl106 sl107 sl108 sl109 sl110 sl111 sl112 sl113 sl114 sl115 sl116 sl117 sl118 sl119 sl120 sl121 sl122 sl123 sl124 sl125 sl126 sl127 sl128 sl129 sl130 sl131 sl132 sl133 sl134 sl135 sl136 sl137 sl138 sl139 sl140 sl141 sl142 sl143 sl144 sl145 sl146 sl147 sl148 sl149 sl150 sl151 sl152 sl153 : Value)
  (hexit : ∀ (x2 x8 x9 x10 x100 x101 x102 x103 x104 x105 x106 x107 x108 x109 x110 x111 x112 x113 x114 x115 x116 x117 x118 x119 x120 x121 x122 x123 x124 x125 x126 x127 x128 x129 x130 x131 x132 x133 x134 x135 x136 x137 x138 x139 x140 x141 x142 x143 x144 x145 x146 x147 x148 x149 x150 x151 x152 x153 : Value) (W : World), Hid (Mod No w0 W) → Q0 (.exit 8) ⟨#[.pointer (some ⟨yb, 1, none⟩), sl1, x2, sl3, sl4, sl5, sl6, .int .i64 (i : Int), x8, x9, x10, sl11, sl12, sl13, sl14, sl15, sl16, sl17, sl18, sl19, sl20, sl21, sl22, sl23, sl24, sl25, sl26, sl27, sl28, sl29, sl30, sl31, sl32, sl33, sl34, sl35, sl36, sl37, sl38, sl39, sl40, sl41, sl42, sl43, sl44, sl45, sl46, sl47, sl48, sl49, sl50, sl51, sl52, sl53, sl54, sl55, sl56, sl57, sl58, sl59, sl60, sl61, sl62, sl63, sl64, sl65, sl66, sl67, sl68, sl69, sl70, sl71, sl72, sl73, sl74, sl75, sl76, sl77, sl78, sl79, sl80, sl81, sl82, sl83, sl84, sl85, sl86, sl87, sl88, sl89, sl90, sl91, sl92, sl93, sl94, sl95, sl96, sl97, sl98, sl99, x100, x101, x102, x103, x104, x105, x106, x107, x108, x109, x110, x111, x112, x113, x114, x115, x116, x117, x118, x119, x120, x121, x122, x123, x124, x125, x126, x127, x128, x129, x130, x131, x132, x133, x134, x135, x136, x137, x138, x139, x140, x141, x142, x143, x144, x145, x146, x147, x148, x149, x150, x151, x152, x153], []⟩ W) :
  Code.wp Tryz.prog (whLoopN 4) Q0 ⟨#[.pointer (some ⟨yb, 1, none⟩), sl1, sl2, sl3, sl4, sl5, sl6, .int .i64 (i : Int), .int .i64 0, sl9, sl10, sl11, sl12, sl13, sl14, sl15, sl16, sl17, sl18, sl19, sl20, sl21, sl22, sl23, sl24, sl25, sl26, sl27, sl28, sl29, sl30, sl31, sl32, sl33, sl34, sl35, sl36, sl37, sl38, sl39, sl40, sl41, sl42, sl43, sl44, sl45, sl46, sl47, sl48, sl49, sl50, sl51, sl52, sl53, sl54, sl55, sl56, sl57, sl58, sl59, sl60, sl61, sl62, sl63, sl64, sl65, sl66, sl67, sl68, sl69, sl70, sl71, sl72, sl73, sl74, sl75, sl76, sl77, sl78, sl79, sl80, sl81, sl82, sl83, sl84, sl85, sl86, sl87, sl88, sl89, sl90, sl91, sl92, sl93, sl94, sl95, sl96, sl97, sl98, sl99, sl100, sl101, sl102, sl103, sl104, sl105, sl106, sl107, sl108, sl109, sl110, sl111, sl112, sl113, sl114, sl115, sl116, sl117, sl118, sl119, sl120, sl121, sl122, sl123, sl124, sl125, sl126, sl127, sl128, sl129, sl130, sl131, sl132, sl133, sl134, sl135, sl136, sl137, sl138, sl139, sl140, sl141, sl142, sl143, sl144, sl145, sl146, sl147, sl148, sl149, sl150, sl151, sl152, sl153], []⟩ w0 := by
 conv => arg 4; dsimp only
 conv => arg 2; whnf
 have HEX := hide hexit
 clear hexit
 have HXX := hide hx
 have HY := hide hy
 have HYL := hide hyl
 have HI := hide hi
 have HL := hide hL
 obtain ⟨ab, cx, rb, rfl, hab, hrb, hc2⟩ := hx.at hi
 have HRB := hide hrb
 have HC2 := hide hc2
 have HAB := hide hab
 have i0 : (0 : Int) ≤ i := by omega
 have iL : (i : Int) < (ls.length : Int) := by omega
 clear hx hy hyl hc2 hab hL hrb
 go_loopw [8] (fun s wx => ∃ q : Nat, s = .int .i64 (q : Int) ∧ q ≤ 4 ∧ Hid (Mod No w0 wx)) (fun s _ => 4 - (intOf s).toNat)
 case atStart => exact ⟨0, rfl, by omega, Mod.refl _ _⟩
 case round =>
  obtain ⟨q, rfl, hq, M1⟩ := hrel
  have c1 : wr.cell? ⟨yb, 2, none⟩ = some (.slice (some ⟨ab, 0, none⟩) ls.length cx) := mod_cell0 (unhide M1) (unhide HY)
  have l1 := Nat.lt_of_lt_of_le (unhide HYL) (unhide M1).size
  have c2 := mod_cell0 (unhide M1) (unhide HC2)
  have l2 := Nat.lt_of_lt_of_le (unhide HAB) (unhide M1).size
  by_cases hq4 : q < 4
  ·have hqi : (q : Int) < 4 := by omega
   have hq0 : (0 : Int) ≤ q := by omega
   have hq1 : IntKind.i64.wrap ((q : Int) + 1) = ((q + 1 : Nat) : Int) := by rw [wrap_id _ (by omega) (by omega)]; rfl
   obtain ⟨a, m, c, hm, hrl, hc3, hz⟩ := (unhide HXX).head (unhide HRB) hq4
   have HX3 := hide (fun (W : World) (hW : Mod No wr W) => (show W.cell? ⟨yb, 2, none⟩ = some (.slice (some ⟨ab, 0, none⟩) ls.length cx) ∧ yb < W.heap.size ∧ W.cell? ⟨ab, i, none⟩ = some (.slice (some ⟨rb, 0, none⟩) 4 4) ∧ ab < W.heap.size ∧ W.cell? ⟨rb, q, none⟩ = some (.slice a m c) ∧ rb < W.heap.size ∧ ∀ j, j < m → ∃ g, a = some ⟨g, 0, none⟩ ∧ g < W.heap.size ∧ W.rangeAt g (j * 3) (zVN i).toList from by
    have hM := (unhide M1).trans hW
    refine ⟨mod_cell0 hM (unhide HY), Nat.lt_of_lt_of_le (unhide HYL) hM.size, mod_cell0 hM (unhide HC2), Nat.lt_of_lt_of_le (unhide HAB) hM.size, mod_cell0 hM hc3, Nat.lt_of_lt_of_le hrl hM.size, fun j hj => ?_⟩
    obtain ⟨g, e1, e2, e3⟩ := hz j hj
    exact ⟨g, e1, Nat.lt_of_lt_of_le e2 hM.size, mod_range0 hM e3⟩))
   have HM := hide hm
   clear hc3 hz hrl hm
   go_upto_block 10 with fail
   refine wp_block ?_
   refine wl3N (unhide HX3) (unhide HI) (unhide HL) hq4 (unhide HM) _ _ _ _ _ _ _ _ _ _ _ _ _ _ _ _ _ _ _ _ _ _ _ _ _ _ _ _ _ _ _ _ _ _ _ _ _ _ _ _ _ _ _ _ _ _ _ _ _ _ _ _ _ _ _ _ _ _ _ _ _ _ _ _ _ _ _ _ _ _ _ _ _ _ _ _ _ _ _ _ _ _ _ _ _ _ _ _ _ _ _ _ _ _ _ _ _ _ _ _ _ _ _ _ _ _ _ _ _ _ _ _ _ _ _ _ _ _ _ _ _ _ _ _ _ _ _ _ _ _ _ _ _ _ _ _ _ _ _ _ _ _ _ _ _ _ _ _ _ _ _ ?_
   intro x2 x9 x10 x112 x113 x114 x115 x116 x117 x118 x119 x120 x121 x122 x123 x124 x125 x126 x127 x128 x129 x130 x131 x132 x133 x134 x135 x136 x137 x138 x139 x140 x141 x142 x143 x144 x145 x146 x147 x148 x149 x150 x151 x152 x153 W3 M3
   have M4 := hide ((unhide M1).trans (unhide M3))
   clear c1 l1 c2 l2 HX3
   go_wp2
   exact ⟨⟨q + 1, rfl, by omega, M4⟩, by simp [intOf]; omega⟩
  ·have hqi : ¬ (q : Int) < 4 := by omega
   go_wp2
   exact (unhide HEX) _ _ _ _ _ _ _ _ _ _ _ _ _ _ _ _ _ _ _ _ _ _ _ _ _ _ _ _ _ _ _ _ _ _ _ _ _ _ _ _ _ _ _ _ _ _ _ _ _ _ _ _ _ _ _ _ _ _ _ M1
theorem wl1N {w0 : World} {yb : Nat} {F : Nat → Prop} {xv : Value} {ls : List Nat} (hx : BkXN w0 F xv ls) (hy : w0.cell? ⟨yb, 2, none⟩ = some xv) (hyl : yb < w0.heap.size) (hL : ls.length ≤ 1099511627776) (Q0 : Exit → Act → World → Prop) (sl1 sl2 sl3 sl4 sl5 sl6 sl8 sl9 sl10 sl11 sl12 sl13 sl14 sl15 sl16 sl17 sl18 sl19 sl20 sl21 sl22 sl23 sl24 sl25 sl26 sl27 sl28 sl29 sl30 sl31 sl32 sl33 sl34 sl35 sl36 sl37 sl38 sl39 sl40 sl41 sl42 sl43 sl44 sl45 sl46 sl47 sl48 sl49 sl50 sl51 sl52 sl53 sl54 sl55 sl56 sl57 sl58 sl59 sl60 sl61 sl62 sl63 sl64 sl65 sl66 sl67 sl68 sl69 sl70 sl71 sl72 sl73 sl74 sl75 sl76 sl77 sl78 sl79 sl80 sl81 sl82 sl83 sl84 sl85 sl86 sl87 sl88 sl89 sl90 sl91 sl92 sl93 sl94 sl95 sl96 sl97 sl98 sl99 sl100 sl101 sl102 sl103 sl104 sl105 sl106 sl107 sl108 sl109 sl110 sl111 sl112 sl113 sl114 sl115 sl116 sl117 sl118 sl119 sl120 sl121 sl122 sl123 sl124 sl125 sl126 sl127 sl128 sl129 sl130 sl131 sl132 sl133 sl134 sl135 sl136 sl137 sl138 sl139 sl140 sl141 sl142 sl143 sl144 sl145 sl146 sl147 sl148 sl149 sl150 sl151 sl152 sl153 : Value)
  (hexit : ∀ (x2 x7 x8 x9 x10 x91 x92 x93 x94 x95 x96 x97 x98 x99 x100 x101 x102 x103 x104 x105 x106 x107 x108 x109 x110 x111 x112 x113 x114 x115 x116 x117 x118 x119 x120 x121 x122 x123 x124 x125 x126 x127 x128 x129 x130 x131 x132 x133 x134 x135 x136 x137 x138 x139 x140 x141 x142 x143 x144 x145 x146 x147 x148 x149 x150 x151 x152 x153 : Value) (W : World), Hid (Mod No w0 W) → Q0 (.exit 6) ⟨#[.pointer (some ⟨yb, 1, none⟩), sl1, x2, sl3, sl4, sl5, sl6, x7, x8, x9, x10, sl11, sl12, sl13, sl14, sl15, sl16, sl17, sl18, sl19, sl20, sl21, sl22, sl23, sl24, sl25, sl26, sl27, sl28, sl29, sl30, sl31, sl32, sl33, sl34, sl35, sl36, sl37, sl38, sl39, sl40, sl41, sl42, sl43, sl44, sl45, sl46, sl47, sl48, sl49, sl50, sl51, sl52, sl53, sl54, sl55, sl56, sl57, sl58, sl59, sl60, sl61, sl62, sl63, sl64, sl65, sl66, sl67, sl68, sl69, sl70, sl71, sl72, sl73, sl74, sl75, sl76, sl77, sl78, sl79, sl80, sl81, sl82, sl83, sl84, sl85, sl86, sl87, sl88, sl89, sl90, x91, x92, x93, x94, x95, x96, x97, x98, x99, x100, x101, x102, x103, x104, x105, x106, x107, x108, x109, x110, x111, x112, x113, x114, x115, x116, x117, x118, x119, x120, x121, x122, x123, x124, x125, x126, x127, x128, x129, x130, x131, x132, x133, x134, x135, x136, x137, x138, x139, x140, x141, x142, x143, x144, x145, x146, x147, x148, x149, x150, x151, x152, x153], []⟩ W) :
  Code.wp Tryz.prog (whLoopN 3) Q0 ⟨#[.pointer (some ⟨yb, 1, none⟩), sl1, sl2, sl3, sl4, sl5, sl6, .int .i64 0, sl8, sl9, sl10, sl11, sl12, sl13, sl14, sl15, sl16, sl17, sl18, sl19, sl20, sl21, sl22, sl23, sl24, sl25, sl26, sl27, sl28, sl29, sl30, sl31, sl32, sl33, sl34, sl35, sl36, sl37, sl38, sl39, sl40, sl41, sl42, sl43, sl44, sl45, sl46, sl47, sl48, sl49, sl50, sl51, sl52, sl53, sl54, sl55, sl56, sl57, sl58, sl59, sl60, sl61, sl62, sl63, sl64, sl65, sl66, sl67, sl68, sl69, sl70, sl71, sl72, sl73, sl74, sl75, sl76, sl77, sl78, sl79, sl80, sl81, sl82, sl83, sl84, sl85, sl86, sl87, sl88, sl89, sl90, sl91, sl92, sl93, sl94, sl95, sl96, sl97, sl98, sl99, sl100, sl101, sl102, sl103, sl104, sl105, sl106, sl107, sl108, sl109, sl110, sl111, sl112, sl113, sl114, sl115, sl116, sl117, sl118, sl119, sl120, sl121, sl122, sl123, sl124, sl125, sl126, sl127, sl128, sl129, sl130, sl131, sl132, sl133, sl134, sl135, sl136, sl137, sl138, sl139, sl140, sl141, sl142, sl143, sl144, sl145, sl146, sl147, sl148, sl149, sl150, sl151, sl152, sl153], []⟩ w0 := by
 conv => arg 4; dsimp only
 conv => arg 2; whnf
 have HEX := hide hexit
 clear hexit
 have HXX := hide hx
 have HY := hide hy
 have HYL := hide hyl
 have HL := hide hL
 obtain ⟨ax, cx, rfl⟩ := slice_of_owns hx.row
 clear hx hy hyl
 go_loopw [7] (fun s wx => ∃ i : Nat, s = .int .i64 (i : Int) ∧ i ≤ ls.length ∧ Hid (Mod No w0 wx)) (fun s _ => ls.length - (intOf s).toNat)
 case atStart => exact ⟨0, rfl, by omega, Mod.refl _ _⟩
 case round =>
  obtain ⟨i, rfl, hi, M1⟩ := hrel
  have c1 : wr.cell? ⟨yb, 2, none⟩ = some (.slice ax ls.length cx) := mod_cell0 (unhide M1) (unhide HY)
  have l1 := Nat.lt_of_lt_of_le (unhide HYL) (unhide M1).size
  by_cases hil : i < ls.length
  ·have hii : (i : Int) < (ls.length : Int) := by omega
   have hi0 : (0 : Int) ≤ i := by omega
   have hi1 : IntKind.i64.wrap ((i : Int) + 1) = ((i + 1 : Nat) : Int) := by rw [wrap_id _ (by omega) (by omega)]; rfl
   have HXM := hide ((unhide HXX).mod (F' := F) ((unhide M1).mono (S' := F) (fun _ _ x => x.elim)) (fun _ _ x => x))
   have C1 := hide c1
   have L1 := hide l1
   have HIL := hide hil
   go_upto_block 8 with fail
   refine wp_block ?_
   refine wl2N (av := undef) (bv := undef) (lv := undef) (unhide HXM) (unhide C1) (unhide L1) (unhide HIL) (unhide HL) _ _ _ _ _ _ _ _ _ _ _ _ _ _ _ _ _ _ _ _ _ _ _ _ _ _ _ _ _ _ _ _ _ _ _ _ _ _ _ _ _ _ _ _ _ _ _ _ _ _ _ _ _ _ _ _ _ _ _ _ _ _ _ _ _ _ _ _ _ _ _ _ _ _ _ _ _ _ _ _ _ _ _ _ _ _ _ _ _ _ _ _ _ _ _ _ _ _ _ _ _ _ _ _ _ _ _ _ _ _ _ _ _ _ _ _ _ _ _ _ _ _ _ _ _ _ _ _ _ _ _ _ _ _ _ _ _ _ _ _ _ _ _ _ _ _ _ _ _ _ _ _ ?_
   intro x2 x8 x9 x10 x100 x101 x102 x103 x104 x105 x106 x107 x108 x109 x110 x111 x112 x113 x114 x115 x116 x117 x118 x119 x120 x121 x122 x123 x124 x125 x126 x127 x128 x129 x130 x131 x132 x133 x134 x135 x136 x137 x138 x139 x140 x141 x142 x143 x144 x145 x146 x147 x148 x149 x150 x151 x152 x153 W3 M3
   have M4 := hide ((unhide M1).trans (unhide M3))
   clear c1 l1 HXM C1 L1
   go_wp2
   exact ⟨⟨i + 1, rfl, by omega, M4⟩, by simp [intOf]; omega⟩
  ·have hii : ¬ (i : Int) < (ls.length : Int) := by omega
   go_wp2
   exact (unhide HEX) _ _ _ _ _ _ _ _ _ _ _ _ _ _ _ _ _ _ _ _ _ _ _ _ _ _ _ _ _ _ _ _ _ _ _ _ _ _ _ _ _ _ _ _ _ _ _ _ _ _ _ _ _ _ _ _ _ _ _ _ _ _ _ _ _ _ _ _ _ M1
set_option maxHeartbeats 4000000
def bkB (av bv : Value) (b : Nat) : World → (Nat → Prop) → Prop := fun w F => ∃ la lb, la.length ≤ b ∧ lb.length ≤ b ∧ BkXS w (fun k => F k ∨ bv.ownBlock = some k) av la ∧ BkXN w (fun k => F k ∨ av.ownBlock = some k) bv lb
theorem bkB_ok (av bv : Value) (b : Nat) : BookOk (bkB av bv b) := fun w w' F F' h hm hF => by
 obtain ⟨la, lb, h1, h2, h3, h4⟩ := h
 exact ⟨la, lb, h1, h2, h3.mod (hm.mono (fun _ _ x => .inl x)) (fun k hk x => x.imp (hF k hk) id), h4.mod (hm.mono (fun _ _ x => .inl x)) (fun k hk x => x.imp (hF k hk) id)⟩
section
variable {P : Program} {ops : Array Oper} {Q : Exit → Act → World → Prop}
theorem wpAny_call {n : Nat} {a0 : Act} (c : Nat) (inv : Bool → World → Prop) (stp : World → World → Prop) (F : Nat → Value → (Nat → Value) → World → Prop) (hn : a0.tmps.size = n) (hok : factsOkB ops n = true)
  (hF : ∀ (i : Nat) (v : Value) (s : Nat → Value) (w w' : World), stp w w' → F i v s w → F i v s w')
  (hstep : ∀ (i : Nat) (o : Oper) (a : Act) (w : World) (b : Bool), i ≠ c → ops[i]? = some o → FrameOf ops a0 a → inv b w → (∀ e ∈ o.after, Region.binds .any e = true → F e.on (slotv ops e.on a) (maskv ops e.on a) w) → Oper.wp P o a w (fun a' w' => ∃ v, a' = a.put o.dst v ∧ inv b w' ∧ stp w w' ∧ F i (if o.dst.isSome then v else undef) (maskv ops i a) w') Q)
  (hcall : ∀ (o : Oper) (a : Act) (w : World), ops[c]? = some o → FrameOf ops a0 a → inv false w → (∀ e ∈ o.after, Region.binds .any e = true → F e.on (slotv ops e.on a) (maskv ops e.on a) w) → Oper.wp P o a w (fun a' w' => ∃ v, a' = a.put o.dst v ∧ inv true w' ∧ stp w w' ∧ F c (if o.dst.isSome then v else undef) (maskv ops c a) w') Q)
  (hend : ∀ (a : Act) (w : World), FrameOf ops a0 a → inv true w → (∀ i, i < ops.size → F i (slotv ops i a) (maskv ops i a) w) → Q .normal a w) :
  ∀ (fuel : Nat) (L : Array Bool) (a : Act) (w : World), L.size = ops.size → (List.range ops.size).countP (fun i => !L.getD i true) ≤ fuel → FrameOf ops a0 a → inv (L.getD c true) w → (∀ i, i < ops.size → L.getD i true = true → F i (slotv ops i a) (maskv ops i a) w) →
   (∀ (i : Nat) (o : Oper), ops[i]? = some o → L.getD i true = true → ∀ e ∈ o.after, Region.binds .any e = true → L.getD e.on true = true) → wpAny P .any ops Q fuel L a w := by
 have slot_put : ∀ (i : Nat) (o : Oper) (a : Act) (v : Value), ops[i]? = some o → a.tmps.size = n → slotv ops i (a.put o.dst v) = if o.dst.isSome then v else undef := fun i o a v ho hs => by
  unfold slotv
  rw [ho]
  cases hd : o.dst with
  | none => simp [hd]
  | some d =>
   have := (factsOkB_at hok i o ho).2.2.1 d hd
   simp [hd, Act.put, hs, this]
 have hac : ∀ (i : Nat) (o : Oper), ops[i]? = some o → ∀ e ∈ o.after, Region.binds .any e = true → e.on < i := fun i o ho => (factsOkB_at hok i o ho).1
 have slot_other : ∀ (i j : Nat) (o : Oper) (v : Value) (a : Act), i ≠ j → ops[i]? = some o → slotv ops j (a.put o.dst v) = slotv ops j a := fun i j o v a hij ho => by
  unfold slotv
  cases hoj : ops[j]? with
  | none => rfl
  | some oj =>
   simp only [Option.bind_some]
   cases hdj : oj.dst with
   | none => rfl
   | some d =>
    cases hdi : o.dst with
    | none => rfl
    | some d' =>
     have hne : d' ≠ d := fun e => (factsOkB_at hok i o ho).2.2.2 j _ d' (Ne.symm hij) hoj hdi (by rw [hdj, e])
     simp [Act.put, Array.getElem?_setIfInBounds_ne hne]
 have mask_other : ∀ (i j : Nat) (o : Oper) (v : Value) (a : Act), ops[i]? = some o → (∀ oj, ops[j]? = some oj → ∀ e ∈ oj.after, Region.binds .any e = true → e.on ≠ i) → maskv ops j (a.put o.dst v) = maskv ops j a := fun i j o v a ho hnd => by
  funext k
  unfold maskv
  cases hoj : ops[j]? with
  | none => rfl
  | some oj =>
   simp only
   by_cases hk : oj.after.any (fun e => e.on == k && Region.binds .any e) = true
   ·rw [if_pos hk, if_pos hk]
    obtain ⟨e, he, hb⟩ := Array.any_eq_true'.1 hk
    simp only [Bool.and_eq_true, beq_iff_eq] at hb
    have := hnd oj hoj e he hb.2
    rw [hb.1] at this
    exact slot_other i k o v a (Ne.symm this) ho
   ·rw [if_neg hk, if_neg hk]
 have hput : ∀ (i : Nat) (o : Oper) (v : Value) (a : Act), ops[i]? = some o → FrameOf ops a0 a → FrameOf ops a0 (a.put o.dst v) := fun i o v a ho hG => by
  refine ⟨?_, ?_, fun s hs => ?_⟩
  ·cases hd : o.dst <;> simp [Act.put, hG.defers]
  ·cases hd : o.dst <;> simp [Act.put, hG.size]
  ·have hne := Array.all_eq_true_iff_forall_mem.1 hs o (Array.mem_of_getElem? ho)
   rw [← hG.rest s hs]
   cases hd : o.dst with
   | none => rfl
   | some d =>
    have : d ≠ s := by
     rw [hd] at hne
     simpa using hne
    simp [Act.put, Array.getElem?_setIfInBounds_ne this]
 intro fuel
 have none_left : ∀ (L : Array Bool) (a : Act) (w : World), L.size = ops.size → FrameOf ops a0 a → inv (L.getD c true) w → (∀ i, i < ops.size → L.getD i true = true → F i (slotv ops i a) (maskv ops i a) w) → Region.ready .any ops L = [] → Q .normal a w := fun L a w hL hG hI hf hr => by
  have hct : L.getD c true = true := by
   by_cases hc : c < ops.size
   ·exact ready_doneB hL hac hr c hc
   ·simp [show L.size ≤ c by omega]
  rw [hct] at hI
  exact hend a w hG hI (fun i hi => hf i hi (ready_doneB hL hac hr i hi))
 induction fuel with
 | zero =>
  intro L a w hL hc hG hI hf hcl
  have hr : Region.ready .any ops L = [] := by
   cases hr : Region.ready .any ops L with
   | nil => rfl
   | cons i r =>
    exfalso
    have hm : i ∈ Region.ready .any ops L := by rw [hr]; exact List.mem_cons_self ..
    obtain ⟨h0, o, ho, _⟩ := mem_ready.1 hm
    have h1 : i < ops.size := (Array.getElem?_eq_some_iff.1 ho).1
    have : 0 < (List.range ops.size).countP (fun i => !L.getD i true) := List.countP_pos_iff.2 ⟨i, List.mem_range.2 h1, by rw [h0]; rfl⟩
    omega
  exact ⟨hr, none_left L a w hL hG hI hf hr⟩
 | succ fuel ih =>
  intro L a w hL hc hG hI hf hcl
  refine ⟨none_left L a w hL hG hI hf, fun i hi => ?_⟩
  obtain ⟨h0, o, ho, hall⟩ := mem_ready.1 hi
  have h1 : i < ops.size := (Array.getElem?_eq_some_iff.1 ho).1
  have hlis : ∀ e ∈ o.after, Region.binds .any e = true → e.on < ops.size ∧ L.getD e.on true = true := fun e he hb => by
   have q := hall e he hb
   have q1 := hac i o ho e he hb
   have q2 : e.on < L.size := by omega
   exact ⟨by omega, by simpa [q2] using q⟩
  unfold wpOp
  rw [ho]
  simp only
  rw [if_pos (by simp [Region.wanted, (factsOkB_at hok i o ho).2.1])]
  have hstep' : Oper.wp P o a w (fun a' w' => ∃ v, a' = a.put o.dst v ∧ inv ((L.setIfInBounds i true).getD c true) w' ∧ stp w w' ∧ F i (if o.dst.isSome then v else undef) (maskv ops i a) w') Q := by
   by_cases hic : i = c
   ·subst hic
    rw [h0] at hI
    have hs := hcall o a w ho hG hI (fun e he hb => hf e.on (hlis e he hb).1 (hlis e he hb).2)
    have hset : (L.setIfInBounds i true).getD i true = true := by simp [show i < L.size by omega]
    rw [hset]
    exact hs
   ·rw [getD_set_ne true hic]
    exact hstep i o a w _ hic ho hG hI (fun e he hb => hf e.on (hlis e he hb).1 (hlis e he hb).2)
  refine .inl (Oper.wp_mono (fun a' w' h => ?_) hstep')
  obtain ⟨v, rfl, hI', hst, hfn⟩ := h
  refine ih _ _ _ (by simp [hL]) ?_ (hput i o v a ho hG) hI' (fun j hj hl => ?_) (fun j oj hoj hl e he hb => ?_)
  ·have hiL : i < L.size := by omega
   have key : ∀ (l : List Nat), i ∈ l → l.Nodup → l.countP (fun j => !(L.setIfInBounds i true).getD j true) + 1 ≤ l.countP (fun j => !L.getD j true) := by
    intro l
    induction l with
    | nil => intro h; cases h
    | cons x l ihl =>
     intro hm hn
     have hle : ∀ (l : List Nat), l.countP (fun j => !(L.setIfInBounds i true).getD j true) ≤ l.countP (fun j => !L.getD j true) := fun l => List.countP_mono_left (fun j _ hj => by
      by_cases hij : i = j
      ·subst hij; simp [hiL] at hj
      ·rw [getD_set_ne true hij] at hj; exact hj)
     rw [List.countP_cons, List.countP_cons]
     by_cases hx : x = i
     ·subst hx
      have e1 : (!(L.setIfInBounds x true).getD x true) = false := by simp [hiL]
      have e2 : (!L.getD x true) = true := by rw [h0]; rfl
      rw [e1, e2]
      have := hle l
      simp only [Bool.false_eq_true, if_false, if_true]
      omega
     ·have hm' : i ∈ l := by rcases List.mem_cons.1 hm with q | q; exact absurd q.symm hx; exact q
      have := ihl hm' (List.nodup_cons.1 hn).2
      rw [getD_set_ne true (Ne.symm hx)]
      omega
   have := key _ (List.mem_range.2 h1) List.nodup_range
   omega
  ·by_cases hij : i = j
   ·subst hij
    rw [slot_put i o a v ho (hG.size.trans hn), mask_other i i o v a ho (fun oj hoj e he hb => Nat.ne_of_lt (hac i oj hoj e he hb))]
    exact hfn
   ·rw [getD_set_ne true hij] at hl
    rw [slot_other i j o v a hij ho, mask_other i j o v a ho (fun oj hoj e he hb eq => by
     have := hcl j oj hoj hl e he hb
     rw [eq] at this
     rw [this] at h0
     cases h0)]
    exact hF _ _ _ _ _ hst (hf j hj hl)
  ·by_cases hij : i = j
   ·subst hij
    have hoo : oj = o := Option.some.inj (hoj.symm.trans ho)
    subst hoo
    have q := hlis e he hb
    have hne : i ≠ e.on := fun eq => by have := hac i oj ho e he hb; omega
    rw [getD_set_ne true hne]
    exact q.2
   ·rw [getD_set_ne true hij] at hl
    have q := hcl j oj hoj hl e he hb
    by_cases hie : i = e.on
    ·rw [← hie] at q
     rw [q] at h0
     cases h0
    ·rw [getD_set_ne true hie]
     exact q
theorem wp_region_C {id n : Nat} {a0 : Act} {w : World} (c : Nat) (inv : Bool → World → Prop) (stp : World → World → Prop) (F : Nat → Value → (Nat → Value) → World → Prop) (hm : P.follows .mixedOrders = true) (hn : a0.tmps.size = n) (hok : factsOkB ops n = true)
  (hF : ∀ (i : Nat) (v : Value) (s : Nat → Value) (w w' : World), stp w w' → F i v s w → F i v s w')
  (hstep : ∀ (i : Nat) (o : Oper) (a : Act) (w : World) (b : Bool), i ≠ c → ops[i]? = some o → FrameOf ops a0 a → inv b w → (∀ e ∈ o.after, Region.binds .any e = true → F e.on (slotv ops e.on a) (maskv ops e.on a) w) → Oper.wp P o a w (fun a' w' => ∃ v, a' = a.put o.dst v ∧ inv b w' ∧ stp w w' ∧ F i (if o.dst.isSome then v else undef) (maskv ops i a) w') Q)
  (hcall : ∀ (o : Oper) (a : Act) (w : World), ops[c]? = some o → FrameOf ops a0 a → inv false w → (∀ e ∈ o.after, Region.binds .any e = true → F e.on (slotv ops e.on a) (maskv ops e.on a) w) → Oper.wp P o a w (fun a' w' => ∃ v, a' = a.put o.dst v ∧ inv true w' ∧ stp w w' ∧ F c (if o.dst.isSome then v else undef) (maskv ops c a) w') Q)
  (hend : ∀ (a : Act) (w : World), FrameOf ops a0 a → inv true w → (∀ i, i < ops.size → F i (slotv ops i a) (maskv ops i a) w) → Q .normal a w) (hI : inv false w.drew) (hex : ∃ o, ops[c]? = some o) : (Code.region id ops true).wp P Q a0 w := by
 refine wp_region_any hm (wpAny_call c inv stp F hn hok hF hstep hcall hend _ _ _ _ (by simp) (Nat.le_trans List.countP_le_length (by simp)) ⟨rfl, rfl, fun _ _ => rfl⟩ (by
  obtain ⟨o, ho⟩ := hex
  have hc : c < ops.size := (Array.getElem?_eq_some_iff.1 ho).1
  simpa [hc] using hI) (fun i hi h => ?_) (fun i o ho h => ?_))
 ·simp [hi] at h
 ·have hi : i < ops.size := (Array.getElem?_eq_some_iff.1 ho).1
  simp [hi] at h
end
end Go.Proofs.YthhibagcpjeihaaGreat
