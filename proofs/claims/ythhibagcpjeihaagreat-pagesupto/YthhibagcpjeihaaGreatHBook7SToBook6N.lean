import Derived.Test.YthhibagcpjeihaaGreatHBook3SToBook6S
import Derived.Test.YthhibagcpjeihaaGreatHOpArgsToPg4
import Derived.Test.YthhibagcpjeihaaGreatHRef31ToRef34
import Derived.Deep.CutBlock
import Derived.Test.YthhibagcpjeihaaGreatHPage2ToRef41
import Derived.Test.YthhibagcpjeihaaGreatHRef42ToBook2S
import Derived.Test.YthhibagcpjeihaaGreatHLaw3ToLaw6
import Derived.Test.YthhibagcpjeihaaGreatHPage1ToBook1
import Derived.Handy
import Derived.Test.YthhibagcpjeihaaGreatHPg5ToLaw8
namespace Go.Proofs.YthhibagcpjeihaaGreat
open Go.RowKit
open M
set_option linter.unusedVariables false
set_option linter.unusedSimpArgs false
set_option maxRecDepth 100000
set_option maxHeartbeats 8000000
noncomputable def whLoopS (n : Nat) : Code := ((loopsOf (Tryz.f11.body.getD .skip))[n]?).getD .skip
theorem wl3S {w0 : World} {yb ab rb i q m c L cx : Nat} {a : Option Addr} (hx : ∀ W, Mod No w0 W → W.cell? ⟨yb, 1, none⟩ = some (.slice (some ⟨ab, 0, none⟩) L cx) ∧ yb < W.heap.size ∧ W.cell? ⟨ab, i, none⟩ = some (.slice (some ⟨rb, 0, none⟩) 4 4) ∧ ab < W.heap.size ∧ W.cell? ⟨rb, q, none⟩ = some (.slice a m c) ∧ rb < W.heap.size ∧ ∀ j, j < m → ∃ g, a = some ⟨g, 0, none⟩ ∧ g < W.heap.size ∧ W.rangeAt g (j * 6) (zVS i).toList) (hi : i < L) (hL : L ≤ 1099511627776) (hq : q < 4) (hm : m ≤ 1000000) (Q0 : Exit → Act → World → Prop) (sl1 sl2 sl6 sl7 sl8 sl9 sl10 sl11 sl12 sl13 sl14 sl15 sl16 sl17 sl18 sl19 sl20 sl21 sl22 sl23 sl24 sl25 sl26 sl27 sl28 sl29 sl30 sl31 sl32 sl33 sl34 sl35 sl36 sl37 sl38 sl39 sl40 sl41 sl42 sl43 sl44 sl45 sl46 sl47 sl48 sl49 sl50 sl51 sl52 sl53 sl54 sl55 sl56 sl57 sl58 sl59 sl60 sl61 sl62 sl63 sl64 sl65 sl66 sl67 sl68 sl69 sl70 sl71 sl72 sl73 sl74 sl75 sl76 sl77 sl78 sl79 sl80 sl81 sl82 sl83 sl84 sl85 sl86 sl87 sl88 sl89 sl90 sl91 sl92 sl93 sl94 sl95 sl96 sl97 sl98 sl99 sl100 sl101 sl102 sl103 sl104 sl105 sl106 sl107 sl108 sl109 sl110 sl111 sl112 sl113 sl114 sl115 sl116 sl117 sl118 sl119 sl120 sl121 sl122 sl123 sl124 sl125 sl126 sl127 sl128 sl129 sl130 sl131 sl132 sl133 sl134 sl135 sl136 sl137 sl138 sl139 sl140 sl141 sl142 sl143 sl144 sl145 sl146 sl147 sl148 sl149 sl150 sl151 sl152 sl153 : Value)
  (hexit : ∀ (x2 x5 x6 x32 x33 x34 x35 x36 x37 x38 x39 x40 x41 x42 x43 x44 x45 x46 x47 x48 x49 x50 x51 x52 x53 x54 x55 x56 x57 x58 x59 x60 x61 x62 x63 x64 x65 x66 x67 x68 x69 x70 x71 x72 x73 x74 x75 x76 x77 x78 x79 x80 x81 x82 x83 x84 x85 x86 x87 x88 x89 x90 : Value) (W : World), Hid (Mod No w0 W) → Q0 (.exit 4) ⟨#[.pointer (some ⟨yb, 1, none⟩), sl1, x2, .int .i64 (i : Int), .int .i64 (q : Int), x5, x6, sl7, sl8, sl9, sl10, sl11, sl12, sl13, sl14, sl15, sl16, sl17, sl18, sl19, sl20, sl21, sl22, sl23, sl24, sl25, sl26, sl27, sl28, sl29, sl30, sl31, x32, x33, x34, x35, x36, x37, x38, x39, x40, x41, x42, x43, x44, x45, x46, x47, x48, x49, x50, x51, x52, x53, x54, x55, x56, x57, x58, x59, x60, x61, x62, x63, x64, x65, x66, x67, x68, x69, x70, x71, x72, x73, x74, x75, x76, x77, x78, x79, x80, x81, x82, x83, x84, x85, x86, x87, x88, x89, x90, sl91, sl92, sl93, sl94, sl95, sl96, sl97, sl98, sl99, sl100, sl101, sl102, sl103, sl104, sl105, sl106, sl107, sl108, sl109, sl110, sl111, sl112, sl113, sl114, sl115, sl116, sl117, sl118, sl119, sl120, sl121, sl122, sl123, sl124, sl125, sl126, sl127, sl128, sl129, sl130, sl131, sl132, sl133, sl134, sl135, sl136, sl137, sl138, sl139, sl140, sl141, sl142, sl143, sl144, sl145, sl146, sl147, sl148, sl149, sl150, sl151, sl152, sl153], []⟩ W) :
  Code.wp Tryz.prog (whLoopS 2) Q0 ⟨#[.pointer (some ⟨yb, 1, none⟩), sl1, sl2, .int .i64 (i : Int), .int .i64 (q : Int), .int .i64 0, sl6, sl7, sl8, sl9, sl10, sl11, sl12, sl13, sl14, sl15, sl16, sl17, sl18, sl19, sl20, sl21, sl22, sl23, sl24, sl25, sl26, sl27, sl28, sl29, sl30, sl31, sl32, sl33, sl34, sl35, sl36, sl37, sl38, sl39, sl40, sl41, sl42, sl43, sl44, sl45, sl46, sl47, sl48, sl49, sl50, sl51, sl52, sl53, sl54, sl55, sl56, sl57, sl58, sl59, sl60, sl61, sl62, sl63, sl64, sl65, sl66, sl67, sl68, sl69, sl70, sl71, sl72, sl73, sl74, sl75, sl76, sl77, sl78, sl79, sl80, sl81, sl82, sl83, sl84, sl85, sl86, sl87, sl88, sl89, sl90, sl91, sl92, sl93, sl94, sl95, sl96, sl97, sl98, sl99, sl100, sl101, sl102, sl103, sl104, sl105, sl106, sl107, sl108, sl109, sl110, sl111, sl112, sl113, sl114, sl115, sl116, sl117, sl118, sl119, sl120, sl121, sl122, sl123, sl124, sl125, sl126, sl127, sl128, sl129, sl130, sl131, sl132, sl133, sl134, sl135, sl136, sl137, sl138, sl139, sl140, sl141, sl142, sl143, sl144, sl145, sl146, sl147, sl148, sl149, sl150, sl151, sl152, sl153], []⟩ w0 := by
 conv => arg 4; dsimp only
 conv => arg 2; whnf
 have HEX := hide hexit
 clear hexit
 have HX := hide hx
 have HL := hide hL
 have i0 : (0 : Int) ≤ i := by omega
 have iL : (i : Int) < (L : Int) := by omega
 have q0 : (0 : Int) ≤ q := by omega
 have q4 : (q : Int) < 4 := by omega
 have HM := hide hm
 clear hx hL hi hq hm
 go_loopw [5] (fun s wx => ∃ j : Nat, s = .int .i64 (j : Int) ∧ j ≤ m ∧ Hid (Mod No w0 wx)) (fun s _ => m - (intOf s).toNat)
 case atStart => exact ⟨0, rfl, by omega, Mod.refl _ _⟩
 case round =>
  obtain ⟨j, rfl, hj, M1⟩ := hrel
  obtain ⟨c1, l1, c2, l2, c3, l3, hz⟩ := (unhide HX) wr (unhide M1)
  have hm := unhide HM
  by_cases hjm : j < m
  ·have hji : (j : Int) < (m : Int) := by omega
   have hj0 : (0 : Int) ≤ j := by omega
   have hj1 : IntKind.i64.wrap ((j : Int) + 1) = ((j + 1 : Nat) : Int) := by rw [wrap_id _ (by omega) (by omega)]; rfl
   obtain ⟨g, rfl, hg, hr⟩ := hz j hjm
   have z0 : wr.cell? ⟨g, j * 6, none⟩ = some (.int .i64 0) := hr 0 _ rfl
   have z1 : wr.cell? ⟨g, j * 6 + 1, none⟩ = some (.int .i64 0) := hr 1 _ rfl
   have z2 : wr.cell? ⟨g, j * 6 + 2, none⟩ = some (.int .i64 9) := hr 2 _ rfl
   have z3 : wr.cell? ⟨g, j * 6 + 3, none⟩ = some (.int .i64 (i : Int)) := hr 3 _ rfl
   have z4 : wr.cell? ⟨g, j * 6 + 4, none⟩ = some (.int .i64 0) := hr 4 _ rfl
   have z5 : wr.cell? ⟨g, j * 6 + 5, none⟩ = some (.int .i64 0) := hr 5 _ rfl
   clear hz hr
   have M2 := hide ((unhide M1).alloc (.cells (zVS i) 63))
   unfold zVS at M2
   go_wp2
   exact ⟨⟨j + 1, rfl, by omega, M2⟩, by simp [intOf]; omega⟩
  ·have hji : ¬ (j : Int) < (m : Int) := by omega
   clear hz
   go_wp2
   exact (unhide HEX) _ _ _ _ _ _ _ _ _ _ _ _ _ _ _ _ _ _ _ _ _ _ _ _ _ _ _ _ _ _ _ _ _ _ _ _ _ _ _ _ _ _ _ _ _ _ _ _ _ _ _ _ _ _ _ _ _ _ _ _ _ _ _ M1
theorem wl2S {w0 : World} {yb i : Nat} {F : Nat → Prop} {xv : Value} {ls : List Nat} {av bv lv : Value} (hx : BkXS w0 F xv ls) (hy : w0.cell? ⟨yb, 1, none⟩ = some xv) (hyl : yb < w0.heap.size) (hi : i < ls.length) (hL : ls.length ≤ 1099511627776) (Q0 : Exit → Act → World → Prop) (sl1 sl2 sl5 sl6 sl7 sl8 sl9 sl10 sl11 sl12 sl13 sl14 sl15 sl16 sl17 sl18 sl19 sl20 sl21 sl22 sl23 sl24 sl25 sl26 sl27 sl28 sl29 sl30 sl31 sl32 sl33 sl34 sl35 sl36 sl37 sl38 sl39 sl40 sl41 sl42 sl43 sl44 sl45 sl46 sl47 sl48 sl49 sl50 sl51 sl52 sl53 sl54 sl55 sl56 sl57 sl58 sl59 sl60 sl61 sl62 sl63 sl64 sl65 sl66 sl67 sl68 sl69 sl70 sl71 sl72 sl73 sl74 sl75 sl76 sl77 sl78 sl79 sl80 sl81 sl82 sl83 sl84 sl85 sl86 sl87 sl88 sl89 sl90 sl91 sl92 sl93 sl94 sl95 sl96 sl97 sl98 sl99 sl100 sl101 sl102 sl103 sl104 sl105 sl106 sl107 sl108 sl109 sl110 sl111 sl112 sl113 sl114 sl115 sl116 sl117 sl118 sl119 sl120 sl121 sl122 sl123 sl124 sl125 sl126 sl127 sl128 sl129 sl130 sl131 sl132 sl133 sl134 sl135 sl136 sl137 sl138 sl139 sl140 sl141 sl142 sl143 sl144 sl145 sl146 sl147 sl148 sl149 sl150 sl151 sl152 sl153 : Value)
  (hexit : ∀ (x2 x4 x5 x6 x20 x21 x22 x23 x24 x25 x26 x27 x28 x29 x30 x31 x32 x33 x34 x35 x36 x37 x38 x39 x40 x41 x42 x43 x44 x45 x46 x47 x48 x49 x50 x51 x52 x53 x54 x55 x56 x57 x58 x59 x60 x61 x62 x63 x64 x65 x66 x67 x68 x69 x70 x71 x72 x73 x74 x75 x76 x77 x78 x79 x80 x81 x82 x83 x84 x85 x86 x87 x88 x89 x90 : Value) (W : World), Hid (Mod No w0 W) → Q0 (.exit 2) ⟨#[.pointer (some ⟨yb, 1, none⟩), sl1, x2, .int .i64 (i : Int), x4, x5, x6, sl7, sl8, sl9, sl10, sl11, sl12, sl13, sl14, sl15, sl16, sl17, sl18, sl19, x20, x21, x22, x23, x24, x25, x26, x27, x28, x29, x30, x31, x32, x33, x34, x35, x36, x37, x38, x39, x40, x41, x42, x43, x44, x45, x46, x47, x48, x49, x50, x51, x52, x53, x54, x55, x56, x57, x58, x59, x60, x61, x62, x63, x64, x65, x66, x67, x68, x69, x70, x71, x72, x73, x74, x75, x76, x77, x78, x79, x80, x81, x82, x83, x84, x85, x86, x87, x88, x89, x90, sl91, sl92, sl93, sl94, sl95, sl96, sl97, sl98, sl99, sl100, sl101, sl102, sl103, sl104, sl105, sl106, sl107, sl108, sl109, sl110, sl111, sl112, sl113, sl114, sl115, sl116, sl117, sl118, sl119, sl120, sl121, sl122, sl123, sl124, sl125, sl126, sl127, sl128, sl129, sl130, sl131, sl132, sl133, sl134, sl135, sl136, sl137, sl138, sl139, sl140, sl141, sl142, sl143, sl144, sl145, sl146, sl147, sl148, sl149, sl150, sl151, sl152, sl153], []⟩ W) :
  Code.wp Tryz.prog (whLoopS 1) Q0 ⟨#[.pointer (some ⟨yb, 1, none⟩), sl1, sl2, .int .i64 (i : Int), .int .i64 0, sl5, sl6, sl7, sl8, sl9, sl10, sl11, sl12, sl13, sl14, sl15, sl16, sl17, sl18, sl19, sl20, sl21, sl22, sl23, sl24, sl25, sl26, sl27, sl28, sl29, sl30, sl31, sl32, sl33, sl34, sl35, sl36, sl37, sl38, sl39, sl40, sl41, sl42, sl43, sl44, sl45, sl46, sl47, sl48, sl49, sl50, sl51, sl52, sl53, sl54, sl55, sl56, sl57, sl58, sl59, sl60, sl61, sl62, sl63, sl64, sl65, sl66, sl67, sl68, sl69, sl70, sl71, sl72, sl73, sl74, sl75, sl76, sl77, sl78, sl79, sl80, sl81, sl82, sl83, sl84, sl85, sl86, sl87, sl88, sl89, sl90, sl91, sl92, sl93, sl94, sl95, sl96, sl97, sl98, sl99, sl100, sl101, sl102, sl103, sl104, sl105, sl106, sl107, sl108, sl109, sl110, sl111, sl112, sl113, sl114, sl115, sl116, sl117, sl118, sl119, sl120, sl121, sl122, sl123, sl124, sl125, sl126, sl127, sl128, sl129, sl130, sl131, sl132, sl133, sl134, sl135, sl136, sl137, sl138, sl139, sl140, sl141, sl142, sl143, sl144, sl145, sl146, sl147, sl148, sl149, sl150, sl151, sl152, sl153], []⟩ w0 := by
 conv => arg 4; dsimp only
 conv => arg 2; whnf
 have HEX := hide hexit
 clear hexit
 have HXX := hide hx
 have HY := hide hy
 have HYL := hide hyl
 have HI := hide hi
 have HL := hide hL
 obtain ⟨ab, cx, rb, rfl, hab, hrb, hc2⟩ := hx.at hi
 have HRB := hide hrb
 have HC2 := hide hc2
 have HAB := hide hab
 have i0 : (0 : Int) ≤ i := by omega
 have iL : (i : Int) < (ls.length : Int) := by omega
 clear hx hy hyl hc2 hab hL hrb
 go_loopw [4] (fun s wx => ∃ q : Nat, s = .int .i64 (q : Int) ∧ q ≤ 4 ∧ Hid (Mod No w0 wx)) (fun s _ => 4 - (intOf s).toNat)
 case atStart => exact ⟨0, rfl, by omega, Mod.refl _ _⟩
 case round =>
  obtain ⟨q, rfl, hq, M1⟩ := hrel
  have c1 : wr.cell? ⟨yb, 1, none⟩ = some (.slice (some ⟨ab, 0, none⟩) ls.length cx) := mod_cell0 (unhide M1) (unhide HY)
  have l1 := Nat.lt_of_lt_of_le (unhide HYL) (unhide M1).size
  have c2 := mod_cell0 (unhide M1) (unhide HC2)
  have l2 := Nat.lt_of_lt_of_le (unhide HAB) (unhide M1).size
  by_cases hq4 : q < 4
  ·have hqi : (q : Int) < 4 := by omega
   have hq0 : (0 : Int) ≤ q := by omega
   have hq1 : IntKind.i64.wrap ((q : Int) + 1) = ((q + 1 : Nat) : Int) := by rw [wrap_id _ (by omega) (by omega)]; rfl
   obtain ⟨a, m, c, hm, hrl, hc3, hz⟩ := (unhide HXX).head (unhide HRB) hq4
   have HX3 := hide (fun (W : World) (hW : Mod No wr W) => (show W.cell? ⟨yb, 1, none⟩ = some (.slice (some ⟨ab, 0, none⟩) ls.length cx) ∧ yb < W.heap.size ∧ W.cell? ⟨ab, i, none⟩ = some (.slice (some ⟨rb, 0, none⟩) 4 4) ∧ ab < W.heap.size ∧ W.cell? ⟨rb, q, none⟩ = some (.slice a m c) ∧ rb < W.heap.size ∧ ∀ j, j < m → ∃ g, a = some ⟨g, 0, none⟩ ∧ g < W.heap.size ∧ W.rangeAt g (j * 6) (zVS i).toList from by
    have hM := (unhide M1).trans hW
    refine ⟨mod_cell0 hM (unhide HY), Nat.lt_of_lt_of_le (unhide HYL) hM.size, mod_cell0 hM (unhide HC2), Nat.lt_of_lt_of_le (unhide HAB) hM.size, mod_cell0 hM hc3, Nat.lt_of_lt_of_le hrl hM.size, fun j hj => ?_⟩
    obtain ⟨g, e1, e2, e3⟩ := hz j hj
    exact ⟨g, e1, Nat.lt_of_lt_of_le e2 hM.size, mod_range0 hM e3⟩))
   have HM := hide hm
   clear hc3 hz hrl hm
   go_upto_block 4 with fail
   refine wp_block ?_
   refine wl3S (unhide HX3) (unhide HI) (unhide HL) hq4 (unhide HM) _ _ _ _ _ _ _ _ _ _ _ _ _ _ _ _ _ _ _ _ _ _ _ _ _ _ _ _ _ _ _ _ _ _ _ _ _ _ _ _ _ _ _ _ _ _ _ _ _ _ _ _ _ _ _ _ _ _ _ _ _ _ _ _ _ _ _ _ _ _ _ _ _ _ _ _ _ _ _ _ _ _ _ _ _ _ _ _ _ _ _ _ _ _ _ _ _ _ _ _ _ _ _ _ _ _ _ _ _ _ _ _ _ _ _ _ _ _ _ _ _ _ _ _ _ _ _ _ _ _ _ _ _ _ _ _ _ _ _ _ _ _ _ _ _ _ _ _ _ _ _ ?_
   intro x2 x5 x6 x32 x33 x34 x35 x36 x37 x38 x39 x40 x41 x42 x43 x44 x45 x46 x47 x48 x49 x50 x51 x52 x53 x54 x55 x56 x57 x58 x59 x60 x61 x62 x63 x64 x65 x66 x67 x68 x69 x70 x71 x72 x73 x74 x75 x76 x77 x78 x79 x80 x81 x82 x83 x84 x85 x86 x87 x88 x89 x90 W3 M3
   have M4 := hide ((unhide M1).trans (unhide M3))
   clear c1 l1 c2 l2 HX3
   go_wp2
   exact ⟨⟨q + 1, rfl, by omega, M4⟩, by simp [intOf]; omega⟩
  ·have hqi : ¬ (q : Int) < 4 := by omega
   go_wp2
   exact (unhide HEX) _ _ _ _ _ _ _ _ _ _ _ _ _ _ _ _ _ _ _ _ _ _ _ _ _ _ _ _ _ _ _ _ _ _ _ _ _ _ _ _ _ _ _ _ _ _ _ _ _ _ _ _ _ _ _ _ _ _ _ _ _ _ _ _ _ _ _ _ _ _ _ _ _ _ _ _ M1
theorem wl1S {w0 : World} {yb : Nat} {F : Nat → Prop} {xv : Value} {ls : List Nat} (hx : BkXS w0 F xv ls) (hy : w0.cell? ⟨yb, 1, none⟩ = some xv) (hyl : yb < w0.heap.size) (hL : ls.length ≤ 1099511627776) (Q0 : Exit → Act → World → Prop) (sl1 sl2 sl4 sl5 sl6 sl7 sl8 sl9 sl10 sl11 sl12 sl13 sl14 sl15 sl16 sl17 sl18 sl19 sl20 sl21 sl22 sl23 sl24 sl25 sl26 sl27 sl28 sl29 sl30 sl31 sl32 sl33 sl34 sl35 sl36 sl37 sl38 sl39 sl40 sl41 sl42 sl43 sl44 sl45 sl46 sl47 sl48 sl49 sl50 sl51 sl52 sl53 sl54 sl55 sl56 sl57 sl58 sl59 sl60 sl61 sl62 sl63 sl64 sl65 sl66 sl67 sl68 sl69 sl70 sl71 sl72 sl73 sl74 sl75 sl76 sl77 sl78 sl79 sl80 sl81 sl82 sl83 sl84 sl85 sl86 sl87 sl88 sl89 sl90 sl91 sl92 sl93 sl94 sl95 sl96 sl97 sl98 sl99 sl100 sl101 sl102 sl103 sl104 sl105 sl106 sl107 sl108 sl109 sl110 sl111 sl112 sl113 sl114 sl115 sl116 sl117 sl118 sl119 sl120 sl121 sl122 sl123 sl124 sl125 sl126 sl127 sl128 sl129 sl130 sl131 sl132 sl133 sl134 sl135 sl136 sl137 sl138 sl139 sl140 sl141 sl142 sl143 sl144 sl145 sl146 sl147 sl148 sl149 sl150 sl151 sl152 sl153 : Value)
  (hexit : ∀ (x2 x3 x4 x5 x6 x11 x12 x13 x14 x15 x16 x17 x18 x19 x20 x21 x22 x23 x24 x25 x26 x27 x28 x29 x30 x31 x32 x33 x34 x35 x36 x37 x38 x39 x40 x41 x42 x43 x44 x45 x46 x47 x48 x49 x50 x51 x52 x53 x54 x55 x56 x57 x58 x59 x60 x61 x62 x63 x64 x65 x66 x67 x68 x69 x70 x71 x72 x73 x74 x75 x76 x77 x78 x79 x80 x81 x82 x83 x84 x85 x86 x87 x88 x89 x90 : Value) (W : World), Hid (Mod No w0 W) → Q0 (.exit 0) ⟨#[.pointer (some ⟨yb, 1, none⟩), sl1, x2, x3, x4, x5, x6, sl7, sl8, sl9, sl10, x11, x12, x13, x14, x15, x16, x17, x18, x19, x20, x21, x22, x23, x24, x25, x26, x27, x28, x29, x30, x31, x32, x33, x34, x35, x36, x37, x38, x39, x40, x41, x42, x43, x44, x45, x46, x47, x48, x49, x50, x51, x52, x53, x54, x55, x56, x57, x58, x59, x60, x61, x62, x63, x64, x65, x66, x67, x68, x69, x70, x71, x72, x73, x74, x75, x76, x77, x78, x79, x80, x81, x82, x83, x84, x85, x86, x87, x88, x89, x90, sl91, sl92, sl93, sl94, sl95, sl96, sl97, sl98, sl99, sl100, sl101, sl102, sl103, sl104, sl105, sl106, sl107, sl108, sl109, sl110, sl111, sl112, sl113, sl114, sl115, sl116, sl117, sl118, sl119, sl120, sl121, sl122, sl123, sl124, sl125, sl126, sl127, sl128, sl129, sl130, sl131, sl132, sl133, sl134, sl135, sl136, sl137, sl138, sl139, sl140, sl141, sl142, sl143, sl144, sl145, sl146, sl147, sl148, sl149, sl150, sl151, sl152, sl153], []⟩ W) :
  Code.wp Tryz.prog (whLoopS 0) Q0 ⟨#[.pointer (some ⟨yb, 1, none⟩), sl1, sl2, .int .i64 0, sl4, sl5, sl6, sl7, sl8, sl9, sl10, sl11, sl12, sl13, sl14, sl15, sl16, sl17, sl18, sl19, sl20, sl21, sl22, sl23, sl24, sl25, sl26, sl27, sl28, sl29, sl30, sl31, sl32, sl33, sl34, sl35, sl36, sl37, sl38, sl39, sl40, sl41, sl42, sl43, sl44, sl45, sl46, sl47, sl48, sl49, sl50, sl51, sl52, sl53, sl54, sl55, sl56, sl57, sl58, sl59, sl60, sl61, sl62, sl63, sl64, sl65, sl66, sl67, sl68, sl69, sl70, sl71, sl72, sl73, sl74, sl75, sl76, sl77, sl78, sl79, sl80, sl81, sl82, sl83, sl84, sl85, sl86, sl87, sl88, sl89, sl90, sl91, sl92, sl93, sl94, sl95, sl96, sl97, sl98, sl99, sl100, sl101, sl102, sl103, sl104, sl105, sl106, sl107, sl108, sl109, sl110, sl111, sl112, sl113, sl114, sl115, sl116, sl117, sl118, sl119, sl120, sl121, sl122, sl123, sl124, sl125, sl126, sl127, sl128, sl129, sl130, sl131, sl132, sl133, sl134, sl135, sl136, sl137, sl138, sl139, sl140, sl141, sl142, sl143, sl144, sl145, sl146, sl147, sl148, sl149, sl150, sl151, sl152, sl153], []⟩ w0 := by
 conv => arg 4; dsimp only
 conv => arg 2; whnf
 have HEX := hide hexit
 clear hexit
 have HXX := hide hx
 have HY := hide hy
 have HYL := hide hyl
 have HL := hide hL
 obtain ⟨ax, cx, rfl⟩ := slice_of_owns hx.row
 clear hx hy hyl
 go_loopw [3] (fun s wx => ∃ i : Nat, s = .int .i64 (i : Int) ∧ i ≤ ls.length ∧ Hid (Mod No w0 wx)) (fun s _ => ls.length - (intOf s).toNat)
 case atStart => exact ⟨0, rfl, by omega, Mod.refl _ _⟩
 case round =>
  obtain ⟨i, rfl, hi, M1⟩ := hrel
  have c1 : wr.cell? ⟨yb, 1, none⟩ = some (.slice ax ls.length cx) := mod_cell0 (unhide M1) (unhide HY)
  have l1 := Nat.lt_of_lt_of_le (unhide HYL) (unhide M1).size
  by_cases hil : i < ls.length
  ·have hii : (i : Int) < (ls.length : Int) := by omega
   have hi0 : (0 : Int) ≤ i := by omega
   have hi1 : IntKind.i64.wrap ((i : Int) + 1) = ((i + 1 : Nat) : Int) := by rw [wrap_id _ (by omega) (by omega)]; rfl
   have HXM := hide ((unhide HXX).mod (F' := F) ((unhide M1).mono (S' := F) (fun _ _ x => x.elim)) (fun _ _ x => x))
   have C1 := hide c1
   have L1 := hide l1
   have HIL := hide hil
   go_upto_block 2 with fail
   refine wp_block ?_
   refine wl2S (av := undef) (bv := undef) (lv := undef) (unhide HXM) (unhide C1) (unhide L1) (unhide HIL) (unhide HL) _ _ _ _ _ _ _ _ _ _ _ _ _ _ _ _ _ _ _ _ _ _ _ _ _ _ _ _ _ _ _ _ _ _ _ _ _ _ _ _ _ _ _ _ _ _ _ _ _ _ _ _ _ _ _ _ _ _ _ _ _ _ _ _ _ _ _ _ _ _ _ _ _ _ _ _ _ _ _ _ _ _ _ _ _ _ _ _ _ _ _ _ _ _ _ _ _ _ _ _ _ _ _ _ _ _ _ _ _ _ _ _ _ _ _ _ _ _ _ _ _ _ _ _ _ _ _ _ _ _ _ _ _ _ _ _ _ _ _ _ _ _ _ _ _ _ _ _ _ _ _ _ ?_
   intro x2 x4 x5 x6 x20 x21 x22 x23 x24 x25 x26 x27 x28 x29 x30 x31 x32 x33 x34 x35 x36 x37 x38 x39 x40 x41 x42 x43 x44 x45 x46 x47 x48 x49 x50 x51 x52 x53 x54 x55 x56 x57 x58 x59 x60 x61 x62 x63 x64 x65 x66 x67 x68 x69 x70 x71 x72 x73 x74 x75 x76 x77 x78 x79 x80 x81 x82 x83 x84 x85 x86 x87 x88 x89 x90 W3 M3
   have M4 := hide ((unhide M1).trans (unhide M3))
   clear c1 l1 HXM C1 L1
   go_wp2
   exact ⟨⟨i + 1, rfl, by omega, M4⟩, by simp [intOf]; omega⟩
  ·have hii : ¬ (i : Int) < (ls.length : Int) := by omega
   go_wp2
   exact (unhide HEX) _ _ _ _ _ _ _ _ _ _ _ _ _ _ _ _ _ _ _ _ _ _ _ _ _ _ _ _ _ _ _ _ _ _ _ _ _ _ _ _ _ _ _ _ _ _ _ _ _ _ _ _ _ _ _ _ _ _ _ _ _ _ _ _ _ _ _ _ _ _ _ _ _ _ _ _ _ _ _ _ _ _ _ _ _ _ M1
theorem wseats_all {w : World} {ow : Nat → Nat} {wb : Nat} {v : Value} {xs : List FR} {now : Int} {fl : Nat → Option (Pla × List Sea)} (h : WorR w ow wb v xs now) (hs : Same xs fl) (n r c e size : Int) :
  Calls Tryz.prog 64 #[.pointer (some ⟨wb, 0, none⟩), .int .i64 n, .agg #[.int .i64 r, .int .i64 c, .int .i64 e], .int .i64 size] w fun e' w' => Told w w' e' (seatsK fl n r c e size) := by
 unfold seatsK
 by_cases hn : 1 ≤ n ∧ n ≤ 20
 case neg =>
  rw [if_pos hn]
  exact wseats_no h n r c e size (hs.miss n hn)
 rw [if_neg (by omega)]
 rcases hs.find n hn with ⟨f1, f2⟩ | ⟨i, hi, f1, f2, f3⟩
 ·rw [f2]
  exact wseats_no h n r c e size f1
 ·rw [f3]
  obtain ⟨gf, cap, rfl⟩ := h.some (by omega)
  exact wseats_yes h n r c e size i hi f1
theorem behindK_len {p : Pla} {l : List Sea} {r c e size : Int} : (pageK p l r c e size).seats.length ≤ 30 := by
 unfold pageK
 split
 ·simp
 ·split
  ·simp
  ·simp only [List.length_take]
   omega
theorem seatsK_len (fl : Nat → Option (Pla × List Sea)) (n r c e size : Int) : (seatsK fl n r c e size).seats.length ≤ 30 := by
 unfold seatsK
 split
 ·simp
 ·split
  ·simp
  ·exact behindK_len
def OneI.paged (J : OneI) (R : PageR) : OneI := if R.err = 0 then { J with n0 := R.r, n1 := R.c, n2 := R.ep } else J
structure PagD (w w' : World) (F : Nat → Prop) (yb ob : Nat) (J : OneI) (R : PageR) (lv av bv : Value) (la : List Nat) : Prop where
 ex : ∃ av' rb, BkXS w' F av' (la ++ [rb]) ∧ Has w' yb #[lv, av', bv] 34 ∧ ∀ g, av'.ownBlock = some g → av.ownBlock = some g ∨ w.heap.size ≤ g
 one : Has w' ob (oneV (J.paged R)) 55
 mod : Mod (fun g => g = yb ∨ g = ob ∨ av.ownBlock = some g) w w'
theorem pagd_of {w W3 W4 W5 : World} {F : Nat → Prop} {yb ob rb : Nat} {J : OneI} {R : PageR} {lv av bv l av' : Value} {la : List Nat} {hs : Array Value} (hx : BkXS w F av la) (hm : Mod No w W3) (hd : BkDS W3 W4 yb la.length lv av bv l (la.map hdrS) av' rb hs) (hyF : F yb) (hoF : F ob) (hF : ∀ k, F k → k < w.heap.size) (hl : ∀ g, l.ownBlock = some g → w.heap.size ≤ g) (h5 : Mod (fun k => k = ob) W4 W5) (hone : Has W5 ob (oneV (J.paged R)) 55) (hne : ob ≠ yb) : PagD w W5 F yb ob J R lv av bv la := by
 have hs1 := hm.size
 have hs2 := hd.mod.size
 refine ⟨⟨av', rb, (hx.more hm hd hyF hl (fun k hk => ⟨hF k hk, hk⟩)).mod (h5.mono (S' := F) (fun k _ e => by subst e; exact hoF)) (fun _ _ x => x), h5.has hd.has (fun e => hne e.symm), fun g hg => ?_⟩, hone, ?_⟩
 ·rcases (hd.own g hg).2 with q | q
  ·exact .inl q
  ·exact .inr (by omega)
 ·have m4 : Mod (fun g => g = yb ∨ g = ob ∨ av.ownBlock = some g) w W4 := (hm.mono (S' := fun g => g = yb ∨ g = ob ∨ av.ownBlock = some g) (fun _ _ x => x.elim)).trans' hd.mod (fun k hk hl' => by
   rcases hk with q | q | q
   ·exact .inl q
   ·have := hl k q; omega
   ·exact .inr (.inr q))
  exact m4.trans (h5.mono (fun _ _ e => .inr (.inl e)))
theorem play_page {w : World} {F : Nat → Prop} {yb ob : Nat} {I : AskI} {J : OneI} {lv av bv : Value} {la : List Nat} {n r c e size : Int} (hA : AskX w ob I) (hone : Has w ob (oneV J) 55) (hy : Has w yb #[lv, av, bv] 34) (hx : BkXS w F av la) (hyF : F yb) (hoF : F ob) (hF : ∀ k, F k → k < w.heap.size) (hL : la.length ≤ 1099511627776) :
  Calls Tryz.prog 38 #[.pointer (some ⟨yb, 0, none⟩), .pointer (some ⟨ob, 0, none⟩), .int .i64 n, .agg #[.int .i64 r, .int .i64 c, .int .i64 e], .int .i64 size] w fun e' w' => e' = .returned (.bool true) ∧ PagD w w' F yb ob J (seatsK I.fl n r c e size) lv av bv la := by
 have hlen := seatsK_len I.fl n r c e size
 obtain ⟨R, hR⟩ : ∃ R, seatsK I.fl n r c e size = R := ⟨_, rfl⟩
 have M1 : Mod No w (w.alloc (.cells #[.int .i64 r, .int .i64 c, .int .i64 e] 43)) := (Mod.refl No w).alloc _
 have CUR := hide (Has.new w #[.int .i64 r, .int .i64 c, .int .i64 e] 43)
 have HK := hide (fun W (hW : Mod No (w.alloc (.cells #[.int .i64 r, .int .i64 c, .int .i64 e] 43)) W) => (show Calls Tryz.prog 63 #[.pointer (some ⟨I.kb, 0, none⟩), .int .i64 n, .agg #[.int .i64 r, .int .i64 c, .int .i64 e], .int .i64 size] W fun e' w' => Told W w' e' R from by
  have := seats_any (hA.mod (M1.trans hW) (fun _ x _ => x)).keep n r c e size
  rw [hR] at this
  exact this))
 have HW := hide (fun W (hW : Mod No (w.alloc (.cells #[.int .i64 r, .int .i64 c, .int .i64 e] 43)) W) => (show Calls Tryz.prog 64 #[.pointer (some ⟨I.wb, 0, none⟩), .int .i64 n, .agg #[.int .i64 r, .int .i64 c, .int .i64 e], .int .i64 size] W fun e' w' => Told W w' e' R from by
  have hh := hA.mod (M1.trans hW) (fun _ x _ => x)
  have := wseats_all hh.wor hh.same n r c e size
  rw [hR] at this
  exact this))
 have C1 := hide (fun W (hW : Mod No (w.alloc (.cells #[.int .i64 r, .int .i64 c, .int .i64 e] 43)) W) => (hA.mod (M1.trans hW) (fun _ x _ => x)).cell1)
 have C2 := hide (fun W (hW : Mod No (w.alloc (.cells #[.int .i64 r, .int .i64 c, .int .i64 e] 43)) W) => (hA.mod (M1.trans hW) (fun _ x _ => x)).cell2)
 rw [hR] at hlen ⊢
 have HLEN := hide hlen
 have MM := hide M1
 have HONE := hide hone
 have HY := hide hy
 have HX := hide hx
 have HYF := hide hyF
 have HOF := hide hoF
 have HF := hide hF
 have HL := hide hL
 have ol := hone.lt
 have OL := hide ol
 clear hA hone hy hx hyF hoF hF hL hR hlen M1 ol
 go_enter Tryz.func38, Tryz.ntmps38
 go_upto_region 1 with fail
 generalize w.alloc (.cells #[.int .i64 r, .int .i64 c, .int .i64 e] 43) = w1 at *
 generalize hcb : w.heap.size = cb at *
 have HCB := hide hcb
 clear hcb
 refine pgr1 (unhide C1) (unhide CUR) (unhide HK) _ _ _ _ _ _ _ _ _ _ _ _ _ _ _ _ _ _ _ _ _ _ _ _ _ _ _ _ _ _ _ _ _ _ _ _ _ _ _ _ _ _ _ _ _ _ _ _ _ _ _ _ _ _ _ _ _ ?_
 intro x17 x18 x19 x20 x21 x22 x23 x24 x16 x25 x26 b1 u1 W1 H1
 go_upto_region 2 with fail
 have G1 := hide (unhide H1).1
 refine pgr2 (fun W hW => (unhide C2) W ((unhide G1).trans hW)) ((unhide G1).has (unhide CUR) (fun x => x)) (fun W hW => (unhide HW) W ((unhide G1).trans hW)) _ _ _ _ _ _ _ _ _ _ _ _ _ _ _ _ _ _ _ _ _ _ _ _ _ _ _ _ _ _ _ _ _ _ _ _ _ _ _ _ _ _ _ _ _ _ _ _ _ _ _ _ _ _ _ _ _ ?_
 intro x28 x29 x30 x31 x32 x33 x34 x35 x27 x36 x37 b2 u2 W2 H2
 obtain ⟨m1, p1, k1, n1⟩ := unhide H1
 obtain ⟨m2, p2, k2, n2⟩ := unhide H2
 have P1 := hide (m2.has p1 (fun x => x))
 have P2 := hide p2
 obtain ⟨a1, c1, rfl⟩ := slice_of_owns k1.1
 obtain ⟨a2, c2, rfl⟩ := slice_of_owns k2.1
 have K1 := hide (m2.owns k1.1 (fun _ _ x => x))
 have K2 := hide k2.1
 have N1 := hide k1.2
 have MW := hide (m1.trans m2)
 have NB := hide (Nat.le_trans m1.size n2)
 have SAME := hide (same_pages (r := R.r) (c := R.c) (e := R.ep) (more := R.more) (unhide K1) (unhide K2) (by have := unhide HLEN; omega))
 have q0 : W2.cell? ⟨b1, 0, none⟩ = some (.slice a1 R.seats.length c1) := (unhide P1).cell 0
 have q1 : W2.cell? ⟨b1, 1, none⟩ = some (.int .i64 R.r) := (unhide P1).cell 1
 have q2 : W2.cell? ⟨b1, 2, none⟩ = some (.int .i64 R.c) := (unhide P1).cell 2
 have q3 : W2.cell? ⟨b1, 3, none⟩ = some (.int .i64 R.ep) := (unhide P1).cell 3
 have q4 : W2.cell? ⟨b1, 4, none⟩ = some (.bool R.more) := (unhide P1).cell 4
 have s0 : W2.cell? ⟨b2, 0, none⟩ = some (.slice a2 R.seats.length c2) := (unhide P2).cell 0
 have s1 : W2.cell? ⟨b2, 1, none⟩ = some (.int .i64 R.r) := (unhide P2).cell 1
 have s2 : W2.cell? ⟨b2, 2, none⟩ = some (.int .i64 R.c) := (unhide P2).cell 2
 have s3 : W2.cell? ⟨b2, 3, none⟩ = some (.int .i64 R.ep) := (unhide P2).cell 3
 have s4 : W2.cell? ⟨b2, 4, none⟩ = some (.bool R.more) := (unhide P2).cell 4
 clear m1 p1 k1 n1 m2 p2 k2 n2 H1 H2 G1 HK HW C1 C2
 go_wp2_with fail
 refine (unhide SAME).mono ?_
 rintro e3 W3 ⟨rfl, m3⟩
 have M3 := hide m3
 have P13 := hide (m3.has (unhide P1) (fun x => x))
 have P23 := hide (m3.has (unhide P2) (fun x => x))
 have K13 := hide (m3.owns (unhide K1) (fun _ _ x => x))
 clear q0 q1 q2 q3 q4 s0 s1 s2 s3 s4 m3 P1 P2 K1 K2 SAME
 have MT := hide (((unhide MM).trans (unhide MW)).trans (unhide M3))
 have HY3 := hide ((unhide MT).has (unhide HY) (fun x => x))
 have HX3 := hide ((unhide MT).owns (unhide HX).row (fun _ _ x => x))
 have q0 : W3.cell? ⟨b1, 0, none⟩ = some (.slice a1 R.seats.length c1) := (unhide P13).cell 0
 have yl := (unhide HY3).lt
 go_upto_region 4 with fail
 have HLEN2 := hide (show R.seats.length + 3 ≤ 1000000 from by have := unhide HLEN; omega)
 have SL := hide (⟨_, unhide K13⟩ : Sl 63 6 W3 (.slice a1 R.seats.length c1) R.seats.length)
 have LY := hide (show ∀ g, (Value.slice a1 R.seats.length c1).ownBlock = some g → g ≠ yb ∧ av.ownBlock ≠ some g from fun g hg => by
  obtain ⟨cap, cur, _, hh, _⟩ := Sl.owns (unhide SL) hg
  refine ⟨hh.ne (unhide HY3) (by decide), fun e => ?_⟩
  obtain ⟨_, h1 | ⟨g', cap', cur', rfl, _, hh', _⟩⟩ := unhide HX3
  ·rw [h1.1] at e; simp [Value.ownBlock] at e
  ·simp [Value.ownBlock] at e
   subst e
   exact hh.ne hh' (by decide) rfl)
 have XY := hide (show av.ownBlock ≠ some yb from fun e => (unhide HX).far yb e (unhide HYF))
 have CALL := hide (bkS_any (ov := bv) (lv := lv) (unhide HY3) (unhide HX3) (unhide HL) (unhide SL) (unhide HLEN2) (unhide LY) (unhide XY))
 have CALLD := hide (bkS_any (w := W3.drew) (ov := bv) (lv := lv) (unhide HY3) (unhide HX3) (unhide HL) (unhide SL) (unhide HLEN2) (unhide LY) (unhide XY))
 go_region_law (refine step_call rfl 66 _ _ rfl #[.pointer (some ⟨yb, 1, none⟩), .slice a1 R.seats.length c1] (by simp [Act.eval, Act.put]) (fun W => by kernel_rfl) (.tuple #[]) _ (unhide CALLD) ?_; intro W4 hd4)
 obtain ⟨av', rb, hs, hD⟩ := hd4
 have HD := hide hD
 have T1 := hide (show ∀ g cs T', Has W3 g cs T' → T' ≠ 34 → T' ≠ 63 → T' ≠ 60 → Has W4 g cs T' from fun g cs T' hh t1 t2 t3 => hD.mod.has hh (by
  rintro (e | e | e)
  ·subst e; exact hh.ne (unhide HY3) t1 rfl
  ·obtain ⟨cap, cur, _, hh', _⟩ := Sl.owns (unhide SL) e
   exact hh.ne hh' t2 rfl
  ·obtain ⟨_, h1 | ⟨g', cap', cur', rfl, _, hh', _⟩⟩ := unhide HX3
   ·rw [h1.1] at e; simp [Value.ownBlock] at e
   ·simp [Value.ownBlock] at e
    subst e
    exact hh.ne hh' t3 rfl))
 have P4 := (unhide T1) b2 _ _ (unhide P23) (by decide) (by decide) (by decide)
 have O4 := (unhide T1) ob _ _ ((unhide MT).has (unhide HONE) (fun x => x)) (by decide) (by decide) (by decide)
 have s1 : W4.cell? ⟨b2, 1, none⟩ = some (.int .i64 R.r) := P4.cell 1
 have s2 : W4.cell? ⟨b2, 2, none⟩ = some (.int .i64 R.c) := P4.cell 2
 have s3 : W4.cell? ⟨b2, 3, none⟩ = some (.int .i64 R.ep) := P4.cell 3
 have sl := P4.lt
 have o8 : W4.cell? ⟨ob, 8, none⟩ = some (.int .i64 J.n0) := O4.cell 8
 have o9 : W4.cell? ⟨ob, 9, none⟩ = some (.int .i64 J.n1) := O4.cell 9
 have o10 : W4.cell? ⟨ob, 10, none⟩ = some (.int .i64 J.n2) := O4.cell 10
 have ofz := O4.frozen
 have ol := O4.lt
 have NE := hide (show ob ≠ yb from O4.ne ((unhide HD).has) (by decide))
 have nbo : b2 ≠ ob := P4.ne O4 (by decide)
 have N1' := hide (show ∀ g, (Value.slice a1 R.seats.length c1).ownBlock = some g → w.heap.size ≤ g from fun g hg => Nat.le_trans (unhide MM).size ((unhide N1) g hg))
 have O4 := hide O4
 clear hD P4 q0 yl CALL CALLD HY3 HX3 SL LY XY K13 P13 P23 T1 N1
 by_cases he : R.err = 0
 ·have heb : (R.err == 0) = true := by simp [he]
  have FIN := hide (show PagD w (((W4.setCell ⟨ob, 8, none⟩ (.int .i64 R.r)).setCell ⟨ob, 9, none⟩ (.int .i64 R.c)).setCell ⟨ob, 10, none⟩ (.int .i64 R.ep)) F yb ob J R lv av bv la from by
   refine pagd_of (unhide HX) (unhide MT).drew (unhide HD) (unhide HYF) (unhide HOF) (by rw [unhide HCB]; exact unhide HF) (unhide N1') ((((Mod.refl (fun k => k = ob) W4).at 8 _).at 9 _).at 10 _) ?_ (unhide NE)
   have e : J.paged R = { J with n0 := R.r, n1 := R.c, n2 := R.ep } := if_pos he
   rw [e]
   exact (((unhide O4).set 8 _).set 9 _).set 10 _)
  clear he
  go_wp2
  go_ret
  exact ⟨rfl, unhide FIN⟩
 ·have heb : (R.err == 0) = false := by simp [he]
  have FIN := hide (show PagD w W4 F yb ob J R lv av bv la from by
   refine pagd_of (unhide HX) (unhide MT).drew (unhide HD) (unhide HYF) (unhide HOF) (by rw [unhide HCB]; exact unhide HF) (unhide N1') (Mod.refl _ _) ?_ (unhide NE)
   have e : J.paged R = J := if_neg he
   rw [e]
   exact unhide O4)
  clear he
  go_wp2
  go_ret
  exact ⟨rfl, unhide FIN⟩
theorem PagD.back {w w1 w' : World} {F : Nat → Prop} {yb ob : Nat} {J : OneI} {R : PageR} {lv av bv : Value} {la : List Nat} (h : PagD w1 w' F yb ob J R lv av bv la) (hm : Mod No w w1) : PagD w w' F yb ob J R lv av bv la := by
 obtain ⟨⟨av', rb, h1, h2, h3⟩, h4, h5⟩ := h
 have := hm.size
 exact ⟨⟨av', rb, h1, h2, fun g hg => (h3 g hg).imp id (fun q => by omega)⟩, h4, (hm.mono (fun _ _ x => x.elim)).trans h5⟩
structure AskP (w : World) (F : Nat → Prop) (yb ob : Nat) (I : AskI) (J : OneI) (lv av bv : Value) (la : List Nat) : Prop where
 ask : AskX w ob I
 one : Has w ob (oneV J) 55
 play : Has w yb #[lv, av, bv] 34
 book : BkXS w F av la
 fy : F yb
 fo : F ob
 lt : ∀ k, F k → k < w.heap.size
 len : la.length ≤ 1099511627776
theorem AskP.mod {w w' : World} {F : Nat → Prop} {yb ob : Nat} {I : AskI} {J : OneI} {lv av bv : Value} {la : List Nat} (h : AskP w F yb ob I J lv av bv la) (hm : Mod No w w') : AskP w' F yb ob I J lv av bv la :=
 ⟨h.ask.mod hm (fun _ x _ => x), hm.has h.one (fun x => x), hm.has h.play (fun x => x), h.book.mod (hm.mono (fun _ _ x => x.elim)) (fun _ _ x => x), h.fy, h.fo, fun k hk => Nat.lt_of_lt_of_le (h.lt k hk) hm.size, h.len⟩
theorem AskP.page {w : World} {F : Nat → Prop} {yb ob : Nat} {I : AskI} {J : OneI} {lv av bv : Value} {la : List Nat} (h : AskP w F yb ob I J lv av bv la) (n r c e size : Int) : Calls Tryz.prog 38 #[.pointer (some ⟨yb, 0, none⟩), .pointer (some ⟨ob, 0, none⟩), .int .i64 n, .agg #[.int .i64 r, .int .i64 c, .int .i64 e], .int .i64 size] w fun e' w' => e' = .returned (.bool true) ∧ PagD w w' F yb ob J (seatsK I.fl n r c e size) lv av bv la :=
 play_page (n := n) (r := r) (c := c) (e := e) (size := size) h.ask h.one h.play h.book h.fy h.fo h.lt h.len
theorem asked_seats {w : World} {F : Nat → Prop} {yb ob : Nat} {I : AskI} {J : OneI} {lv av bv : Value} {la : List Nat} (h : AskP w F yb ob I J lv av bv la) {S : Array Value} {b c r0 c0 e0 : Int} (hS : OpV S 6 b c) (h20 : S[20]? = some (.int .i64 r0)) (h21 : S[21]? = some (.int .i64 c0)) (h22 : S[22]? = some (.int .i64 e0)) :
  Calls Tryz.prog 17 #[.pointer (some ⟨yb, 0, none⟩), .pointer (some ⟨ob, 0, none⟩), .agg S] w fun e w' => e = .returned (.bool true) ∧ PagD w w' F yb ob J (seatsK I.fl b r0 c0 e0 c) lv av bv la := by
 have M0 := (Mod.refl No w).alloc (.cells S 45)
 have B0 := Has.new w S 45
 have k0 := (B0.cell 0).trans hS.k0
 have k2 := (B0.cell 2).trans hS.b2
 have k3 := (B0.cell 3).trans hS.c3
 have k20 := (B0.cell 20).trans h20
 have k21 := (B0.cell 21).trans h21
 have k22 := (B0.cell 22).trans h22
 have bl := B0.lt
 have CALL := hide ((h.mod M0).page b r0 c0 e0 c)
 have MM := hide M0
 clear h hS h20 h21 h22 M0 B0
 go_enter Tryz.func17, Tryz.ntmps17
 go_wp2_with fail
 refine (unhide CALL).mono ?_
 rintro e1 w1 ⟨rfl, hd⟩
 have FIN := hide (hd.back (unhide MM))
 clear hd CALL k0 k2 k3 k20 k21 k22 bl
 go_wp2
 go_ret
 exact ⟨rfl, unhide FIN⟩
theorem asked_next {w : World} {F : Nat → Prop} {yb ob : Nat} {I : AskI} {J : OneI} {lv av bv : Value} {la : List Nat} (h : AskP w F yb ob I J lv av bv la) {S : Array Value} {b c : Int} (hS : OpV S 7 b c) :
  Calls Tryz.prog 17 #[.pointer (some ⟨yb, 0, none⟩), .pointer (some ⟨ob, 0, none⟩), .agg S] w fun e w' => e = .returned (.bool true) ∧ PagD w w' F yb ob J (seatsK I.fl b J.n0 J.n1 J.n2 c) lv av bv la := by
 have M0 := (Mod.refl No w).alloc (.cells S 45)
 have B0 := Has.new w S 45
 have k0 := (B0.cell 0).trans hS.k0
 have k2 := (B0.cell 2).trans hS.b2
 have k3 := (B0.cell 3).trans hS.c3
 have bl := B0.lt
 have h1 := h.mod M0
 have o8 : (w.alloc (.cells S 45)).cell? ⟨ob, 8, none⟩ = some (.int .i64 J.n0) := h1.one.cell 8
 have o9 : (w.alloc (.cells S 45)).cell? ⟨ob, 9, none⟩ = some (.int .i64 J.n1) := h1.one.cell 9
 have o10 : (w.alloc (.cells S 45)).cell? ⟨ob, 10, none⟩ = some (.int .i64 J.n2) := h1.one.cell 10
 have ol := h1.one.lt
 have CALL := hide ((h1.mod (Mod.refl No _).drew).page b J.n0 J.n1 J.n2 c)
 have MM := hide M0.drew
 clear h hS M0 B0 h1
 go_enter Tryz.func17, Tryz.ntmps17
 go_upto_region 16 with fail
 generalize w.alloc (.cells S 45) = w1 at *
 generalize w.heap.size = bb at *
 go_region_law (refine step_call rfl 38 _ _ rfl #[.pointer (some ⟨yb, 0, none⟩), .pointer (some ⟨ob, 0, none⟩), .int .i64 b, .agg #[.int .i64 J.n0, .int .i64 J.n1, .int .i64 J.n2], .int .i64 c] (by simp [Act.eval, Act.put]) (fun W => by kernel_rfl) (.bool true) _ (unhide CALL) ?_; intro W4 hd4; have FIN := hide (hd4.back (unhide MM)); clear hd4)
 all_goals clear k0 k2 k3 bl o8 o9 o10 ol CALL
 all_goals go_wp2
 all_goals go_ret
 all_goals exact ⟨rfl, unhide FIN⟩
def zVN (I : Int) : Array Value := #[.int .i64 (-9), .int .i64 0, .int .i64 I]
def hdrN (b : Nat) : Value := .slice (some ⟨b, 0, none⟩) 4 4
structure BkXN (w : World) (F : Nat → Prop) (xv : Value) (ls : List Nat) : Prop where
 row : w.ownsRow 0 65 1 xv ls.length (ls.map hdrN)
 far : ∀ g, xv.ownBlock = some g → ¬ F g
 each : ∀ i (h : i < ls.length), ¬ F ls[i] ∧ xv.ownBlock ≠ some ls[i] ∧ ∃ hs : Array Value, Has w ls[i] hs 66 ∧ hs.size = 4 ∧ ∀ (j : Nat) (v : Value), hs[j]? = some v → ∃ m, Sl 68 3 w v m ∧ Zd 3 (zVN i).toList w v m ∧ m ≤ 1000000 ∧ ∀ g, v.ownBlock = some g → ¬ F g ∧ xv.ownBlock ≠ some g
theorem BkXN.nil (w : World) (F : Nat → Prop) : BkXN w F (.slice none 0 0) [] := ⟨World.ownsRow_nil _ _ _ _, fun g hg => by simp [Value.ownBlock] at hg, fun i h => absurd h (Nat.not_lt_zero _)⟩
theorem BkXN.mod {w w' : World} {F F' : Nat → Prop} {xv : Value} {ls : List Nat} (h : BkXN w F xv ls) (hm : Mod F w w') (hF : ∀ k, k < w.heap.size → F' k → F k) : BkXN w' F' xv ls := by
 have hx := fun g hg => owns_lt h.row g hg
 refine ⟨hm.owns h.row h.far, fun g hg e => h.far g hg (hF g (hx g hg) e), fun i hi => ?_⟩
 obtain ⟨h1, h2, hs, h3, h4, h5⟩ := h.each i hi
 refine ⟨fun e => h1 (hF _ h3.lt e), h2, hs, hm.has h3 h1, h4, fun j v hv => ?_⟩
 obtain ⟨m, q1, q2, q3, q4⟩ := h5 j v hv
 exact ⟨m, q1.mod hm (fun g hg => (q4 g hg).1), q2.mod hm (fun g hg => ⟨q1.lt g hg, (q4 g hg).1⟩), q3, fun g hg => ⟨fun e => (q4 g hg).1 (hF g (q1.lt g hg) e), (q4 g hg).2⟩⟩
theorem BkXN.at {w : World} {F : Nat → Prop} {xv : Value} {ls : List Nat} (h : BkXN w F xv ls) {i : Nat} (hi : i < ls.length) : ∃ ab cap rb, xv = .slice (some ⟨ab, 0, none⟩) ls.length cap ∧ ab < w.heap.size ∧ ls[i]? = some rb ∧ w.cell? ⟨ab, i, none⟩ = some (.slice (some ⟨rb, 0, none⟩) 4 4) := by
 have hr := h.row
 obtain ⟨h0, h1 | ⟨g, cap, cur, hv, _⟩⟩ := h.row
 ·omega
 ·refine ⟨g, cap, ls[i], hv, owns_lt h.row g (by rw [hv]; rfl), List.getElem?_eq_getElem hi, ?_⟩
  have := hr.cells (by rw [hv]; rfl) i (hdrN ls[i]) (by rw [List.getElem?_map, List.getElem?_eq_getElem hi]; rfl)
  rw [Addr.add_mid, Nat.zero_add] at this
  exact this
theorem BkXN.head {w : World} {F : Nat → Prop} {xv : Value} {ls : List Nat} (h : BkXN w F xv ls) {i q rb : Nat} (hrb : ls[i]? = some rb) (hq : q < 4) : ∃ a m c, m ≤ 1000000 ∧ rb < w.heap.size ∧ w.cell? ⟨rb, q, none⟩ = some (.slice a m c) ∧ ∀ j, j < m → ∃ g, a = some ⟨g, 0, none⟩ ∧ g < w.heap.size ∧ w.rangeAt g (j * 3) (zVN i).toList := by
 obtain ⟨hi, e⟩ := List.getElem?_eq_some_iff.1 hrb
 obtain ⟨_, _, hs, h3, h4, h5⟩ := h.each i hi
 rw [e] at h3
 obtain ⟨v, hv⟩ : ∃ v, hs[q]? = some v := ⟨_, Array.getElem?_eq_getElem (by omega)⟩
 obtain ⟨m, q1, q2, q3, _⟩ := h5 q v hv
 obtain ⟨a, c, rfl⟩ := q1.slice
 refine ⟨a, m, c, q3, h3.lt, (h3.cell q).trans hv, fun j hj => ?_⟩
 obtain ⟨g, cap, cur, e, hh, _⟩ := q1.block (by omega)
 injection e with e _ _
 exact ⟨g, e, hh.lt, q2 g (by rw [e]; rfl) j hj⟩
end Go.Proofs.YthhibagcpjeihaaGreat
