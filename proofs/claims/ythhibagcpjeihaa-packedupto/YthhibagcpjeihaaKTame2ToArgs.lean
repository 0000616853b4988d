import Derived.Test.YthhibagcpjeihaaKWt2ToTame1
import Derived.Test.YthhibagcpjeihaaKRd3ToSeat
import Derived.Deep.DeepCutAuto
import Derived.Handy
import Derived.Test.YthhibagcpjeihaaKBaseToAppend
import Derived.Deep.MidRow
import Derived.Deep.Slices
import Derived.OpenShut
import Derived.SizedLaws
namespace Go.Proofs.Ythhibagcpjeihaa
open Go.RowKit
set_option linter.unusedVariables false
set_option linter.unusedSimpArgs false
set_option maxRecDepth 100000
set_option maxHeartbeats 20000000
def Ints (cs : Array Value) (n : Nat) : Prop := ∀ i, i < n → ∃ x : Int, cs[i]? = some (.int .i64 x) ∧ -9223372036854775808 ≤ x ∧ x ≤ 9223372036854775807
theorem Ints.set {cs : Array Value} {n : Nat} (h : Ints cs n) (o : Nat) (x : Int) (hx : -9223372036854775808 ≤ x ∧ x ≤ 9223372036854775807) : Ints (cs.setIfInBounds o (.int .i64 x)) n := by
 intro i hi
 obtain ⟨y, h1, h2⟩ := h i hi
 by_cases e : o = i
 ·subst e
  refine ⟨x, ?_, hx⟩
  rw [Array.getElem?_setIfInBounds_self_of_lt]
  rcases Array.getElem?_eq_some_iff.1 h1 with ⟨q, _⟩
  exact q
 ·exact ⟨y, by rw [Array.getElem?_setIfInBounds_ne e]; exact h1, h2⟩
structure TameI (w wx : World) : Prop where
 cmd : ∃ cs, cs.size = 16 ∧ Ints cs 16 ∧ Has wx (w.heap.size + 2) cs 37
 res : ∃ cs, cs.size = 16 ∧ Has wx (w.heap.size + 1) cs 37
 mod : Mod No w wx
theorem TameI.cell {w wx : World} (h : TameI w wx) (o : Nat) (ho : o < 16) : ∃ x : Int, wx.cell? ⟨w.heap.size + 2, o, none⟩ = some (.int .i64 x) ∧ -9223372036854775808 ≤ x ∧ x ≤ 9223372036854775807 := by
 obtain ⟨cs, h1, h2, h3⟩ := h.cmd
 obtain ⟨x, q, r⟩ := h2 o ho
 exact ⟨x, by rw [h3.cell, q], r⟩
theorem TameI.froz {w wx : World} (h : TameI w wx) (o : Nat) : wx.frozen? ⟨w.heap.size + 2, o, none⟩ = false := by
 obtain ⟨cs, h1, h2, h3⟩ := h.cmd
 exact h3.frozen o
theorem TameI.lt {w wx : World} (h : TameI w wx) : w.heap.size + 2 < wx.heap.size := by
 obtain ⟨cs, h1, h2, h3⟩ := h.cmd
 exact h3.lt
theorem TameI.set {w wx : World} (h : TameI w wx) (o : Nat) (x : Int) (hx : -9223372036854775808 ≤ x ∧ x ≤ 9223372036854775807) : TameI w (wx.setCell ⟨w.heap.size + 2, o, none⟩ (.int .i64 x)) := by
 obtain ⟨cs, h1, h2, h3⟩ := h.cmd
 obtain ⟨cr, r1, r2⟩ := h.res
 refine ⟨⟨_, by simpa using h1, h2.set o x hx, h3.set o _⟩, ⟨cr, r1, r2.set_ne (by show w.heap.size + 1 ≠ w.heap.size + 2; omega) _⟩, h.mod.setCell (.inr (by show w.heap.size ≤ w.heap.size + 2; omega)) _⟩
theorem TameI.drew {w wx : World} (h : TameI w wx) : TameI w wx.drew := ⟨h.cmd, h.res, h.mod.drew⟩
theorem pick_small (c n : Int) (hn : 0 < n ∧ n ≤ 100000) : -9223372036854775808 ≤ pickN c n ∧ pickN c n ≤ 9223372036854775807 ∧ IntKind.i64.wrap (1 + pickN c n) = 1 + pickN c n ∧ IntKind.i64.wrap (pickN c n + 1) = pickN c n + 1 := by
 have := pickN_range c n hn.1
 exact ⟨by omega, by omega, wrap_fit _ (by omega) (by omega), wrap_fit _ (by omega) (by omega)⟩
theorem size44 : (Try.prog.info? 37).map (·.size) = some 16 := by kernel_rfl
theorem row44 : (Try.prog.underlying 37).map (·.isRow) = some true := by kernel_rfl
theorem Ints.lits {cs : Array Value} (h : Ints cs 16) (hs : cs.size = 16) : ∃ z0 z1 z2 z3 z4 z5 z6 z7 z8 z9 z10 z11 z12 z13 z14 z15 : Int, cs = #[.int .i64 z0, .int .i64 z1, .int .i64 z2, .int .i64 z3, .int .i64 z4, .int .i64 z5, .int .i64 z6, .int .i64 z7, .int .i64 z8, .int .i64 z9, .int .i64 z10, .int .i64 z11, .int .i64 z12, .int .i64 z13, .int .i64 z14, .int .i64 z15] := by
 obtain ⟨z0, q0, _⟩ := h 0 (by omega)
 obtain ⟨z1, q1, _⟩ := h 1 (by omega)
 obtain ⟨z2, q2, _⟩ := h 2 (by omega)
 obtain ⟨z3, q3, _⟩ := h 3 (by omega)
 obtain ⟨z4, q4, _⟩ := h 4 (by omega)
 obtain ⟨z5, q5, _⟩ := h 5 (by omega)
 obtain ⟨z6, q6, _⟩ := h 6 (by omega)
 obtain ⟨z7, q7, _⟩ := h 7 (by omega)
 obtain ⟨z8, q8, _⟩ := h 8 (by omega)
 obtain ⟨z9, q9, _⟩ := h 9 (by omega)
 obtain ⟨z10, q10, _⟩ := h 10 (by omega)
 obtain ⟨z11, q11, _⟩ := h 11 (by omega)
 obtain ⟨z12, q12, _⟩ := h 12 (by omega)
 obtain ⟨z13, q13, _⟩ := h 13 (by omega)
 obtain ⟨z14, q14, _⟩ := h 14 (by omega)
 obtain ⟨z15, q15, _⟩ := h 15 (by omega)
 refine ⟨z0, z1, z2, z3, z4, z5, z6, z7, z8, z9, z10, z11, z12, z13, z14, z15, Array.ext (by rw [hs]; rfl) (fun i h1 h2 => ?_)⟩
 have : i = 0 ∨ i = 1 ∨ i = 2 ∨ i = 3 ∨ i = 4 ∨ i = 5 ∨ i = 6 ∨ i = 7 ∨ i = 8 ∨ i = 9 ∨ i = 10 ∨ i = 11 ∨ i = 12 ∨ i = 13 ∨ i = 14 ∨ i = 15 := by omega
 rcases this with rfl | rfl | rfl | rfl | rfl | rfl | rfl | rfl | rfl | rfl | rfl | rfl | rfl | rfl | rfl | rfl
 ·rw [Array.getElem?_eq_getElem h1] at q0; exact Option.some.inj q0
 ·rw [Array.getElem?_eq_getElem h1] at q1; exact Option.some.inj q1
 ·rw [Array.getElem?_eq_getElem h1] at q2; exact Option.some.inj q2
 ·rw [Array.getElem?_eq_getElem h1] at q3; exact Option.some.inj q3
 ·rw [Array.getElem?_eq_getElem h1] at q4; exact Option.some.inj q4
 ·rw [Array.getElem?_eq_getElem h1] at q5; exact Option.some.inj q5
 ·rw [Array.getElem?_eq_getElem h1] at q6; exact Option.some.inj q6
 ·rw [Array.getElem?_eq_getElem h1] at q7; exact Option.some.inj q7
 ·rw [Array.getElem?_eq_getElem h1] at q8; exact Option.some.inj q8
 ·rw [Array.getElem?_eq_getElem h1] at q9; exact Option.some.inj q9
 ·rw [Array.getElem?_eq_getElem h1] at q10; exact Option.some.inj q10
 ·rw [Array.getElem?_eq_getElem h1] at q11; exact Option.some.inj q11
 ·rw [Array.getElem?_eq_getElem h1] at q12; exact Option.some.inj q12
 ·rw [Array.getElem?_eq_getElem h1] at q13; exact Option.some.inj q13
 ·rw [Array.getElem?_eq_getElem h1] at q14; exact Option.some.inj q14
 ·rw [Array.getElem?_eq_getElem h1] at q15; exact Option.some.inj q15
theorem tamed_start (x0 x1 x2 x3 x4 x5 x6 x7 x8 x9 x10 x11 x12 x13 x14 x15 k fu : Int) (kp sp fa : Value) (hi : Ints #[.int .i64 x0, .int .i64 x1, .int .i64 x2, .int .i64 x3, .int .i64 x4, .int .i64 x5, .int .i64 x6, .int .i64 x7, .int .i64 x8, .int .i64 x9, .int .i64 x10, .int .i64 x11, .int .i64 x12, .int .i64 x13, .int .i64 x14, .int .i64 x15] 16) (w : World) : TameI w (((w.alloc (.cells #[.int .i64 x0, .int .i64 x1, .int .i64 x2, .int .i64 x3, .int .i64 x4, .int .i64 x5, .int .i64 x6, .int .i64 x7, .int .i64 x8, .int .i64 x9, .int .i64 x10, .int .i64 x11, .int .i64 x12, .int .i64 x13, .int .i64 x14, .int .i64 x15, .int .i64 k, .int .i64 fu, kp, sp, fa] 41)).alloc (.cells #[.int .i64 0, .int .i64 0, .int .i64 0, .int .i64 0, .int .i64 0, .int .i64 0, .int .i64 0, .int .i64 0, .int .i64 0, .int .i64 0, .int .i64 0, .int .i64 0, .int .i64 0, .int .i64 0, .int .i64 0, .int .i64 0] 37)).alloc (.cells #[.int .i64 x0, .int .i64 x1, .int .i64 x2, .int .i64 x3, .int .i64 x4, .int .i64 x5, .int .i64 x6, .int .i64 x7, .int .i64 x8, .int .i64 x9, .int .i64 x10, .int .i64 x11, .int .i64 x12, .int .i64 x13, .int .i64 x14, .int .i64 x15] 37)) := by
 refine ⟨⟨#[.int .i64 x0, .int .i64 x1, .int .i64 x2, .int .i64 x3, .int .i64 x4, .int .i64 x5, .int .i64 x6, .int .i64 x7, .int .i64 x8, .int .i64 x9, .int .i64 x10, .int .i64 x11, .int .i64 x12, .int .i64 x13, .int .i64 x14, .int .i64 x15], rfl, hi, ?_⟩, ⟨#[.int .i64 0, .int .i64 0, .int .i64 0, .int .i64 0, .int .i64 0, .int .i64 0, .int .i64 0, .int .i64 0, .int .i64 0, .int .i64 0, .int .i64 0, .int .i64 0, .int .i64 0, .int .i64 0, .int .i64 0, .int .i64 0], rfl, ?_⟩, (((Mod.refl No w).alloc _).alloc _).alloc _⟩
 ·have := Has.new ((w.alloc (.cells #[.int .i64 x0, .int .i64 x1, .int .i64 x2, .int .i64 x3, .int .i64 x4, .int .i64 x5, .int .i64 x6, .int .i64 x7, .int .i64 x8, .int .i64 x9, .int .i64 x10, .int .i64 x11, .int .i64 x12, .int .i64 x13, .int .i64 x14, .int .i64 x15, .int .i64 k, .int .i64 fu, kp, sp, fa] 41)).alloc (.cells #[.int .i64 0, .int .i64 0, .int .i64 0, .int .i64 0, .int .i64 0, .int .i64 0, .int .i64 0, .int .i64 0, .int .i64 0, .int .i64 0, .int .i64 0, .int .i64 0, .int .i64 0, .int .i64 0, .int .i64 0, .int .i64 0] 37)) #[.int .i64 x0, .int .i64 x1, .int .i64 x2, .int .i64 x3, .int .i64 x4, .int .i64 x5, .int .i64 x6, .int .i64 x7, .int .i64 x8, .int .i64 x9, .int .i64 x10, .int .i64 x11, .int .i64 x12, .int .i64 x13, .int .i64 x14, .int .i64 x15] 37
  simp only [World.size_alloc] at this
  exact this
 ·have := (Has.new (w.alloc (.cells #[.int .i64 x0, .int .i64 x1, .int .i64 x2, .int .i64 x3, .int .i64 x4, .int .i64 x5, .int .i64 x6, .int .i64 x7, .int .i64 x8, .int .i64 x9, .int .i64 x10, .int .i64 x11, .int .i64 x12, .int .i64 x13, .int .i64 x14, .int .i64 x15, .int .i64 k, .int .i64 fu, kp, sp, fa] 41)) #[.int .i64 0, .int .i64 0, .int .i64 0, .int .i64 0, .int .i64 0, .int .i64 0, .int .i64 0, .int .i64 0, .int .i64 0, .int .i64 0, .int .i64 0, .int .i64 0, .int .i64 0, .int .i64 0, .int .i64 0, .int .i64 0] 37).alloc (.cells #[.int .i64 x0, .int .i64 x1, .int .i64 x2, .int .i64 x3, .int .i64 x4, .int .i64 x5, .int .i64 x6, .int .i64 x7, .int .i64 x8, .int .i64 x9, .int .i64 x10, .int .i64 x11, .int .i64 x12, .int .i64 x13, .int .i64 x14, .int .i64 x15] 37)
  simp only [World.size_alloc] at this
  exact this
def dropSeq : Nat → Code → Code
 | 0, c => c
 | n + 1, .seq _ b => dropSeq n b
 | _, c => c
noncomputable def tameRest (n : Nat) : Code := dropSeq n (Try.f17.body.getD .skip)
theorem tame_d (w wd : World) (s0 s4 s5 s6 s7 s8 s9 s10 s11 s12 s13 s14 s15 s16 s17 s18 s19 s20 s21 s22 s23 s24 s25 s26 s27 s28 s29 s30 s31 s32 s33 s34 s35 s36 s37 s38 s39 s40 s41 s42 s43 s44 s45 s46 s47 s48 s49 s50 s51 s52 s53 s54 s55 s56 s57 s58 s59 s60 s61 s62 s63 s64 s65 s66 s67 s68 s69 s70 s71 s72 s73 s74 s75 s76 s77 s78 s79 s80 s81 s82 s83 s84 s85 s86 s87 s88 s89 s90 s91 s92 s93 s94 s95 s96 s97 s98 s99 s100 s101 s102 s103 s104 s105 s106 s107 s108 s109 s110 s111 s112 s113 s114 s115 s116 s117 s118 s119 s120 s121 : Value) (T : Hid (TameI w wd)) :
  Code.wp Try.prog (tameRest 10) (bodyPost Try.prog Try.f17 fun e w' => ∃ cs, e = .returned (.agg cs) ∧ cs.size = 16 ∧ Ints cs 16 ∧ Mod No w w') ⟨#[s0, .pointer (some ⟨w.heap.size, 0, none⟩), .pointer (some ⟨w.heap.size + 1, 0, none⟩), .pointer (some ⟨w.heap.size + 1 + 1, 0, none⟩), s4, s5, s6, s7, s8, s9, s10, s11, s12, s13, s14, s15, s16, s17, s18, s19, s20, s21, s22, s23, s24, s25, s26, s27, s28, s29, s30, s31, s32, s33, s34, s35, s36, s37, s38, s39, s40, s41, s42, s43, s44, s45, s46, s47, s48, s49, s50, s51, s52, s53, s54, s55, s56, s57, s58, s59, s60, s61, s62, s63, s64, s65, s66, s67, s68, s69, s70, s71, s72, s73, s74, s75, s76, s77, s78, s79, s80, s81, s82, s83, s84, s85, s86, s87, s88, s89, s90, s91, s92, s93, s94, s95, s96, s97, s98, s99, s100, s101, s102, s103, s104, s105, s106, s107, s108, s109, s110, s111, s112, s113, s114, s115, s116, s117, s118, s119, s120, s121], []⟩ wd := by
 conv => arg 2; whnf
 go_wp2_with fail
 go_loopw [4, 5] (fun s4 s5 wr => ∃ (m : Int) (j : Nat), s4 = .int .i64 m ∧ s5 = .int .i64 j ∧ 0 ≤ m ∧ m ≤ 8 ∧ j ≤ 4 ∧ Hid (TameI w wr)) (fun _ i _ => 4 - (intOf i).toNat)
 case atStart => exact ⟨8, 0, rfl, rfl, by omega, by omega, by omega, T⟩
 case round =>
  obtain ⟨m, j, rfl, rfl, hm0, hm8, hj, T2⟩ := hrel
  clear T
  obtain ⟨y12, c12, r12⟩ := (unhide T2).cell 12 (by omega)
  obtain ⟨y13, c13, r13⟩ := (unhide T2).cell 13 (by omega)
  obtain ⟨y14, c14, r14⟩ := (unhide T2).cell 14 (by omega)
  obtain ⟨y15, c15, r15⟩ := (unhide T2).cell 15 (by omega)
  have f0 := (unhide T2).froz
  have lt0 := (unhide T2).lt
  have hm1 := wrap_fit (m + 1) (by omega) (by omega)
  by_cases hj4 : j < 4
  case neg =>
   have hj4i : ¬ (j : Int) < 4 := by omega
   go_upto_region 22 with fail
   obtain ⟨cs, hz, hI, hC⟩ := (unhide T2).cmd
   obtain ⟨cr, hrz, hR⟩ := (unhide T2).res
   have HM := hide (unhide T2).mod
   clear c12 c13 c14 c15 f0 r12 r13 r14 r15 
   obtain ⟨z0, z1, z2, z3, z4, z5, z6, z7, z8, z9, z10, z11, z12, z13, z14, z15, rfl⟩ := hI.lits hz
   have HI := hide hI
   clear hI
   refine wp_region_list ?_
   refine (wpList_load_has rfl 37 _ rfl (w.heap.size + 1 + 1) 0 rfl #[.int .i64 z0, .int .i64 z1, .int .i64 z2, .int .i64 z3, .int .i64 z4, .int .i64 z5, .int .i64 z6, .int .i64 z7, .int .i64 z8, .int .i64 z9, .int .i64 z10, .int .i64 z11, .int .i64 z12, .int .i64 z13, .int .i64 z14, .int .i64 z15] 37 hC #[.int .i64 z0, .int .i64 z1, .int .i64 z2, .int .i64 z3, .int .i64 z4, .int .i64 z5, .int .i64 z6, .int .i64 z7, .int .i64 z8, .int .i64 z9, .int .i64 z10, .int .i64 z11, .int .i64 z12, .int .i64 z13, .int .i64 z14, .int .i64 z15] (fun j v h => by rw [Nat.zero_add]; simpa using h) row44 size44 ?_)
   refine (wpList_store_has rfl 37 _ _ rfl (w.heap.size + 1) _ rfl rfl cr 37 hR hrz.symm size44 (by simp [Value.oneCell']) ?_)
   intro w5 h5 m5
   have d0 : w5.cell? ⟨w.heap.size + 1, 0, none⟩ = some (.int .i64 z0) := h5.cell 0
   have d1 : w5.cell? ⟨w.heap.size + 1, 1, none⟩ = some (.int .i64 z1) := h5.cell 1
   have d2 : w5.cell? ⟨w.heap.size + 1, 2, none⟩ = some (.int .i64 z2) := h5.cell 2
   have d3 : w5.cell? ⟨w.heap.size + 1, 3, none⟩ = some (.int .i64 z3) := h5.cell 3
   have d4 : w5.cell? ⟨w.heap.size + 1, 4, none⟩ = some (.int .i64 z4) := h5.cell 4
   have d5 : w5.cell? ⟨w.heap.size + 1, 5, none⟩ = some (.int .i64 z5) := h5.cell 5
   have d6 : w5.cell? ⟨w.heap.size + 1, 6, none⟩ = some (.int .i64 z6) := h5.cell 6
   have d7 : w5.cell? ⟨w.heap.size + 1, 7, none⟩ = some (.int .i64 z7) := h5.cell 7
   have d8 : w5.cell? ⟨w.heap.size + 1, 8, none⟩ = some (.int .i64 z8) := h5.cell 8
   have d9 : w5.cell? ⟨w.heap.size + 1, 9, none⟩ = some (.int .i64 z9) := h5.cell 9
   have d10 : w5.cell? ⟨w.heap.size + 1, 10, none⟩ = some (.int .i64 z10) := h5.cell 10
   have d11 : w5.cell? ⟨w.heap.size + 1, 11, none⟩ = some (.int .i64 z11) := h5.cell 11
   have d12 : w5.cell? ⟨w.heap.size + 1, 12, none⟩ = some (.int .i64 z12) := h5.cell 12
   have d13 : w5.cell? ⟨w.heap.size + 1, 13, none⟩ = some (.int .i64 z13) := h5.cell 13
   have d14 : w5.cell? ⟨w.heap.size + 1, 14, none⟩ = some (.int .i64 z14) := h5.cell 14
   have d15 : w5.cell? ⟨w.heap.size + 1, 15, none⟩ = some (.int .i64 z15) := h5.cell 15
   have M5 := hide ((unhide HM).trans' (S := No) m5 (fun i e hl => by subst e; omega))
   have l5 := h5.lt
   clear m5 h5 hR hC
   go_wp2
   refine bodyPost_ret (by simp [results, Try.results17, go_sem, d0, d1, d2, d3, d4, d5, d6, d7, d8, d9, d10, d11, d12, d13, d14, d15]; try rfl) rfl ?_
   exact ⟨_, rfl, rfl, unhide HI, unhide M5⟩
  have hj4i : (j : Int) < 4 := by omega
  by_cases hg : pickN y12 9 > 0
  case neg =>
   go_wp2_with fail
   refine (pick_any y12 9 r12 (by omega) _).mono ?_
   rintro e w1 ⟨rfl, rfl⟩
   go_upto_region 22 with fail
   obtain ⟨cs, hz, hI, hC⟩ := (unhide T2).cmd
   obtain ⟨cr, hrz, hR⟩ := (unhide T2).res
   have HM := hide (unhide T2).mod
   clear c12 c13 c14 c15 f0 r12 r13 r14 r15 
   obtain ⟨z0, z1, z2, z3, z4, z5, z6, z7, z8, z9, z10, z11, z12, z13, z14, z15, rfl⟩ := hI.lits hz
   have HI := hide hI
   clear hI
   refine wp_region_list ?_
   refine (wpList_load_has rfl 37 _ rfl (w.heap.size + 1 + 1) 0 rfl #[.int .i64 z0, .int .i64 z1, .int .i64 z2, .int .i64 z3, .int .i64 z4, .int .i64 z5, .int .i64 z6, .int .i64 z7, .int .i64 z8, .int .i64 z9, .int .i64 z10, .int .i64 z11, .int .i64 z12, .int .i64 z13, .int .i64 z14, .int .i64 z15] 37 hC #[.int .i64 z0, .int .i64 z1, .int .i64 z2, .int .i64 z3, .int .i64 z4, .int .i64 z5, .int .i64 z6, .int .i64 z7, .int .i64 z8, .int .i64 z9, .int .i64 z10, .int .i64 z11, .int .i64 z12, .int .i64 z13, .int .i64 z14, .int .i64 z15] (fun j v h => by rw [Nat.zero_add]; simpa using h) row44 size44 ?_)
   refine (wpList_store_has rfl 37 _ _ rfl (w.heap.size + 1) _ rfl rfl cr 37 hR hrz.symm size44 (by simp [Value.oneCell']) ?_)
   intro w5 h5 m5
   have d0 : w5.cell? ⟨w.heap.size + 1, 0, none⟩ = some (.int .i64 z0) := h5.cell 0
   have d1 : w5.cell? ⟨w.heap.size + 1, 1, none⟩ = some (.int .i64 z1) := h5.cell 1
   have d2 : w5.cell? ⟨w.heap.size + 1, 2, none⟩ = some (.int .i64 z2) := h5.cell 2
   have d3 : w5.cell? ⟨w.heap.size + 1, 3, none⟩ = some (.int .i64 z3) := h5.cell 3
   have d4 : w5.cell? ⟨w.heap.size + 1, 4, none⟩ = some (.int .i64 z4) := h5.cell 4
   have d5 : w5.cell? ⟨w.heap.size + 1, 5, none⟩ = some (.int .i64 z5) := h5.cell 5
   have d6 : w5.cell? ⟨w.heap.size + 1, 6, none⟩ = some (.int .i64 z6) := h5.cell 6
   have d7 : w5.cell? ⟨w.heap.size + 1, 7, none⟩ = some (.int .i64 z7) := h5.cell 7
   have d8 : w5.cell? ⟨w.heap.size + 1, 8, none⟩ = some (.int .i64 z8) := h5.cell 8
   have d9 : w5.cell? ⟨w.heap.size + 1, 9, none⟩ = some (.int .i64 z9) := h5.cell 9
   have d10 : w5.cell? ⟨w.heap.size + 1, 10, none⟩ = some (.int .i64 z10) := h5.cell 10
   have d11 : w5.cell? ⟨w.heap.size + 1, 11, none⟩ = some (.int .i64 z11) := h5.cell 11
   have d12 : w5.cell? ⟨w.heap.size + 1, 12, none⟩ = some (.int .i64 z12) := h5.cell 12
   have d13 : w5.cell? ⟨w.heap.size + 1, 13, none⟩ = some (.int .i64 z13) := h5.cell 13
   have d14 : w5.cell? ⟨w.heap.size + 1, 14, none⟩ = some (.int .i64 z14) := h5.cell 14
   have d15 : w5.cell? ⟨w.heap.size + 1, 15, none⟩ = some (.int .i64 z15) := h5.cell 15
   have M5 := hide ((unhide HM).trans' (S := No) m5 (fun i e hl => by subst e; omega))
   have l5 := h5.lt
   clear m5 h5 hR hC
   go_wp2
   refine bodyPost_ret (by simp [results, Try.results17, go_sem, d0, d1, d2, d3, d4, d5, d6, d7, d8, d9, d10, d11, d12, d13, d14, d15]; try rfl) rfl ?_
   exact ⟨_, rfl, rfl, unhide HI, unhide M5⟩
  have : j = 0 ∨ j = 1 ∨ j = 2 ∨ j = 3 := by omega
  rcases this with rfl | rfl | rfl | rfl
  ·have qq := pickN_range y12 (m + 1) (by omega)
   have T3 := hide ((unhide T2).set 12 (pickN y12 (m + 1)) (by omega))
   have hj1 : IntKind.i64.wrap ((0 : Int) + 1) = 1 := wrap_fit _ (by omega) (by omega)
   clear T2
   go_wp2_with fail
   refine (pick_any y12 9 r12 (by omega) _).mono ?_
   rintro e w1 ⟨rfl, rfl⟩
   go_wp2_with fail
   refine (pick_any y12 (m + 1) r12 (by omega) _).mono ?_
   rintro e w1 ⟨rfl, rfl⟩
   go_wp2
   exact ⟨⟨_, 1, rfl, rfl, by omega, by omega, by omega, T3⟩, by simp [intOf]⟩
  ·have qq := pickN_range y13 (m + 1) (by omega)
   have T3 := hide ((unhide T2).set 13 (pickN y13 (m + 1)) (by omega))
   have hj1 : IntKind.i64.wrap ((1 : Int) + 1) = 2 := wrap_fit _ (by omega) (by omega)
   clear T2
   go_wp2_with fail
   refine (pick_any y12 9 r12 (by omega) _).mono ?_
   rintro e w1 ⟨rfl, rfl⟩
   go_wp2_with fail
   refine (pick_any y13 (m + 1) r13 (by omega) _).mono ?_
   rintro e w1 ⟨rfl, rfl⟩
   go_wp2
   exact ⟨⟨_, 2, rfl, rfl, by omega, by omega, by omega, T3⟩, by simp [intOf]⟩
  ·have qq := pickN_range y14 (m + 1) (by omega)
   have T3 := hide ((unhide T2).set 14 (pickN y14 (m + 1)) (by omega))
   have hj1 : IntKind.i64.wrap ((2 : Int) + 1) = 3 := wrap_fit _ (by omega) (by omega)
   clear T2
   go_wp2_with fail
   refine (pick_any y12 9 r12 (by omega) _).mono ?_
   rintro e w1 ⟨rfl, rfl⟩
   go_wp2_with fail
   refine (pick_any y14 (m + 1) r14 (by omega) _).mono ?_
   rintro e w1 ⟨rfl, rfl⟩
   go_wp2
   exact ⟨⟨_, 3, rfl, rfl, by omega, by omega, by omega, T3⟩, by simp [intOf]⟩
  ·have qq := pickN_range y15 (m + 1) (by omega)
   have T3 := hide ((unhide T2).set 15 (pickN y15 (m + 1)) (by omega))
   have hj1 : IntKind.i64.wrap ((3 : Int) + 1) = 4 := wrap_fit _ (by omega) (by omega)
   clear T2
   go_wp2_with fail
   refine (pick_any y12 9 r12 (by omega) _).mono ?_
   rintro e w1 ⟨rfl, rfl⟩
   go_wp2_with fail
   refine (pick_any y15 (m + 1) r15 (by omega) _).mono ?_
   rintro e w1 ⟨rfl, rfl⟩
   go_wp2
   exact ⟨⟨_, 4, rfl, rfl, by omega, by omega, by omega, T3⟩, by simp [intOf]⟩
theorem tame_c (w wd : World) (s0 s4 s5 s6 s7 s8 s9 s10 s11 s12 s13 s14 s15 s16 s17 s18 s19 s20 s21 s22 s23 s24 s25 s26 s27 s28 s29 s30 s31 s32 s33 s34 s35 s36 s37 s38 s39 s40 s41 s42 s43 s44 s45 s46 s47 s48 s49 s50 s51 s52 s53 s54 s55 s56 s57 s58 s59 s60 s61 s62 s63 s64 s65 s66 s67 s68 s69 s70 s71 s72 s73 s74 s75 s76 s77 s78 s79 s80 s81 s82 s83 s84 s85 s86 s87 s88 s89 s90 s91 s92 s93 s94 s95 s96 s97 s98 s99 s100 s101 s102 s103 s104 s105 s106 s107 s108 s109 s110 s111 s112 s113 s114 s115 s116 s117 s118 s119 s120 s121 : Value) (T : Hid (TameI w wd)) :
  Code.wp Try.prog (tameRest 8) (bodyPost Try.prog Try.f17 fun e w' => ∃ cs, e = .returned (.agg cs) ∧ cs.size = 16 ∧ Ints cs 16 ∧ Mod No w w') ⟨#[s0, .pointer (some ⟨w.heap.size, 0, none⟩), .pointer (some ⟨w.heap.size + 1, 0, none⟩), .pointer (some ⟨w.heap.size + 1 + 1, 0, none⟩), s4, s5, s6, s7, s8, s9, s10, s11, s12, s13, s14, s15, s16, s17, s18, s19, s20, s21, s22, s23, s24, s25, s26, s27, s28, s29, s30, s31, s32, s33, s34, s35, s36, s37, s38, s39, s40, s41, s42, s43, s44, s45, s46, s47, s48, s49, s50, s51, s52, s53, s54, s55, s56, s57, s58, s59, s60, s61, s62, s63, s64, s65, s66, s67, s68, s69, s70, s71, s72, s73, s74, s75, s76, s77, s78, s79, s80, s81, s82, s83, s84, s85, s86, s87, s88, s89, s90, s91, s92, s93, s94, s95, s96, s97, s98, s99, s100, s101, s102, s103, s104, s105, s106, s107, s108, s109, s110, s111, s112, s113, s114, s115, s116, s117, s118, s119, s120, s121], []⟩ wd := by
 conv => arg 2; whnf
 obtain ⟨y0, c0, r0⟩ := (unhide T).cell 0 (by omega)
 obtain ⟨y8, c8, r8⟩ := (unhide T).cell 8 (by omega)
 have f0 := (unhide T).froz
 have lt0 := (unhide T).lt
 have p8 := pick_small y8 20 (by omega)
 have q8 := pickN_range y8 20 (by omega)
 go_upto_if 61 with fail
 go_cut [] (fun wx => Hid (TameI w wx))
 case first =>
  by_cases h : y0 = 8
  ·subst h
   go_wp2_with fail
   refine (pick_any y8 20 r8 (by omega) _).mono ?_
   rintro e w1 ⟨rfl, rfl⟩
   have T2 := hide ((unhide T).set 8 (1 + pickN y8 20) (by omega))
   go_wp2
   go_meet
   exact T2
  ·go_wp2
   go_meet
   exact T
 case rest =>
  clear T c0 c8 f0 lt0 r0 r8 p8 q8 y0 y8
  have T := hcut
  clear hcut
  generalize wc = wd4 at *
  obtain ⟨y9, c9, r9⟩ := (unhide T).cell 9 (by omega)
  obtain ⟨y10, c10, r10⟩ := (unhide T).cell 10 (by omega)
  obtain ⟨y11, c11, r11⟩ := (unhide T).cell 11 (by omega)
  have f0 := (unhide T).froz
  have lt0 := (unhide T).lt
  have p9 := pick_small y9 5 (by omega)
  have q9 := pickN_range y9 5 (by omega)
  have p10 := pick_small y10 3 (by omega)
  have q10 := pickN_range y10 3 (by omega)
  have n11 := wrap_fit (1 + pickN y9 5 + 1) (by omega) (by omega)
  have q11 := pickN_range y11 (1 + pickN y9 5 + 1) (by omega)
  go_wp2_with fail
  refine (pick_any y9 9 r9 (by omega) _).mono ?_
  rintro e w1 ⟨rfl, rfl⟩
  go_upto_if 71 with fail
  go_cut [] (fun wx => Hid (TameI w wx))
  case first =>
   by_cases h : pickN y9 9 > 0
   ·go_wp2_with fail
    refine (pick_any y9 5 r9 (by omega) _).mono ?_
    rintro e w1 ⟨rfl, rfl⟩
    go_wp2_with fail
    refine (pick_any y10 3 r10 (by omega) _).mono ?_
    rintro e w1 ⟨rfl, rfl⟩
    go_wp2_with fail
    refine (pick_any y11 (1 + pickN y9 5 + 1) r11 (by omega) _).mono ?_
    rintro e w1 ⟨rfl, rfl⟩
    have T2 := hide ((((unhide T).set 9 (1 + pickN y9 5) (by omega)).set 10 (1 + pickN y10 3) (by omega)).set 11 (pickN y11 (1 + pickN y9 5 + 1)) (by omega))
    go_wp2
    go_meet
    exact T2
   ·go_wp2
    go_meet
    exact T
  case rest =>
   apply_assumption
   exact tame_d w _ _ _ _ _ _ _ _ _ _ _ _ _ _ _ _ _ _ _ _ _ _ _ _ _ _ _ _ _ _ _ _ _ _ _ _ _ _ _ _ _ _ _ _ _ _ _ _ _ _ _ _ _ _ _ _ _ _ _ _ _ _ _ _ _ _ _ _ _ _ _ _ _ _ _ _ _ _ _ _ _ _ _ _ _ _ _ _ _ _ _ _ _ _ _ _ _ _ _ _ _ _ _ _ _ _ _ _ _ _ _ _ _ _ _ _ _ _ _ _ hcut
theorem tame_b (w wd : World) (s0 s4 s5 s6 s7 s8 s9 s10 s11 s12 s13 s14 s15 s16 s17 s18 s19 s20 s21 s22 s23 s24 s25 s26 s27 s28 s29 s30 s31 s32 s33 s34 s35 s36 s37 s38 s39 s40 s41 s42 s43 s44 s45 s46 s47 s48 s49 s50 s51 s52 s53 s54 s55 s56 s57 s58 s59 s60 s61 s62 s63 s64 s65 s66 s67 s68 s69 s70 s71 s72 s73 s74 s75 s76 s77 s78 s79 s80 s81 s82 s83 s84 s85 s86 s87 s88 s89 s90 s91 s92 s93 s94 s95 s96 s97 s98 s99 s100 s101 s102 s103 s104 s105 s106 s107 s108 s109 s110 s111 s112 s113 s114 s115 s116 s117 s118 s119 s120 s121 : Value) (T : Hid (TameI w wd)) :
  Code.wp Try.prog (tameRest 6) (bodyPost Try.prog Try.f17 fun e w' => ∃ cs, e = .returned (.agg cs) ∧ cs.size = 16 ∧ Ints cs 16 ∧ Mod No w w') ⟨#[s0, .pointer (some ⟨w.heap.size, 0, none⟩), .pointer (some ⟨w.heap.size + 1, 0, none⟩), .pointer (some ⟨w.heap.size + 1 + 1, 0, none⟩), s4, s5, s6, s7, s8, s9, s10, s11, s12, s13, s14, s15, s16, s17, s18, s19, s20, s21, s22, s23, s24, s25, s26, s27, s28, s29, s30, s31, s32, s33, s34, s35, s36, s37, s38, s39, s40, s41, s42, s43, s44, s45, s46, s47, s48, s49, s50, s51, s52, s53, s54, s55, s56, s57, s58, s59, s60, s61, s62, s63, s64, s65, s66, s67, s68, s69, s70, s71, s72, s73, s74, s75, s76, s77, s78, s79, s80, s81, s82, s83, s84, s85, s86, s87, s88, s89, s90, s91, s92, s93, s94, s95, s96, s97, s98, s99, s100, s101, s102, s103, s104, s105, s106, s107, s108, s109, s110, s111, s112, s113, s114, s115, s116, s117, s118, s119, s120, s121], []⟩ wd := by
 conv => arg 2; whnf
 obtain ⟨y6, c6, r6⟩ := (unhide T).cell 6 (by omega)
 obtain ⟨y7, c7, r7⟩ := (unhide T).cell 7 (by omega)
 have f0 := (unhide T).froz
 have lt0 := (unhide T).lt
 have p6 := pick_small y6 4 (by omega)
 have q6 := pickN_range y6 4 (by omega)
 have p7 := pick_small y7 4 (by omega)
 have q7 := pickN_range y7 4 (by omega)
 have T1 := hide ((unhide T).set 6 (1 + pickN y6 4) (by omega))
 clear T
 go_wp2_with fail
 refine (pick_any y6 4 r6 (by omega) _).mono ?_
 rintro e w1 ⟨rfl, rfl⟩
 go_wp2_with fail
 refine (pick_any y7 9 r7 (by omega) _).mono ?_
 rintro e w1 ⟨rfl, rfl⟩
 go_upto_if 54 with fail
 go_cut [] (fun wx => Hid (TameI w wx))
 case first =>
  by_cases h : pickN y7 9 > 0
  ·go_wp2_with fail
   refine (pick_any y7 4 r7 (by omega) _).mono ?_
   rintro e w1 ⟨rfl, rfl⟩
   have T2 := hide ((unhide T1).set 7 (pickN y7 4) (by omega))
   go_wp2
   go_meet
   exact T2
  ·go_wp2
   go_meet
   exact T1
 case rest =>
  apply_assumption
  exact tame_c w _ _ _ _ _ _ _ _ _ _ _ _ _ _ _ _ _ _ _ _ _ _ _ _ _ _ _ _ _ _ _ _ _ _ _ _ _ _ _ _ _ _ _ _ _ _ _ _ _ _ _ _ _ _ _ _ _ _ _ _ _ _ _ _ _ _ _ _ _ _ _ _ _ _ _ _ _ _ _ _ _ _ _ _ _ _ _ _ _ _ _ _ _ _ _ _ _ _ _ _ _ _ _ _ _ _ _ _ _ _ _ _ _ _ _ _ _ _ _ _ hcut
theorem tamed_any (x0 x1 x2 x3 x4 x5 x6 x7 x8 x9 x10 x11 x12 x13 x14 x15 k fu : Int) (kp sp fa : Value) (hk : -9223372036854775808 ≤ k ∧ k ≤ 9223372036854775807) (hi : Ints #[.int .i64 x0, .int .i64 x1, .int .i64 x2, .int .i64 x3, .int .i64 x4, .int .i64 x5, .int .i64 x6, .int .i64 x7, .int .i64 x8, .int .i64 x9, .int .i64 x10, .int .i64 x11, .int .i64 x12, .int .i64 x13, .int .i64 x14, .int .i64 x15] 16) (w : World) :
  Calls Try.prog 17 #[.agg #[.int .i64 x0, .int .i64 x1, .int .i64 x2, .int .i64 x3, .int .i64 x4, .int .i64 x5, .int .i64 x6, .int .i64 x7, .int .i64 x8, .int .i64 x9, .int .i64 x10, .int .i64 x11, .int .i64 x12, .int .i64 x13, .int .i64 x14, .int .i64 x15, .int .i64 k, .int .i64 fu, kp, sp, fa]] w fun e w' => ∃ cs, e = .returned (.agg cs) ∧ cs.size = 16 ∧ Ints cs 16 ∧ Mod No w w' := by
 have T0 := hide (tamed_start x0 x1 x2 x3 x4 x5 x6 x7 x8 x9 x10 x11 x12 x13 x14 x15 k fu kp sp fa hi w)
 clear hi
 have pk := pick_small k 9 (by omega)
 go_enter Try.func17, Try.ntmps17
 go_wp2_with fail
 refine (pick_any k 9 hk (by omega) _).mono ?_
 rintro e w1 ⟨rfl, rfl⟩
 generalize (((w.alloc (.cells #[.int .i64 x0, .int .i64 x1, .int .i64 x2, .int .i64 x3, .int .i64 x4, .int .i64 x5, .int .i64 x6, .int .i64 x7, .int .i64 x8, .int .i64 x9, .int .i64 x10, .int .i64 x11, .int .i64 x12, .int .i64 x13, .int .i64 x14, .int .i64 x15, .int .i64 k, .int .i64 fu, kp, sp, fa] 41)).alloc (.cells #[.int .i64 0, .int .i64 0, .int .i64 0, .int .i64 0, .int .i64 0, .int .i64 0, .int .i64 0, .int .i64 0, .int .i64 0, .int .i64 0, .int .i64 0, .int .i64 0, .int .i64 0, .int .i64 0, .int .i64 0, .int .i64 0] 37)).alloc (.cells #[.int .i64 x0, .int .i64 x1, .int .i64 x2, .int .i64 x3, .int .i64 x4, .int .i64 x5, .int .i64 x6, .int .i64 x7, .int .i64 x8, .int .i64 x9, .int .i64 x10, .int .i64 x11, .int .i64 x12, .int .i64 x13, .int .i64 x14, .int .i64 x15] 37)) = W0 at *
 obtain ⟨y0, c0, r0⟩ := (unhide T0).cell 0 (by omega)
 obtain ⟨y1, c1, r1⟩ := (unhide T0).cell 1 (by omega)
 have f0 := (unhide T0).froz
 have lt0 := (unhide T0).lt
 have p1 := pick_small y1 3 (by omega)
 have T1 := hide ((unhide T0).set 0 (1 + pickN k 9) (by have := pickN_range k 9 (by omega); omega))
 clear T0
 go_wp2_with fail
 refine (pick_any y1 9 r1 (by omega) _).mono ?_
 rintro e w1 ⟨rfl, rfl⟩
 go_upto_if 16 with fail
 go_cut [] (fun wx => Hid (TameI w wx))
 case first =>
  by_cases h : pickN y1 9 > 0
  ·go_wp2_with fail
   refine (pick_any y1 3 r1 (by omega) _).mono ?_
   rintro e w1 ⟨rfl, rfl⟩
   have T2 := hide ((unhide T1).set 1 (1 + pickN y1 3) (by have := pickN_range y1 3 (by omega); omega))
   go_wp2
   go_meet
   exact T2
  ·go_wp2
   go_meet
   exact T1
 case rest =>
  clear T1 c1 c0 f0 lt0 r0 r1 p1 pk y1 y0
  have T := hcut
  clear hcut
  generalize wc = wd at *
  clear W0
  go_upto_region 5 with fail
  go_cut [] (fun wx => Hid (TameI w wx))
  case first =>
   obtain ⟨y2, c2, r2⟩ := (unhide T).cell 2 (by omega)
   obtain ⟨y3, c3, r3⟩ := (unhide T).cell 3 (by omega)
   have f0 := (unhide T).froz
   have lt0 := (unhide T).lt
   have p2 := pick_small y2 4 (by omega)
   have p3 := pick_small y3 3 (by omega)
   have q2 := pickN_range y2 4 (by omega)
   have q3 := pickN_range y3 3 (by omega)
   have T2 := hide (((unhide T).set 2 (1 + pickN y2 4) (by omega)).set 3 (1 + pickN y3 3) (by omega)).drew
   clear T
   go_region_with ((first | (go_at_call_of 23 (Value.int IntKind.i64 y2); refine (pick_any y2 4 r2 (by omega) _).mono ?_) | (go_at_call_of 23 (Value.int IntKind.i64 y3); refine (pick_any y3 3 r3 (by omega) _).mono ?_)); rintro e w1 ⟨rfl, rfl⟩)
   all_goals go_wp2
   all_goals go_meet
   all_goals exact T2
  case rest =>
   clear T
   have T := hcut
   clear hcut
   generalize wc = wd6 at *
   go_upto_region 6 with fail
   go_cut [] (fun wx => Hid (TameI w wx))
   case first =>
    obtain ⟨y4, c4, r4⟩ := (unhide T).cell 4 (by omega)
    obtain ⟨y5, c5, r5⟩ := (unhide T).cell 5 (by omega)
    have f0 := (unhide T).froz
    have lt0 := (unhide T).lt
    have p2 := pick_small y4 4 (by omega)
    have p3 := pick_small y5 3 (by omega)
    have q2 := pickN_range y4 4 (by omega)
    have q3 := pickN_range y5 3 (by omega)
    have T2 := hide (((unhide T).set 4 (1 + pickN y4 4) (by omega)).set 5 (1 + pickN y5 3) (by omega)).drew
    clear T
    go_region_with ((first | (go_at_call_of 23 (Value.int IntKind.i64 y4); refine (pick_any y4 4 r4 (by omega) _).mono ?_) | (go_at_call_of 23 (Value.int IntKind.i64 y5); refine (pick_any y5 3 r5 (by omega) _).mono ?_)); rintro e w1 ⟨rfl, rfl⟩)
    all_goals go_wp2
    all_goals go_meet
    all_goals exact T2
   case rest =>
    apply_assumption
    exact tame_b w _ _ _ _ _ _ _ _ _ _ _ _ _ _ _ _ _ _ _ _ _ _ _ _ _ _ _ _ _ _ _ _ _ _ _ _ _ _ _ _ _ _ _ _ _ _ _ _ _ _ _ _ _ _ _ _ _ _ _ _ _ _ _ _ _ _ _ _ _ _ _ _ _ _ _ _ _ _ _ _ _ _ _ _ _ _ _ _ _ _ _ _ _ _ _ _ _ _ _ _ _ _ _ _ _ _ _ _ _ _ _ _ _ _ _ _ _ _ _ _ hcut
def I64 (v : Value) : Prop := ∃ x : Int, v = .int .i64 x ∧ -9223372036854775808 ≤ x ∧ x ≤ 9223372036854775807
section
variable {H : Type} {enc : TypeId × Value → H} {w : World} {base : Nat} {spare : Nat → Bool} {held : Bool}
def AllI (enc : TypeId × Value → H) (w : World) (base : Nat) (spare : Nat → Bool) (held : Bool) (t : TypeId) (n : Nat) : Prop :=
 Try.prog.cellsOf t = n ∧ ∀ (fuel : Nat) (cs : List Value) (x : DataW H × List MemPlace), DataW.trod enc Try.prog w base spare held fuel t cs = some x → ∀ (i : Nat) (v : Value), cs[i]? = some v → I64 v
theorem allI_int {t : TypeId} (ht : Try.prog.underlying t = some (.int .i64)) (hc : Try.prog.cellsOf t = 1) : AllI enc w base spare held t 1 := by
 refine ⟨hc, fun fuel cs x h i v hv => ?_⟩
 obtain ⟨n, rfl, _, hw⟩ := DataW.trod_int ht h
 have hb := bounds_i64 hw
 cases i with
 | zero => simp at hv; exact ⟨n, hv.symm, hb⟩
 | succ i => simp at hv
theorem ints_struct {t : TypeId} {fs : Array Field} (ht : Try.prog.underlying t = some (.struct fs)) {fuel : Nat} {cs : List Value} {x : DataW H × List MemPlace} (h : DataW.trod enc Try.prog w base spare held fuel t cs = some x) (i : Nat)
  (hcov : ∃ (j : Nat) (f : Field) (k : Nat), fs[j]? = some f ∧ f.offset ≤ i ∧ i < f.offset + k ∧ AllI enc w base spare held f.type k) : cs.length = Try.prog.cellsOf t ∧ ∀ v, cs[i]? = some v → I64 v := by
 obtain ⟨xs, n, _, _, hl, hx, hf⟩ := DataW.trod_struct ht h
 refine ⟨hl, fun v hv => ?_⟩
 obtain ⟨j, f, k, e1, e2, e3, e4, e5⟩ := hcov
 have hj : j < xs.length := by
  rw [hx]
  exact (Array.getElem?_eq_some_iff.1 e1).1
 have := hf j f e1
 rw [List.getElem?_eq_getElem hj, e4] at this
 refine e5 _ _ _ this (i - f.offset) v ?_
 rw [List.getElem?_take, if_pos (by omega), List.getElem?_drop]
 rw [show f.offset + (i - f.offset) = i by omega]
 exact hv
theorem allI_struct {t : TypeId} {fs : Array Field} (ht : Try.prog.underlying t = some (.struct fs)) (n : Nat) (hc : Try.prog.cellsOf t = n)
  (hcov : ∀ i, i < n → ∃ (j : Nat) (f : Field) (k : Nat), fs[j]? = some f ∧ f.offset ≤ i ∧ i < f.offset + k ∧ AllI enc w base spare held f.type k) : AllI enc w base spare held t n := by
 refine ⟨hc, fun fuel cs x h i v hv => ?_⟩
 obtain ⟨xs, n', _, _, hl, hx, hf⟩ := DataW.trod_struct ht h
 have hi : i < n := by
  have := (List.getElem?_eq_some_iff.1 hv).1
  omega
 exact (ints_struct ht h i (hcov i hi)).2 v hv
theorem allI_array {t e : TypeId} {n : Nat} (ht : Try.prog.underlying t = some (.array n e)) (hc : Try.prog.cellsOf t = n) (he : AllI enc w base spare held e 1) : AllI enc w base spare held t n := by
 refine ⟨hc, fun fuel cs x h i v hv => ?_⟩
 obtain ⟨xs, m, _, _, hl, hx, hf⟩ := DataW.trod_array ht h
 have hi : i < n := by
  have := (List.getElem?_eq_some_iff.1 hv).1
  omega
 have := hf i hi
 rw [List.getElem?_eq_getElem (by omega), he.1] at this
 refine he.2 _ _ _ this 0 v ?_
 rw [List.getElem?_take, if_pos (by omega), List.getElem?_drop]
 simpa using hv
theorem allI3 : AllI enc w base spare held 3 1 := allI_int Try.underlying3 (by kernel_rfl)
theorem allI40 : AllI enc w base spare held 33 4 := allI_array Try.underlying33 (by kernel_rfl) allI3
theorem allI30 : AllI enc w base spare held 32 2 := allI_struct Try.underlying32 2 (by kernel_rfl) fun i hi => by
 have : i = 0 ∨ i = 1 := by omega
 rcases this with rfl | rfl
 ·exact ⟨0, _, 1, rfl, by decide, by decide, allI3⟩
 ·exact ⟨1, _, 1, rfl, by decide, by decide, allI3⟩
theorem allI42 : AllI enc w base spare held 35 7 := allI_struct Try.underlying35 7 (by kernel_rfl) fun i hi => by
 by_cases h : 3 ≤ i
 ·exact ⟨3, _, 4, rfl, h, by show i < 3 + 4; omega, allI40⟩
 have : i = 0 ∨ i = 1 ∨ i = 2 := by omega
 rcases this with rfl | rfl | rfl
 ·exact ⟨0, _, 1, rfl, by decide, by decide, allI3⟩
 ·exact ⟨1, _, 1, rfl, by decide, by decide, allI3⟩
 ·exact ⟨2, _, 1, rfl, by decide, by decide, allI3⟩
theorem allI44 : AllI enc w base spare held 37 16 := allI_struct Try.underlying37 16 (by kernel_rfl) fun i hi => by
 by_cases h : 9 ≤ i
 ·exact ⟨7, _, 7, rfl, h, by show i < 9 + 7; omega, allI42⟩
 have : i = 0 ∨ i = 1 ∨ i = 2 ∨ i = 3 ∨ i = 4 ∨ i = 5 ∨ i = 6 ∨ i = 7 ∨ i = 8 := by omega
 rcases this with rfl | rfl | rfl | rfl | rfl | rfl | rfl | rfl | rfl
 ·exact ⟨0, _, 1, rfl, by decide, by decide, allI3⟩
 ·exact ⟨1, _, 1, rfl, by decide, by decide, allI3⟩
 ·exact ⟨2, _, 2, rfl, by decide, by decide, allI30⟩
 ·exact ⟨2, _, 2, rfl, by decide, by decide, allI30⟩
 ·exact ⟨3, _, 2, rfl, by decide, by decide, allI30⟩
 ·exact ⟨3, _, 2, rfl, by decide, by decide, allI30⟩
 ·exact ⟨4, _, 1, rfl, by decide, by decide, allI3⟩
 ·exact ⟨5, _, 1, rfl, by decide, by decide, allI3⟩
 ·exact ⟨6, _, 1, rfl, by decide, by decide, allI3⟩
end
section
variable {H : Type} {enc : TypeId × Value → H} {w : World} {base : Nat} {spare : Nat → Bool} {held : Bool}
theorem cells47 : Try.prog.cellsOf 41 = 21 := by kernel_rfl
theorem step_ints {fuel : Nat} {cs : List Value} {x : DataW H × List MemPlace} (h : DataW.trod enc Try.prog w base spare held fuel 41 cs = some x) : cs.length = 21 ∧ ∀ i, i < 18 → ∀ v, cs[i]? = some v → I64 v := by
 have cov := fun (i : Nat) (hi : i < 18) => show ∃ (j : Nat) (f : Field) (k : Nat), (#[⟨ "Do", 37, 0, false, "", "", 0⟩, ⟨ "Kind", 3, 16, false, "", "", 128⟩, ⟨ "Fuse", 3, 17, false, "", "", 136⟩, ⟨ "Keep", 39, 18, false, "", "", 144⟩, ⟨ "Spoil", 5, 19, false, "", "", 168⟩, ⟨ "Fall", 4, 20, false, "", "", 169⟩] : Array Field)[j]? = some f ∧ f.offset ≤ i ∧ i < f.offset + k ∧ AllI enc w base spare held f.type k from by
  by_cases h : i < 16
  ·exact ⟨0, _, 16, rfl, Nat.zero_le _, (by show i < 0 + 16; omega), allI44⟩
  ·by_cases h' : i < 17
   ·exact ⟨1, _, 1, rfl, (by show 16 ≤ i; omega), (by show i < 16 + 1; omega), allI3⟩
   ·exact ⟨2, _, 1, rfl, (by show 17 ≤ i; omega), (by show i < 17 + 1; omega), allI3⟩
 refine ⟨?_, fun i hi => (ints_struct Try.underlying41 h i (cov i hi)).2⟩
 have := (ints_struct Try.underlying41 h 0 (cov 0 (by omega))).1
 rw [cells47] at this
 exact this
end
end Go.Proofs.Ythhibagcpjeihaa
