import Derived.Test.YthhibagcpjeihaaLWt3ToTame5
import Derived.Test.YthhibagcpjeihaaLBaseToAppend
import Derived.Deep.MidRow
import Derived.Deep.Slices
import Derived.OpenShut
import Derived.SizedLaws
import Derived.Test.YthhibagcpjeihaaLWt1ToWt2
import Derived.Handy
import Derived.Deep.DeepCutAuto
import Derived.Test.YthhibagcpjeihaaLDoesPToPg4
import Derived.ChangeSlices
namespace Go.Proofs.Ythhibagcpjeihaa
open Go.RowKit
set_option linter.unusedVariables false
set_option linter.unusedSimpArgs false
set_option maxRecDepth 100000
set_option maxHeartbeats 20000000
theorem tamed_any (x0 x1 x2 x3 x4 x5 x6 x7 x8 x9 x10 x11 x12 x13 x14 x15 k fu : Int) (kp sp fa : Value) (hk : -9223372036854775808 ≤ k ∧ k ≤ 9223372036854775807) (hi : Ints #[.int .i64 x0, .int .i64 x1, .int .i64 x2, .int .i64 x3, .int .i64 x4, .int .i64 x5, .int .i64 x6, .int .i64 x7, .int .i64 x8, .int .i64 x9, .int .i64 x10, .int .i64 x11, .int .i64 x12, .int .i64 x13, .int .i64 x14, .int .i64 x15] 16) (w : World) :
  Calls Try.prog 17 #[.agg #[.int .i64 x0, .int .i64 x1, .int .i64 x2, .int .i64 x3, .int .i64 x4, .int .i64 x5, .int .i64 x6, .int .i64 x7, .int .i64 x8, .int .i64 x9, .int .i64 x10, .int .i64 x11, .int .i64 x12, .int .i64 x13, .int .i64 x14, .int .i64 x15, .int .i64 k, .int .i64 fu, kp, sp, fa]] w fun e w' => ∃ cs, e = .returned (.agg cs) ∧ cs.size = 16 ∧ Ints cs 16 ∧ Mod No w w' := by
 have T0 := hide (tamed_start x0 x1 x2 x3 x4 x5 x6 x7 x8 x9 x10 x11 x12 x13 x14 x15 k fu kp sp fa hi w)
 clear hi
 have pk := pick_small k 9 (by omega)
 go_enter Try.func17, Try.ntmps17
 go_wp2_with fail
 refine (pick_any k 9 hk (by omega) _).mono ?_
 rintro e w1 ⟨rfl, rfl⟩
 generalize (((w.alloc (.cells #[.int .i64 x0, .int .i64 x1, .int .i64 x2, .int .i64 x3, .int .i64 x4, .int .i64 x5, .int .i64 x6, .int .i64 x7, .int .i64 x8, .int .i64 x9, .int .i64 x10, .int .i64 x11, .int .i64 x12, .int .i64 x13, .int .i64 x14, .int .i64 x15, .int .i64 k, .int .i64 fu, kp, sp, fa] 41)).alloc (.cells #[.int .i64 0, .int .i64 0, .int .i64 0, .int .i64 0, .int .i64 0, .int .i64 0, .int .i64 0, .int .i64 0, .int .i64 0, .int .i64 0, .int .i64 0, .int .i64 0, .int .i64 0, .int .i64 0, .int .i64 0, .int .i64 0] 37)).alloc (.cells #[.int .i64 x0, .int .i64 x1, .int .i64 x2, .int .i64 x3, .int .i64 x4, .int .i64 x5, .int .i64 x6, .int .i64 x7, .int .i64 x8, .int .i64 x9, .int .i64 x10, .int .i64 x11, .int .i64 x12, .int .i64 x13, .int .i64 x14, .int .i64 x15] 37)) = W0 at *
 obtain ⟨y0, c0, r0⟩ := (unhide T0).cell 0 (by omega)
 obtain ⟨y1, c1, r1⟩ := (unhide T0).cell 1 (by omega)
 have f0 := (unhide T0).froz
 have lt0 := (unhide T0).lt
 have p1 := pick_small y1 3 (by omega)
 have T1 := hide ((unhide T0).set 0 (1 + pickN k 9) (by have := pickN_range k 9 (by omega); omega))
 clear T0
 go_wp2_with fail
 refine (pick_any y1 9 r1 (by omega) _).mono ?_
 rintro e w1 ⟨rfl, rfl⟩
 go_upto_if 16 with fail
 go_cut [] (fun wx => Hid (TameI w wx))
 case first =>
  by_cases h : pickN y1 9 > 0
  ·go_wp2_with fail
   refine (pick_any y1 3 r1 (by omega) _).mono ?_
   rintro e w1 ⟨rfl, rfl⟩
   have T2 := hide ((unhide T1).set 1 (1 + pickN y1 3) (by have := pickN_range y1 3 (by omega); omega))
   go_wp2
   go_meet
   exact T2
  ·go_wp2
   go_meet
   exact T1
 case rest =>
  clear T1 c1 c0 f0 lt0 r0 r1 p1 pk y1 y0
  have T := hcut
  clear hcut
  generalize wc = wd at *
  clear W0
  go_upto_region 5 with fail
  go_cut [] (fun wx => Hid (TameI w wx))
  case first =>
   obtain ⟨y2, c2, r2⟩ := (unhide T).cell 2 (by omega)
   obtain ⟨y3, c3, r3⟩ := (unhide T).cell 3 (by omega)
   have f0 := (unhide T).froz
   have lt0 := (unhide T).lt
   have p2 := pick_small y2 4 (by omega)
   have p3 := pick_small y3 3 (by omega)
   have q2 := pickN_range y2 4 (by omega)
   have q3 := pickN_range y3 3 (by omega)
   have T2 := hide (((unhide T).set 2 (1 + pickN y2 4) (by omega)).set 3 (1 + pickN y3 3) (by omega)).drew
   clear T
   go_region_with ((first | (go_at_call_of 23 (Value.int IntKind.i64 y2); refine (pick_any y2 4 r2 (by omega) _).mono ?_) | (go_at_call_of 23 (Value.int IntKind.i64 y3); refine (pick_any y3 3 r3 (by omega) _).mono ?_)); rintro e w1 ⟨rfl, rfl⟩)
   all_goals go_wp2
   all_goals go_meet
   all_goals exact T2
  case rest =>
   clear T
   have T := hcut
   clear hcut
   generalize wc = wd6 at *
   go_upto_region 6 with fail
   go_cut [] (fun wx => Hid (TameI w wx))
   case first =>
    obtain ⟨y4, c4, r4⟩ := (unhide T).cell 4 (by omega)
    obtain ⟨y5, c5, r5⟩ := (unhide T).cell 5 (by omega)
    have f0 := (unhide T).froz
    have lt0 := (unhide T).lt
    have p2 := pick_small y4 4 (by omega)
    have p3 := pick_small y5 3 (by omega)
    have q2 := pickN_range y4 4 (by omega)
    have q3 := pickN_range y5 3 (by omega)
    have T2 := hide (((unhide T).set 4 (1 + pickN y4 4) (by omega)).set 5 (1 + pickN y5 3) (by omega)).drew
    clear T
    go_region_with ((first | (go_at_call_of 23 (Value.int IntKind.i64 y4); refine (pick_any y4 4 r4 (by omega) _).mono ?_) | (go_at_call_of 23 (Value.int IntKind.i64 y5); refine (pick_any y5 3 r5 (by omega) _).mono ?_)); rintro e w1 ⟨rfl, rfl⟩)
    all_goals go_wp2
    all_goals go_meet
    all_goals exact T2
   case rest =>
    apply_assumption
    exact tame_b w _ _ _ _ _ _ _ _ _ _ _ _ _ _ _ _ _ _ _ _ _ _ _ _ _ _ _ _ _ _ _ _ _ _ _ _ _ _ _ _ _ _ _ _ _ _ _ _ _ _ _ _ _ _ _ _ _ _ _ _ _ _ _ _ _ _ _ _ _ _ _ _ _ _ _ _ _ _ _ _ _ _ _ _ _ _ _ _ _ _ _ _ _ _ _ _ _ _ _ _ _ _ _ _ _ _ _ _ _ _ _ _ _ _ _ _ _ _ _ _ hcut
def I64 (v : Value) : Prop := ∃ x : Int, v = .int .i64 x ∧ -9223372036854775808 ≤ x ∧ x ≤ 9223372036854775807
section
variable {H : Type} {enc : TypeId × Value → H} {w : World} {base : Nat} {spare : Nat → Bool} {held : Bool}
def AllI (enc : TypeId × Value → H) (w : World) (base : Nat) (spare : Nat → Bool) (held : Bool) (t : TypeId) (n : Nat) : Prop :=
 Try.prog.cellsOf t = n ∧ ∀ (fuel : Nat) (cs : List Value) (x : DataW H × List MemPlace), DataW.trod enc Try.prog w base spare held fuel t cs = some x → ∀ (i : Nat) (v : Value), cs[i]? = some v → I64 v
theorem allI_int {t : TypeId} (ht : Try.prog.underlying t = some (.int .i64)) (hc : Try.prog.cellsOf t = 1) : AllI enc w base spare held t 1 := by
 refine ⟨hc, fun fuel cs x h i v hv => ?_⟩
 obtain ⟨n, rfl, _, hw⟩ := DataW.trod_int ht h
 have hb := bounds_i64 hw
 cases i with
 | zero => simp at hv; exact ⟨n, hv.symm, hb⟩
 | succ i => simp at hv
theorem ints_struct {t : TypeId} {fs : Array Field} (ht : Try.prog.underlying t = some (.struct fs)) {fuel : Nat} {cs : List Value} {x : DataW H × List MemPlace} (h : DataW.trod enc Try.prog w base spare held fuel t cs = some x) (i : Nat)
  (hcov : ∃ (j : Nat) (f : Field) (k : Nat), fs[j]? = some f ∧ f.offset ≤ i ∧ i < f.offset + k ∧ AllI enc w base spare held f.type k) : cs.length = Try.prog.cellsOf t ∧ ∀ v, cs[i]? = some v → I64 v := by
 obtain ⟨xs, n, _, _, hl, hx, hf⟩ := DataW.trod_struct ht h
 refine ⟨hl, fun v hv => ?_⟩
 obtain ⟨j, f, k, e1, e2, e3, e4, e5⟩ := hcov
 have hj : j < xs.length := by
  rw [hx]
  exact (Array.getElem?_eq_some_iff.1 e1).1
 have := hf j f e1
 rw [List.getElem?_eq_getElem hj, e4] at this
 refine e5 _ _ _ this (i - f.offset) v ?_
 rw [List.getElem?_take, if_pos (by omega), List.getElem?_drop]
 rw [show f.offset + (i - f.offset) = i by omega]
 exact hv
theorem allI_struct {t : TypeId} {fs : Array Field} (ht : Try.prog.underlying t = some (.struct fs)) (n : Nat) (hc : Try.prog.cellsOf t = n)
  (hcov : ∀ i, i < n → ∃ (j : Nat) (f : Field) (k : Nat), fs[j]? = some f ∧ f.offset ≤ i ∧ i < f.offset + k ∧ AllI enc w base spare held f.type k) : AllI enc w base spare held t n := by
 refine ⟨hc, fun fuel cs x h i v hv => ?_⟩
 obtain ⟨xs, n', _, _, hl, hx, hf⟩ := DataW.trod_struct ht h
 have hi : i < n := by
  have := (List.getElem?_eq_some_iff.1 hv).1
  omega
 exact (ints_struct ht h i (hcov i hi)).2 v hv
theorem allI_array {t e : TypeId} {n : Nat} (ht : Try.prog.underlying t = some (.array n e)) (hc : Try.prog.cellsOf t = n) (he : AllI enc w base spare held e 1) : AllI enc w base spare held t n := by
 refine ⟨hc, fun fuel cs x h i v hv => ?_⟩
 obtain ⟨xs, m, _, _, hl, hx, hf⟩ := DataW.trod_array ht h
 have hi : i < n := by
  have := (List.getElem?_eq_some_iff.1 hv).1
  omega
 have := hf i hi
 rw [List.getElem?_eq_getElem (by omega), he.1] at this
 refine he.2 _ _ _ this 0 v ?_
 rw [List.getElem?_take, if_pos (by omega), List.getElem?_drop]
 simpa using hv
theorem allI3 : AllI enc w base spare held 3 1 := allI_int Try.underlying3 (by kernel_rfl)
theorem allI40 : AllI enc w base spare held 33 4 := allI_array Try.underlying33 (by kernel_rfl) allI3
theorem allI30 : AllI enc w base spare held 32 2 := allI_struct Try.underlying32 2 (by kernel_rfl) fun i hi => by
 have : i = 0 ∨ i = 1 := by omega
 rcases this with rfl | rfl
 ·exact ⟨0, _, 1, rfl, by decide, by decide, allI3⟩
 ·exact ⟨1, _, 1, rfl, by decide, by decide, allI3⟩
theorem allI42 : AllI enc w base spare held 35 7 := allI_struct Try.underlying35 7 (by kernel_rfl) fun i hi => by
 by_cases h : 3 ≤ i
 ·exact ⟨3, _, 4, rfl, h, by show i < 3 + 4; omega, allI40⟩
 have : i = 0 ∨ i = 1 ∨ i = 2 := by omega
 rcases this with rfl | rfl | rfl
 ·exact ⟨0, _, 1, rfl, by decide, by decide, allI3⟩
 ·exact ⟨1, _, 1, rfl, by decide, by decide, allI3⟩
 ·exact ⟨2, _, 1, rfl, by decide, by decide, allI3⟩
theorem allI44 : AllI enc w base spare held 37 16 := allI_struct Try.underlying37 16 (by kernel_rfl) fun i hi => by
 by_cases h : 9 ≤ i
 ·exact ⟨7, _, 7, rfl, h, by show i < 9 + 7; omega, allI42⟩
 have : i = 0 ∨ i = 1 ∨ i = 2 ∨ i = 3 ∨ i = 4 ∨ i = 5 ∨ i = 6 ∨ i = 7 ∨ i = 8 := by omega
 rcases this with rfl | rfl | rfl | rfl | rfl | rfl | rfl | rfl | rfl
 ·exact ⟨0, _, 1, rfl, by decide, by decide, allI3⟩
 ·exact ⟨1, _, 1, rfl, by decide, by decide, allI3⟩
 ·exact ⟨2, _, 2, rfl, by decide, by decide, allI30⟩
 ·exact ⟨2, _, 2, rfl, by decide, by decide, allI30⟩
 ·exact ⟨3, _, 2, rfl, by decide, by decide, allI30⟩
 ·exact ⟨3, _, 2, rfl, by decide, by decide, allI30⟩
 ·exact ⟨4, _, 1, rfl, by decide, by decide, allI3⟩
 ·exact ⟨5, _, 1, rfl, by decide, by decide, allI3⟩
 ·exact ⟨6, _, 1, rfl, by decide, by decide, allI3⟩
end
section
variable {H : Type} {enc : TypeId × Value → H} {w : World} {base : Nat} {spare : Nat → Bool} {held : Bool}
theorem cells47 : Try.prog.cellsOf 41 = 21 := by kernel_rfl
theorem step_ints {fuel : Nat} {cs : List Value} {x : DataW H × List MemPlace} (h : DataW.trod enc Try.prog w base spare held fuel 41 cs = some x) : cs.length = 21 ∧ ∀ i, i < 18 → ∀ v, cs[i]? = some v → I64 v := by
 have cov := fun (i : Nat) (hi : i < 18) => show ∃ (j : Nat) (f : Field) (k : Nat), (#[⟨ "Do", 37, 0, false, "", "", 0⟩, ⟨ "Kind", 3, 16, false, "", "", 128⟩, ⟨ "Fuse", 3, 17, false, "", "", 136⟩, ⟨ "Keep", 39, 18, false, "", "", 144⟩, ⟨ "Spoil", 5, 19, false, "", "", 168⟩, ⟨ "Fall", 4, 20, false, "", "", 169⟩] : Array Field)[j]? = some f ∧ f.offset ≤ i ∧ i < f.offset + k ∧ AllI enc w base spare held f.type k from by
  by_cases h : i < 16
  ·exact ⟨0, _, 16, rfl, Nat.zero_le _, (by show i < 0 + 16; omega), allI44⟩
  ·by_cases h' : i < 17
   ·exact ⟨1, _, 1, rfl, (by show 16 ≤ i; omega), (by show i < 16 + 1; omega), allI3⟩
   ·exact ⟨2, _, 1, rfl, (by show 17 ≤ i; omega), (by show i < 17 + 1; omega), allI3⟩
 refine ⟨?_, fun i hi => (ints_struct Try.underlying41 h i (cov i hi)).2⟩
 have := (ints_struct Try.underlying41 h 0 (cov 0 (by omega))).1
 rw [cells47] at this
 exact this
end
open M
theorem Ints.cmd {cs : Array Value} (h : Ints cs 16) (hs : cs.size = 16) : ∃ c : Cmd, cs = cmdCells c := by
 obtain ⟨z0, z1, z2, z3, z4, z5, z6, z7, z8, z9, z10, z11, z12, z13, z14, z15, rfl⟩ := h.lits hs
 exact ⟨⟨z0, z1, z2, z3, z4, z5, z6, z7, z8, ⟨z9, z10, z11, z12, z13, z14, z15, 0⟩⟩, rfl⟩
theorem tamed_step (S : Array Value) (hs : S.size = 21) (hi : ∀ i, i < 18 → ∀ v, S[i]? = some v → I64 v) (w : World) :
  Calls Try.prog 17 #[.agg S] w fun e w' => ∃ c : Cmd, e = .returned (.agg (cmdCells c)) ∧ Mod No w w' := by
 have hx : ∀ i, i < 18 → ∃ x : Int, S[i]? = some (.int .i64 x) ∧ -9223372036854775808 ≤ x ∧ x ≤ 9223372036854775807 := fun i h => by
  have e : S[i]? = some (S[i]'(by omega)) := Array.getElem?_eq_getElem (by omega)
  obtain ⟨x, hx, hr⟩ := hi i h _ e
  exact ⟨x, by rw [e, hx], hr⟩
 obtain ⟨x0, q0, r0⟩ := hx 0 (by omega)
 obtain ⟨x1, q1, r1⟩ := hx 1 (by omega)
 obtain ⟨x2, q2, r2⟩ := hx 2 (by omega)
 obtain ⟨x3, q3, r3⟩ := hx 3 (by omega)
 obtain ⟨x4, q4, r4⟩ := hx 4 (by omega)
 obtain ⟨x5, q5, r5⟩ := hx 5 (by omega)
 obtain ⟨x6, q6, r6⟩ := hx 6 (by omega)
 obtain ⟨x7, q7, r7⟩ := hx 7 (by omega)
 obtain ⟨x8, q8, r8⟩ := hx 8 (by omega)
 obtain ⟨x9, q9, r9⟩ := hx 9 (by omega)
 obtain ⟨x10, q10, r10⟩ := hx 10 (by omega)
 obtain ⟨x11, q11, r11⟩ := hx 11 (by omega)
 obtain ⟨x12, q12, r12⟩ := hx 12 (by omega)
 obtain ⟨x13, q13, r13⟩ := hx 13 (by omega)
 obtain ⟨x14, q14, r14⟩ := hx 14 (by omega)
 obtain ⟨x15, q15, r15⟩ := hx 15 (by omega)
 obtain ⟨k, qk, rk⟩ := hx 16 (by omega)
 obtain ⟨fu, qf, rf⟩ := hx 17 (by omega)
 obtain ⟨v18, q18⟩ : ∃ v, S[18]? = some v := ⟨_, Array.getElem?_eq_getElem (by omega)⟩
 obtain ⟨v19, q19⟩ : ∃ v, S[19]? = some v := ⟨_, Array.getElem?_eq_getElem (by omega)⟩
 obtain ⟨v20, q20⟩ : ∃ v, S[20]? = some v := ⟨_, Array.getElem?_eq_getElem (by omega)⟩
 have hS : S = #[.int .i64 x0, .int .i64 x1, .int .i64 x2, .int .i64 x3, .int .i64 x4, .int .i64 x5, .int .i64 x6, .int .i64 x7, .int .i64 x8, .int .i64 x9, .int .i64 x10, .int .i64 x11, .int .i64 x12, .int .i64 x13, .int .i64 x14, .int .i64 x15, .int .i64 k, .int .i64 fu, v18, v19, v20] := by
  refine Array.ext (by rw [hs]; rfl) (fun i h1 h2 => ?_)
  have : i = 0 ∨ i = 1 ∨ i = 2 ∨ i = 3 ∨ i = 4 ∨ i = 5 ∨ i = 6 ∨ i = 7 ∨ i = 8 ∨ i = 9 ∨ i = 10 ∨ i = 11 ∨ i = 12 ∨ i = 13 ∨ i = 14 ∨ i = 15 ∨ i = 16 ∨ i = 17 ∨ i = 18 ∨ i = 19 ∨ i = 20 := by omega
  rcases this with rfl | rfl | rfl | rfl | rfl | rfl | rfl | rfl | rfl | rfl | rfl | rfl | rfl | rfl | rfl | rfl | rfl | rfl | rfl | rfl | rfl
  ·rw [Array.getElem?_eq_getElem h1] at q0; exact Option.some.inj q0
  ·rw [Array.getElem?_eq_getElem h1] at q1; exact Option.some.inj q1
  ·rw [Array.getElem?_eq_getElem h1] at q2; exact Option.some.inj q2
  ·rw [Array.getElem?_eq_getElem h1] at q3; exact Option.some.inj q3
  ·rw [Array.getElem?_eq_getElem h1] at q4; exact Option.some.inj q4
  ·rw [Array.getElem?_eq_getElem h1] at q5; exact Option.some.inj q5
  ·rw [Array.getElem?_eq_getElem h1] at q6; exact Option.some.inj q6
  ·rw [Array.getElem?_eq_getElem h1] at q7; exact Option.some.inj q7
  ·rw [Array.getElem?_eq_getElem h1] at q8; exact Option.some.inj q8
  ·rw [Array.getElem?_eq_getElem h1] at q9; exact Option.some.inj q9
  ·rw [Array.getElem?_eq_getElem h1] at q10; exact Option.some.inj q10
  ·rw [Array.getElem?_eq_getElem h1] at q11; exact Option.some.inj q11
  ·rw [Array.getElem?_eq_getElem h1] at q12; exact Option.some.inj q12
  ·rw [Array.getElem?_eq_getElem h1] at q13; exact Option.some.inj q13
  ·rw [Array.getElem?_eq_getElem h1] at q14; exact Option.some.inj q14
  ·rw [Array.getElem?_eq_getElem h1] at q15; exact Option.some.inj q15
  ·rw [Array.getElem?_eq_getElem h1] at qk; exact Option.some.inj qk
  ·rw [Array.getElem?_eq_getElem h1] at qf; exact Option.some.inj qf
  ·rw [Array.getElem?_eq_getElem h1] at q18; exact Option.some.inj q18
  ·rw [Array.getElem?_eq_getElem h1] at q19; exact Option.some.inj q19
  ·rw [Array.getElem?_eq_getElem h1] at q20; exact Option.some.inj q20
 clear hi hx hs
 subst hS
 refine (tamed_any x0 x1 x2 x3 x4 x5 x6 x7 x8 x9 x10 x11 x12 x13 x14 x15 k fu _ _ _ rk (fun i hi => ?_) w).mono ?_
 ·have : i = 0 ∨ i = 1 ∨ i = 2 ∨ i = 3 ∨ i = 4 ∨ i = 5 ∨ i = 6 ∨ i = 7 ∨ i = 8 ∨ i = 9 ∨ i = 10 ∨ i = 11 ∨ i = 12 ∨ i = 13 ∨ i = 14 ∨ i = 15 := by omega
  rcases this with rfl | rfl | rfl | rfl | rfl | rfl | rfl | rfl | rfl | rfl | rfl | rfl | rfl | rfl | rfl | rfl
  ·exact ⟨_, rfl, r0⟩
  ·exact ⟨_, rfl, r1⟩
  ·exact ⟨_, rfl, r2⟩
  ·exact ⟨_, rfl, r3⟩
  ·exact ⟨_, rfl, r4⟩
  ·exact ⟨_, rfl, r5⟩
  ·exact ⟨_, rfl, r6⟩
  ·exact ⟨_, rfl, r7⟩
  ·exact ⟨_, rfl, r8⟩
  ·exact ⟨_, rfl, r9⟩
  ·exact ⟨_, rfl, r10⟩
  ·exact ⟨_, rfl, r11⟩
  ·exact ⟨_, rfl, r12⟩
  ·exact ⟨_, rfl, r13⟩
  ·exact ⟨_, rfl, r14⟩
  ·exact ⟨_, rfl, r15⟩
 ·rintro e w' ⟨cs, rfl, h1, h2, h3⟩
  obtain ⟨c, rfl⟩ := h2.cmd h1
  exact ⟨c, rfl, h3⟩
section
variable {H : Type} {enc : TypeId × Value → H} {w : World} {spare : Nat → Bool} {held : Bool}
theorem one_cell {v x : Value} (hv : v.cells.toList = [x]) (hs : ∃ a len cap, v = .slice a len cap) : v = x := by
 obtain ⟨a, len, cap, rfl⟩ := hs
 simpa [Value.cells] using hv
end
theorem size47p : (Try.prog.info? 41).map (·.size) = some 21 := by kernel_rfl
set_option maxHeartbeats 4000000
theorem fresh_zero {w : World} {ow : Nat → Nat} {kb tb N : Nat} {now : Int} {fl : Fls} (h : KpM w ow kb now fl tb N) (k : Nat) (hk : w.heap.size ≤ k) : ow k = 0 := by
 by_cases e : ow k = 0
 ·exact e
 ·have := h.old _ e; omega
structure NewK (W w' : World) (kb g N : Nat) (now : Int) (fl : Fls) : Prop where
 keep : ∃ ow, KpM w' ow kb now fl g N ∧ ∀ k, k < W.heap.size → ow k = 0
 mod : Mod No W w'
theorem NewK.still {W w' w2 : World} {kb g N : Nat} {now : Int} {fl : Fls} (h : NewK W w' kb g N now fl) (hm : Mod No w' w2) : NewK W w2 kb g N now fl := by
 obtain ⟨ow, k1, k2⟩ := h.keep
 exact ⟨⟨ow, k1.mod hm (fun _ _ x => x), k2⟩, h.mod.trans hm⟩
theorem NewK.fresh {W w' w2 : World} {kb g N : Nat} {now : Int} {fl : Fls} (h : NewK W w' kb g N now fl) (hm : Mod (fun k => k = w'.heap.size) w' w2) : NewK W w2 kb g N now fl := by
 obtain ⟨ow, k1, k2⟩ := h.keep
 exact ⟨⟨ow, k1.mod hm (fun k hk e => by subst e; exact hk (fresh_zero k1 _ (Nat.le_refl _))), k2⟩, h.mod.trans' hm (fun j e hl => by have := h.mod.size; omega)⟩
theorem NewK.whole {W w' : World} {kb g N : Nat} {now : Int} {fl : Fls} (h : NewK W w' kb g N now fl) : Calls Try.prog 30 #[.pointer (some ⟨kb, 0, none⟩)] w' fun e w2 => e = .returned (.agg (tab (allF now fl) 15457)) ∧ Mod No w' w2 := by
 obtain ⟨ow, k1, _⟩ := h.keep
 exact whole_walk k1.toH k1.zero
theorem NewK.do {W w' : World} {kb g N : Nat} {now : Int} {fl : Fls} (h : NewK W w' kb g N now fl) (hN : N + 1 ≤ 1000000000) (c : Cmd) :
  Calls Try.prog 26 #[.pointer (some ⟨kb, 0, none⟩), .agg (cmdCells c)] w' fun e w2 => e = .returned (.int .i64 (doK now fl c).1) ∧ NewK W w2 kb g (N + 1) (doK now fl c).2.1 (doK now fl c).2.2 := by
 obtain ⟨ow, k1, k2⟩ := h.keep
 refine (kpm_do k1 hN c).mono ?_
 rintro e w2 ⟨rfl, ⟨ow', q1, q2⟩, hm⟩
 have := h.mod.size
 exact ⟨rfl, ⟨ow', q1, fun k hk => by rw [q2 k (by omega)]; exact k2 k hk⟩, h.mod.trans' hm (fun j hj hl => hj (k2 j hl))⟩
theorem copy_open {W : World} {S : Nat → Prop} {tb N : Nat} {T : TP} {now : Int} {fl : Fls} {mb : Option (Int × Fls)} (h : KpC W S tb T now fl mb N) (hneg : T.fuse < 0) :
  Calls Try.prog 32 #[.pointer (some ⟨tb, 0, none⟩)] W fun e w' => ∃ g : Nat, e = .returned (.pointer (some ⟨g, 0, none⟩)) ∧ Mod No W w' ∧ ∃ nw fw, ((nw = now ∧ fw = fl) ∨ mb = some (nw, fw)) ∧
   Calls Try.prog 33 #[.pointer (some ⟨g, 0, none⟩)] w' fun e2 w2 => ∃ kb, e2 = .returned (.tuple #[.pointer (some ⟨kb, 0, none⟩), .int .i64 0]) ∧ NewK W w2 kb g N nw fw := by
 refine (kp_copy h).mono ?_
 rintro e w' ⟨g, rfl, hm, hg, hg2, hc⟩
 have hk := kp_open hc (fun k hk => by
  by_cases q : W.heap.size ≤ k ∧ k < w'.heap.size
  ·exact q.2
  ·have : (if W.heap.size ≤ k ∧ k < w'.heap.size then 30 else 0) = 30 := hk
   rw [if_neg q] at this
   cases this) hneg
 obtain ⟨nw, fw, hw, hk⟩ := hk
 refine ⟨g, rfl, hm, nw, fw, hw, hk.mono ?_⟩
 rintro e2 w2 ⟨kb, rfl, _, ⟨ow, K, k1, k2, k3, k4⟩, k5, k6⟩
 refine ⟨kb, rfl, ⟨ow, ⟨K, k1, k3, k4⟩, fun k hk => ?_⟩, hm.trans' k6 (fun j hj hl => ?_)⟩
 ·rw [k2 k (by have := hm.size; omega), if_neg]
  rw [if_neg (by omega)]
  omega
 ·have hj : (if W.heap.size ≤ j ∧ j < w'.heap.size then 30 else 0) = 30 := hj
  rw [if_neg (by omega)] at hj
  cases hj
theorem quiet_loadA {P : Program} {C : World → Prop} {a : Act} {o : Oper} {K : Act → Prop} (ty : TypeId) (x : Operand) (ho : o.op = .load ty x) (b off : Nat) (hx : a.eval x = .pointer (some ⟨b, off, none⟩)) (v : Value)
  (hl : ∀ w, C w → (loadVar ty ⟨b, off, none⟩).run P w = .ok v w) (hk : K (a.put o.dst v)) : o.quiet P a C K :=
 ⟨v, fun w hw => by
  unfold Oper.quietAt execOp
  simp only [ho, hx, Instr.loadAt, Instr.sureAddr, Sem.run_bind, Sem.run_pure, Result.andThen_ok, hl w hw]
  exact ⟨rfl, rfl⟩, hk⟩
attribute [local go_sem] guardA
theorem load_wd {w0 : World} {b : Nat} {cz : Array Value} (h : Has w0 b cz 85) (hs : cz.size = 15457) (x : Wd w0) : (loadVar 85 ⟨b, 0, none⟩).run Try.prog x.W = .ok (.agg cz) x.W := by
 have hu := rowA
 cases hd : Try.prog.underlying 85 with
 | none => rw [hd] at hu; cases hu
 | some d =>
  rw [hd] at hu
  have hl := run_loadVar_mid (P := Try.prog) x.W b 0 85 cz.toList d ((x.h.has h (fun z => z)).range 0 _ (fun j v hv => by rw [Nat.zero_add]; simpa using hv)) hd (by simpa using hu) (by rw [Array.length_toList, hs]; exact sizeA)
  rw [show cz.toList.toArray = cz from by simp] at hl
  exact hl
open Go.ChangeShapes Go.WideShapes Go.ChangeAt
structure StepR (w : World) (S : Array Value) : Prop where
 ex : ∃ (kind fuse sp : Int) (fall : Bool) (keep : List Int) (ka : Option Addr) (kc : Nat),
  S[16]? = some (.int .i64 kind) ∧ (-9223372036854775808 ≤ kind ∧ kind ≤ 9223372036854775807) ∧ S[17]? = some (.int .i64 fuse) ∧ (-9223372036854775808 ≤ fuse ∧ fuse ≤ 9223372036854775807) ∧
  S[18]? = some (.slice ka keep.length kc) ∧ S[19]? = some (.int .u8 sp) ∧ S[20]? = some (.bool fall) ∧ keep.length ≤ 9223372036854775807 ∧
  Reads w (.slice ka keep.length kc) keep.length (keep.map (Value.int .i64)) ∧ (0 < keep.length → ∀ k, (Value.slice ka keep.length kc).ownBlock = some k → k < w.heap.size)
section
variable {H : Type} {enc : TypeId × Value → H} {w : World} {base : Nat} {spare : Nat → Bool} {held : Bool}
theorem one_of {cs : List Value} {o : Nat} {v : Value} (h : (cs.drop o).take 1 = [v]) : cs[o]? = some v := by
 have : ((cs.drop o).take 1)[0]? = some v := by rw [h]; rfl
 rw [List.getElem?_take, if_pos (by omega), List.getElem?_drop] at this
 simpa using this
theorem cell_lt {w : World} {a : Addr} {v : Value} (h : w.cell? a = some v) : a.block < w.heap.size := by
 unfold World.cell? at h
 cases hh : w.heap[a.block]? with
 | none =>
  exfalso
  simp only [hh] at h
  cases h
 | some o => exact (Array.getElem?_eq_some_iff.1 hh).1
theorem step_rest {fuel : Nat} {cs : List Value} {x : DataW H × List MemPlace} (h : DataW.trod enc Try.prog w base spare held fuel 41 cs = some x) : StepR w cs.toArray := by
 obtain ⟨xs, n, _, _, hl, hx, hf⟩ := DataW.trod_struct Try.underlying41 h
 have hx6 : xs.length = 6 := hx
 have c1 : Try.prog.cellsOf 3 = 1 := by kernel_rfl
 have c39 : Try.prog.cellsOf 39 = 1 := by kernel_rfl
 have c5 : Try.prog.cellsOf 5 = 1 := by kernel_rfl
 have c4 : Try.prog.cellsOf 4 = 1 := by kernel_rfl
 have f1 : DataW.trod enc Try.prog w base spare held n 3 ((cs.drop 16).take (Try.prog.cellsOf 3)) = xs[1]? := hf 1 _ rfl
 have f2 : DataW.trod enc Try.prog w base spare held n 3 ((cs.drop 17).take (Try.prog.cellsOf 3)) = xs[2]? := hf 2 _ rfl
 have f3 : DataW.trod enc Try.prog w base spare held n 39 ((cs.drop 18).take (Try.prog.cellsOf 39)) = xs[3]? := hf 3 _ rfl
 have f4 : DataW.trod enc Try.prog w base spare held n 5 ((cs.drop 19).take (Try.prog.cellsOf 5)) = xs[4]? := hf 4 _ rfl
 have f5 : DataW.trod enc Try.prog w base spare held n 4 ((cs.drop 20).take (Try.prog.cellsOf 4)) = xs[5]? := hf 5 _ rfl
 rw [List.getElem?_eq_getElem (by omega)] at f1 f2 f3 f4 f5
 obtain ⟨kind, k1, _, k2⟩ := DataW.trod_int Try.underlying3 f1
 obtain ⟨fuse, u1, _, u2⟩ := DataW.trod_int Try.underlying3 f2
 obtain ⟨sp, p1, _, p2⟩ := DataW.trod_int Try.underlying5 f4
 obtain ⟨fall, b1, _⟩ := DataW.trod_bool Try.underlying4 f5
 rw [c1] at k1 u1
 rw [c5] at p1
 rw [c4] at b1
 have k1 := one_of k1
 have u1 := one_of u1
 have p1 := one_of p1
 have b1 := one_of b1
 have ks := bounds_i64 k2
 have us := bounds_i64 u2
 rcases open_ints Try.underlying39 Try.underlying3 c1 f3 with ⟨hv, _⟩ | ⟨a, len, cap, zs, hv, hb, hlc, hm, hz, _, hc, hw⟩
 ·rw [c39] at hv
  exact ⟨kind, fuse, sp, fall, [], none, 0, by simpa using k1, ks, by simpa using u1, us, by simpa using one_of hv, by simpa using p1, by simpa using b1, by simp, .inl ⟨rfl, rfl⟩, fun h => by simp at h⟩
 ·rw [c39] at hv
  have hlz : len ≤ zs.length := by rw [hz]; split <;> omega
  have hlen : (zs.take len).length = len := by rw [List.length_take]; omega
  refine ⟨kind, fuse, sp, fall, zs.take len, some a, cap, by simpa using k1, ks, by simpa using u1, us, ?_, by simpa using p1, by simpa using b1, ?_, ?_, ?_⟩
  ·rw [hlen]; simpa using one_of hv
  ·rw [hlen]; unfold maxLen at hm; omega
  ·refine .inr ⟨a, cap, rfl, fun j u hu => ?_⟩
   rw [List.getElem?_map] at hu
   cases hg : (zs.take len)[j]? with
   | none => rw [hg] at hu; cases hu
   | some z =>
    rw [hg] at hu
    have hjl := (List.getElem?_eq_some_iff.1 hg).1
    rw [hlen] at hjl
    rw [List.getElem?_take, if_pos hjl] at hg
    rw [hc j (by omega), List.getD_eq_getElem?_getD, hg]
    exact hu
  ·intro h k hk
   rw [hlen] at h
   have := cell_lt (hc 0 (by omega))
   have e : (a.add 0).block = a.block := by unfold Addr.add; split <;> rfl
   rw [e] at this
   simp [Value.ownBlock] at hk
   omega
end
def KScript (w : World) (a : Option Addr) (n : Nat) : Prop := ∀ i, i < n → ∃ (b off : Nat) (S : Array Value), a = some ⟨b, off, none⟩ ∧ S.size = 21 ∧ w.rangeAt b (off + i * 21) S.toList ∧
 (∀ W, Calls Try.prog 17 #[.agg S] W fun e w' => ∃ c : Cmd, e = .returned (.agg (cmdCells c)) ∧ Mod No W w') ∧ StepR w S ∧ b < w.heap.size
section
variable {H : Type} {enc : TypeId × Value → H} {w : World} {spare : Nat → Bool} {held : Bool}
theorem open_kscript {v : Value} {d : DataW H} {ps : List MemPlace} (hs : ∃ a len cap, v = .slice a len cap) (h : DataW.Trod enc Try.prog w 0 spare held 23 v d ps) :
  ∃ a n cap, v = .slice a n cap ∧ KScript w a n ∧ (d = .nil ∧ n = 0 ∨ ∃ es sp, d = .slice es sp ∧ es.length = n) := by
 obtain ⟨fuel, h⟩ := h
 rcases DataW.trod_slice Try.underlying23 h with ⟨hv, hx⟩ | ⟨a, len, cap, elems, rest, n, _, hv, hx, hb, hl, hm, hlen, hel, hsp, hns⟩
 ·refine ⟨none, 0, 0, ?_, fun i hi => absurd hi (Nat.not_lt_zero _), .inl ⟨congrArg Prod.fst hx, rfl⟩⟩
  exact one_cell hv hs
 ·refine ⟨some a, len, cap, one_cell hv hs, fun i hi => ?_, .inr ⟨_, _, congrArg Prod.fst hx, by simpa using hlen⟩⟩
  have key := hel i hi
  rw [List.getElem?_eq_getElem (by omega), cells47] at key
  obtain ⟨cs, h1, h2⟩ := Option.bind_eq_some_iff.1 key
  obtain ⟨_, hlen2, hc⟩ := World.cells?_some h1
  obtain ⟨h3, h4⟩ := step_ints h2
  have hst := step_rest h2
  obtain ⟨b, off, sp⟩ := a
  have hspot : sp = none := by
   have key0 := hel 0 (by omega)
   rw [List.getElem?_eq_getElem (by omega), cells47] at key0
   obtain ⟨cs0, k1, k2⟩ := Option.bind_eq_some_iff.1 key0
   obtain ⟨_, l0, c0⟩ := World.cells?_some k1
   have h0 := c0 0 (by omega)
   rw [List.getElem?_eq_getElem (by omega)] at h0
   have e0 : ((⟨b, off, sp⟩ : Addr).add (0 * 21)).add 0 = ⟨b, off, sp⟩ := by simp [Addr.add]
   rw [e0] at h0
   unfold World.cell? at h0
   cases sp with
   | none => rfl
   | some q =>
    exfalso
    simp at h0
    split at h0 <;> simp at h0
  subst hspot
  refine ⟨b, off, cs.toArray, rfl, by simpa using h3, fun j v hj => ?_, fun W => tamed_step _ (by simpa using h3) (fun j hj v hv => h4 j hj v (by simpa using hv)) W, hst, ?_⟩
  case refine_2 =>
   have h0 := hc 0 (by omega)
   rw [List.getElem?_eq_getElem (by omega)] at h0
   have := cell_lt h0
   rw [Addr.add_mid, Addr.add_mid] at this
   exact this
  have hj' : cs[j]? = some v := by simpa using hj
  have hjl := (List.getElem?_eq_some_iff.1 hj').1
  have := hc j (by omega)
  rw [Addr.add_mid, Addr.add_mid, hj'] at this
  exact this
end
theorem kp_fuse {w : World} {ow : Nat → Nat} {kb N : Nat} {now : Int} {fl : Fls} {K : KS} (h : KpL w ow kb now fl K N) (n : Int) (hn : -9223372036854775808 ≤ n ∧ n ≤ 9223372036854775807) :
  Calls Try.prog 34 #[.pointer (some ⟨K.tb, 0, none⟩), .int .i64 n] w fun e w' => e = .returned (.tuple #[]) ∧ Mod (fun k => ow k ≠ 0) w w' ∧ ∃ (ow' : Nat → Nat) (K' : KS), KpL w' ow' kb now fl K' N ∧ (∀ k, k < w.heap.size → ow' k = ow k) ∧ K'.tb = K.tb := by
 obtain ⟨⟨pt, h1⟩, h2, h3, h4, h5, h6⟩ := h
 have hb : ow K.tb = 30 := h1.tape.inn
 have hkb := h1.keep.mine
 refine (fuse_t h1.tape n hn).mono ?_
 rintro e w' ⟨rfl, q1, q2⟩
 have hne : kb ≠ K.tb := fun e => by rw [e] at hkb; omega
 obtain ⟨p1, p2, p3⟩ := h1.laid (n := w.heap.size) (e := 0) (Nat.le_refl _) q2.size h2 (q1.wide (fun k hk => .inl hk)) (by rw [if_neg (by omega)]; exact q2.has h1.keep.has hne) (q2.mono (fun k _ e => .inl (by subst e; exact hb)))
 exact ⟨rfl, p3, _, _, ⟨⟨_, p1⟩, rfl, h3.fuse n, h4, h5, h6⟩, p2, rfl⟩
theorem kp_sync {w : World} {S : Nat → Prop} {tb N : Nat} {T : TP} {now : Int} {fl : Fls} {mb : Option (Int × Fls)} (h : KpC w S tb T now fl mb N) (hf : T.fuse = 0) :
  Calls Try.prog 35 #[.pointer (some ⟨tb, 0, none⟩), .int .i64 3] w fun e w' => e = .returned (.bool false) ∧ KpC w' S tb T now fl mb N ∧ Mod (· = tb) w w' := by
 refine (sync_t h.tape 3 (by omega)).mono ?_
 rintro e w' ⟨rfl, q1, q2⟩
 have hs : syncP T 3 = (false, T) := by unfold syncP; rw [if_pos hf]
 rw [hs] at q1 ⊢
 exact ⟨rfl, ⟨q1, h.disk, h.ok, h.may, h.room, h.few⟩, q2⟩
theorem kp_fall0 {w : World} {S : Nat → Prop} {tb N : Nat} {T : TP} {now : Int} {fl : Fls} {mb : Option (Int × Fls)} (h : KpC w S tb T now fl mb N) :
  Calls Try.prog 31 #[.pointer (some ⟨tb, 0, none⟩), .slice none 0 0, .int .u8 0] w fun e w' => e = .returned (.tuple #[]) ∧ Mod S w w' ∧ ∃ T', KpC w' S tb T' now fl mb N ∧ T'.fuse < 0 :=
 kp_fall h [] 0 none 0 (by simp) (.inl ⟨rfl, rfl⟩) (fun h => by simp at h)
theorem dead_other {W : World} {S : Nat → Prop} {tb N : Nat} {T : TP} {now : Int} {fl : Fls} {mb : Option (Int × Fls)} (h : KpC W S tb T now fl mb N) :
  Calls Try.prog 32 #[.pointer (some ⟨tb, 0, none⟩)] W fun e w1 => ∃ g : Nat, e = .returned (.pointer (some ⟨g, 0, none⟩)) ∧ Mod No W w1 ∧
   Calls Try.prog 31 #[.pointer (some ⟨g, 0, none⟩), .slice none 0 0, .int .u8 0] w1 fun e2 w2 => e2 = .returned (.tuple #[]) ∧ Mod No W w2 ∧ ∃ nw fw, ((nw = now ∧ fw = fl) ∨ mb = some (nw, fw)) ∧
    Calls Try.prog 33 #[.pointer (some ⟨g, 0, none⟩)] w2 fun e3 w3 => ∃ kb, e3 = .returned (.tuple #[.pointer (some ⟨kb, 0, none⟩), .int .i64 0]) ∧ NewK W w3 kb g N nw fw := by
 refine (kp_copy h).mono ?_
 rintro e w1 ⟨g, rfl, hm, hg, hg2, hc⟩
 have hsw : ∀ k, (if W.heap.size ≤ k ∧ k < w1.heap.size then 30 else 0) = 30 → W.heap.size ≤ k ∧ k < w1.heap.size := fun k hk => by
  by_cases q : W.heap.size ≤ k ∧ k < w1.heap.size
  ·exact q
  ·rw [if_neg q] at hk
   cases hk
 refine ⟨g, rfl, hm, (kp_fall0 hc).mono ?_⟩
 rintro e2 w2 ⟨rfl, hm2, T', hc2, hneg⟩
 have hm3 : Mod No W w2 := hm.trans' hm2 (fun j hj hl => by have := hsw j hj; omega)
 obtain ⟨nw, fw, hw, hk⟩ := kp_open hc2 (fun k hk => Nat.lt_of_lt_of_le (hsw k hk).2 hm2.size) hneg
 refine ⟨rfl, hm3, nw, fw, hw, hk.mono ?_⟩
 rintro e3 w3 ⟨kb, rfl, _, ⟨ow, K, k1, k2, k3, k4⟩, k5, k6⟩
 refine ⟨kb, rfl, ⟨ow, ⟨K, k1, k3, k4⟩, fun k hk => ?_⟩, hm3.trans' k6 (fun j hj hl => by have := hsw j hj; omega)⟩
 rw [k2 k (by have := hm3.size; omega), if_neg]
 exact fun q => by have := hsw k q; omega
theorem doK_same {now : Int} {fl : Fls} {c : Cmd} (h : (doK now fl c).1 ≠ 0) : (doK now fl c).2 = (now, fl) := by
 unfold doK at h ⊢
 repeat' split
 all_goals first | rfl | (exfalso; simp_all; done)
def allA (now : Int) (fl : Fls) : Array Value := tab (allF now fl) 15457
theorem allA_size (now : Int) (fl : Fls) : (allA now fl).size = 15457 := tab_size _ _
theorem allA_one (now : Int) (fl : Fls) : (allA now fl).all (·.oneCell') = true := tab_one _ _
theorem allA_eq (now now' : Int) (fl fl' : Fls) : ∃ r : Bool, (∀ w, (binOp .eql 85 (.agg (allA now fl)) (.agg (allA now' fl'))).run Try.prog w = .ok (.bool r) w) ∧ (r = true ↔ allA now fl = allA now' fl') := by
 classical
 refine ⟨decide (allA now fl = allA now' fl'), fun w => ?_, by simp⟩
 obtain ⟨r, q1, q2⟩ := all_eq (allF now fl) (allF now' fl') w
 have : r = decide (allA now fl = allA now' fl') := by
  cases r with
  | true => exact (decide_eq_true (q2.1 rfl)).symm
  | false =>
   refine (decide_eq_false (fun e => ?_)).symm
   have := q2.2 e
   cases this
 rw [← this]
 exact q1
def AfterOk (A0 A1 A : Array Value) : Prop := A = A1 ∨ A0 = A1
theorem AfterOk.met {A0 A1 A Z : Array Value} (h : AfterOk A0 A1 A) (hz : Z = A0 ∨ Z = A1) : Z = A ∨ Z = A0 := by
 rcases hz with rfl | rfl
 ·exact .inr rfl
 ·rcases h with rfl | rfl
  ·exact .inl rfl
  ·exact .inr rfl
theorem AfterOk.other {A0 A1 X : Array Value} (hx : X = A0 ∨ X = A1) (hne : X ≠ A0) : AfterOk A0 A1 X := .inl (hx.resolve_left hne)
theorem AfterOk.again {now n1 nw : Int} {fl f1 fw : Fls} {c : Cmd} (hd : (doK now fl c).2 = (n1, f1)) (hw : (nw = now ∧ fw = fl) ∨ (nw = n1 ∧ fw = f1)) (he : allA nw fw = allA now fl) : AfterOk (allA now fl) (allA n1 f1) (allA (doK nw fw c).2.1 (doK nw fw c).2.2) := by
 rcases hw with ⟨rfl, rfl⟩ | ⟨rfl, rfl⟩
 ·rw [hd]
  exact .inl rfl
 ·exact .inr he.symm
end Go.Proofs.Ythhibagcpjeihaa
