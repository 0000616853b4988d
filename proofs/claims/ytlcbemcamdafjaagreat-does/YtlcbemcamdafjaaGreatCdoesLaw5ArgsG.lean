import Derived.Test.YtlcbemcamdafjaaGreatCdoesLaw3Law4
import Derived.Test.YtlcbemcamdafjaaGreatCdoesBaseModel
import Derived.Deep.MidRow
import Derived.Deep.Slices
import Derived.OpenShut
import Derived.SizedLaws
/- A question is asked of both. -/
namespace Go.Proofs.YtlcbemcamdafjaaGreat
open Go.RowKit
open M
set_option linter.unusedVariables false
set_option linter.unusedSimpArgs false
set_option maxRecDepth 100000
set_option maxHeartbeats 4000000

/-- A step of a script: its kind, and its numbers. -/
structure OpV (S : Array Value) (k b c : Int) : Prop where
  size : S.size = 25
  k0 : S[0]? = some (.int .i64 k)
  b2 : S[2]? = some (.int .i64 b)
  c3 : S[3]? = some (.int .i64 c)

theorem asked_now {w : World} {O : Nat → Prop} {ob yb : Nat} {I : OneI} (h : OneX w O ob I) {S : Array Value} {b c : Int} (hS : OpV S 3 b c) :
    Calls Tryz.prog 17 #[.pointer (some ⟨yb, 0, none⟩), .pointer (some ⟨ob, 0, none⟩), .agg S] w fun e w' => e = .returned (.bool true) ∧ Mod No w w' := by
  have B0 := Has.new w S 45
  have b0 : (w.alloc (.cells S 45)).cell? ⟨w.heap.size, 0, none⟩ = some (.int .i64 3) := (B0.cell 0).trans hS.k0
  have M0 := hide ((Mod.refl No w).alloc (.cells S 45))
  have h0 := h.mod (unhide M0) (fun _ _ x => x)
  obtain ⟨pt, hk⟩ := h0.keep
  have HN := hide fun n => now_any (hk.mod ((Mod.refl No (w.alloc (.cells S 45))).drewN n) (fun _ _ x => x))
  have c1 : (w.alloc (.cells S 45)).cell? ⟨ob, 1, none⟩ = some (.pointer (some ⟨I.kb, 0, none⟩)) := h0.has.cell 1
  have c2 : (w.alloc (.cells S 45)).cell? ⟨ob, 2, none⟩ = some (.pointer (some ⟨I.wb, 0, none⟩)) := h0.has.cell 2
  have v1 : (w.alloc (.cells S 45)).cell? ⟨I.wb, 1, none⟩ = some (.int .i64 I.now) := h0.wor.has.cell 1
  have l1 := h0.has.lt
  have l2 := h0.wor.has.lt
  have bl := B0.lt
  clear h h0 hk B0 hS
  go_enter Tryz.func17, Tryz.ntmps17
  go_wp2_with fail
  go_quiet ((go_at_call 32; exact Calls.quiet_of_same ((unhide HN) _)))
  go_wp2
  go_ret
  exact ⟨rfl, (unhide M0).drewN _⟩

theorem asked_left {w : World} {O : Nat → Prop} {ob yb : Nat} {I : OneI} (h : OneX w O ob I) {S : Array Value} {b c : Int} (hS : OpV S 4 b c) :
    Calls Tryz.prog 17 #[.pointer (some ⟨yb, 0, none⟩), .pointer (some ⟨ob, 0, none⟩), .agg S] w fun e w' => e = .returned (.bool true) ∧ Mod No w w' := by
  have M0 := (Mod.refl No w).alloc (.cells S 45)
  have h0 := h.mod M0 (fun _ _ x => x)
  have HH := hide fun W (hW : Mod No (w.alloc (.cells S 45)) W) => h0.mod hW (fun _ _ x => x)
  have B0 := Has.new w S 45
  have bk := (B0.cell 0).trans hS.k0
  have BX := hide fun W (hW : Mod No (w.alloc (.cells S 45)) W) => (show (W.cell? ⟨w.heap.size, 2, none⟩ = some (.int .i64 b) ∧ W.cell? ⟨w.heap.size, 3, none⟩ = some (.int .i64 c)) ∧ w.heap.size < W.heap.size from
    ⟨⟨((hW.has B0 (fun x => x)).cell 2).trans hS.b2, ((hW.has B0 (fun x => x)).cell 3).trans hS.c3⟩, (hW.has B0 (fun x => x)).lt⟩)
  have MW := hide fun W (hW : Mod No (w.alloc (.cells S 45)) W) => M0.trans hW
  have bl := B0.lt
  clear h h0 hS M0 B0
  generalize hL : leftK I.fl b c = L at *
  have HL := hide hL
  clear hL
  go_enter Tryz.func17, Tryz.ntmps17
  go_upto_region 5 with fail
  generalize w.alloc (.cells S 45) = w1 at *
  generalize w.heap.size = bb at *
  have c1 : w1.cell? ⟨ob, 1, none⟩ = some (.pointer (some ⟨I.kb, 0, none⟩)) := ((unhide HH) _ (Mod.refl _ _)).has.cell 1
  have ol := ((unhide HH) _ (Mod.refl _ _)).has.lt
  obtain ⟨⟨b2, b3⟩, _⟩ := (unhide BX) _ (Mod.refl _ _)
  have HC := hide (left_any ((unhide HH) _ (Mod.refl _ w1).drew).keep b c)
  rw [unhide HL] at HC
  go_cut [7, 8] (fun s7 s8 wx => s7 = .int .i64 L.1 ∧ s8 = .int .i64 L.2 ∧ Hid (Mod No w1 wx))
  case first =>
    go_region_law (refine step_call rfl 33 _ _ rfl #[.pointer (some ⟨I.kb, 0, none⟩), .int .i64 b, .int .i64 c] (by simp [Act.eval, Act.put]) (fun W => by kernel_rfl) (.tuple #[.int .i64 L.1, .int .i64 L.2]) _ (unhide HC) ?_; intro w5 hm5)
    all_goals go_wp2
    all_goals go_meet
    all_goals exact ⟨rfl, rfl, (Mod.refl No w1).drew.trans hm5⟩
  case rest =>
    obtain ⟨rfl, rfl, M2⟩ := hcut
    apply_assumption
    clear c1 ol b2 b3 HC bk
    have c2 : wc.cell? ⟨ob, 2, none⟩ = some (.pointer (some ⟨I.wb, 0, none⟩)) := ((unhide HH) _ (unhide M2)).has.cell 2
    have ol := ((unhide HH) _ (unhide M2)).has.lt
    obtain ⟨⟨b2, b3⟩, bl2⟩ := (unhide BX) _ (unhide M2)
    have HC := hide (wleft_all ((unhide HH) _ (unhide M2).drew).wor ((unhide HH) _ (unhide M2)).same b c)
    rw [unhide HL] at HC
    have MC := hide (unhide M2).drew
    go_upto_region 6 with fail
    go_cut [9, 10] (fun s7 s8 wx => s7 = .int .i64 L.1 ∧ s8 = .int .i64 L.2 ∧ Hid (Mod No w1 wx))
    case first =>
      go_region_law (refine step_call rfl 34 _ _ rfl #[.pointer (some ⟨I.wb, 0, none⟩), .int .i64 b, .int .i64 c] (by simp [Act.eval, Act.put]) (fun W => by kernel_rfl) (.tuple #[.int .i64 L.1, .int .i64 L.2]) _ (unhide HC) ?_; intro w5 hm5)
      all_goals go_wp2
      all_goals go_meet
      all_goals exact ⟨rfl, rfl, (unhide MC).trans hm5⟩
    case rest =>
      obtain ⟨rfl, rfl, M3⟩ := hcut
      apply_assumption
      have FIN := hide ((unhide MW) _ (unhide M3))
      have q1 : (L.1 == L.1) = true := by simp
      have q2 : (L.2 == L.2) = true := by simp
      clear c2 ol b2 b3 HC HH BX MW
      go_wp2
      go_ret
      exact ⟨rfl, unhide FIN⟩

end Go.Proofs.YtlcbemcamdafjaaGreat
/- The counts are asked of both. -/
namespace Go.Proofs.YtlcbemcamdafjaaGreat
open Go.RowKit
open M
set_option linter.unusedVariables false
set_option linter.unusedSimpArgs false
set_option maxRecDepth 100000
set_option maxHeartbeats 4000000

theorem asked_count {w : World} {O : Nat → Prop} {ob yb : Nat} {I : OneI} (h : OneX w O ob I) {S : Array Value} {b c : Int} (hS : OpV S 5 b c) :
    Calls Tryz.prog 17 #[.pointer (some ⟨yb, 0, none⟩), .pointer (some ⟨ob, 0, none⟩), .agg S] w fun e w' => e = .returned (.bool true) ∧ Mod No w w' := by
  have M0 := (Mod.refl No w).alloc (.cells S 45)
  have h0 := h.mod M0 (fun _ _ x => x)
  have HH := hide fun W (hW : Mod No (w.alloc (.cells S 45)) W) => h0.mod hW (fun _ _ x => x)
  have B0 := Has.new w S 45
  have bk := (B0.cell 0).trans hS.k0
  have BX := hide fun W (hW : Mod No (w.alloc (.cells S 45)) W) => (show W.cell? ⟨w.heap.size, 2, none⟩ = some (.int .i64 b) ∧ w.heap.size < W.heap.size from
    ⟨((hW.has B0 (fun x => x)).cell 2).trans hS.b2, (hW.has B0 (fun x => x)).lt⟩)
  have MW := hide fun W (hW : Mod No (w.alloc (.cells S 45)) W) => M0.trans hW
  have bl := B0.lt
  clear h h0 hS M0 B0
  obtain ⟨ca, cb, cs, hT⟩ := countK_tF I.fl b
  have HT := hide hT
  generalize hE : (countK I.fl b).2 = er at *
  have HE := hide hE
  clear hT hE
  go_enter Tryz.func17, Tryz.ntmps17
  go_upto_region 9 with fail
  generalize w.alloc (.cells S 45) = w1 at *
  generalize w.heap.size = bb at *
  have c1 : w1.cell? ⟨ob, 1, none⟩ = some (.pointer (some ⟨I.kb, 0, none⟩)) := ((unhide HH) _ (Mod.refl _ _)).has.cell 1
  have ol := ((unhide HH) _ (Mod.refl _ _)).has.lt
  obtain ⟨b2, _⟩ := (unhide BX) _ (Mod.refl _ _)
  have HC := hide fun W (hW : Mod No w1 W) => count_any ((unhide HH) _ hW).keep b
  have HX := hide fun W (hW : Mod No w1 W) => wcount_all ((unhide HH) _ hW).wor ((unhide HH) _ hW).same b
  rw [unhide HT, unhide HE] at HC HX
  unfold tF at HC HX
  go_cut [11, 12] (fun s7 s8 wx => ∃ g, s7 = .pointer (some ⟨g, 0, none⟩) ∧ s8 = .int .i64 er ∧ Hid (TotB w1 wx g ca cb cs))
  case first =>
    have R1 := hide (Mod.refl No w1)
    go_region_law (first
      | (refine step_call rfl 35 _ _ rfl #[.pointer (some ⟨I.kb, 0, none⟩), .int .i64 b] (by simp [Act.eval, Act.put]) (fun W => by kernel_rfl) (.tuple #[.agg #[.int .i64 (ca 0), .int .i64 (ca 1), .int .i64 (ca 2), .int .i64 (ca 3), .int .i64 (cb 0), .int .i64 (cb 1), .int .i64 (cb 2), .int .i64 (cb 3), .int .i64 (cs 0), .int .i64 (cs 1), .int .i64 (cs 2), .int .i64 (cs 3)], .int .i64 er]) _ ((unhide HC) w1.drew (unhide R1).drew) ?_; intro w5 hm5)
      | (refine step_call rfl 35 _ _ rfl #[.pointer (some ⟨I.kb, 0, none⟩), .int .i64 b] (by simp [Act.eval, Act.put]) (fun W => by kernel_rfl) (.tuple #[.agg #[.int .i64 (ca 0), .int .i64 (ca 1), .int .i64 (ca 2), .int .i64 (ca 3), .int .i64 (cb 0), .int .i64 (cb 1), .int .i64 (cb 2), .int .i64 (cb 3), .int .i64 (cs 0), .int .i64 (cs 1), .int .i64 (cs 2), .int .i64 (cs 3)], .int .i64 er]) _ ((unhide HC) _ ((unhide R1).alloc _).drew) ?_; intro w5 hm5; have zz := (hm5.has (show Has (w1.alloc (.cells #[.int .i64 0, .int .i64 0, .int .i64 0, .int .i64 0, .int .i64 0, .int .i64 0, .int .i64 0, .int .i64 0, .int .i64 0, .int .i64 0, .int .i64 0, .int .i64 0] 91)).drew w1.heap.size #[.int .i64 0, .int .i64 0, .int .i64 0, .int .i64 0, .int .i64 0, .int .i64 0, .int .i64 0, .int .i64 0, .int .i64 0, .int .i64 0, .int .i64 0, .int .i64 0] 91 from (Has.new _ _ _).drew) (fun x => x)); have zc := zz.cell; have zf := zz.frozen; have zl := zz.lt; clear zz))
    all_goals go_wp2
    all_goals go_meet
    all_goals first
      | with_reducible exact ⟨_, rfl, rfl, hide (TotB.one (unhide R1) hm5)⟩
      | with_reducible exact ⟨_, rfl, rfl, hide (TotB.two (unhide R1) hm5)⟩
  case rest =>
    obtain ⟨g, rfl, rfl, T2⟩ := hcut
    apply_assumption
    have HX2 := hide fun W (hW : Mod No wc W) => (unhide HX) W ((unhide T2).mod.trans hW)
    have c2 : wc.cell? ⟨ob, 2, none⟩ = some (.pointer (some ⟨I.wb, 0, none⟩)) := ((unhide HH) _ (unhide T2).mod).has.cell 2
    have ol2 := ((unhide HH) _ (unhide T2).mod).has.lt
    obtain ⟨b22, bl22⟩ := (unhide BX) _ (unhide T2).mod
    clear c1 ol b2 HC HX bk
    go_upto_region 10 with fail
    go_cut [13, 14] (fun s7 s8 wx => ∃ g2, s7 = .pointer (some ⟨g2, 0, none⟩) ∧ s8 = .int .i64 er ∧ Hid (TotB wc wx g2 ca cb cs))
    case first =>
      have R1 := hide (Mod.refl No wc)
      go_region_law (first
        | (refine step_call rfl 36 _ _ rfl #[.pointer (some ⟨I.wb, 0, none⟩), .int .i64 b] (by simp [Act.eval, Act.put]) (fun W => by kernel_rfl) (.tuple #[.agg #[.int .i64 (ca 0), .int .i64 (ca 1), .int .i64 (ca 2), .int .i64 (ca 3), .int .i64 (cb 0), .int .i64 (cb 1), .int .i64 (cb 2), .int .i64 (cb 3), .int .i64 (cs 0), .int .i64 (cs 1), .int .i64 (cs 2), .int .i64 (cs 3)], .int .i64 er]) _ ((unhide HX2) wc.drew (unhide R1).drew) ?_; intro w5 hm5)
        | (refine step_call rfl 36 _ _ rfl #[.pointer (some ⟨I.wb, 0, none⟩), .int .i64 b] (by simp [Act.eval, Act.put]) (fun W => by kernel_rfl) (.tuple #[.agg #[.int .i64 (ca 0), .int .i64 (ca 1), .int .i64 (ca 2), .int .i64 (ca 3), .int .i64 (cb 0), .int .i64 (cb 1), .int .i64 (cb 2), .int .i64 (cb 3), .int .i64 (cs 0), .int .i64 (cs 1), .int .i64 (cs 2), .int .i64 (cs 3)], .int .i64 er]) _ ((unhide HX2) _ ((unhide R1).alloc _).drew) ?_; intro w5 hm5; have zz := (hm5.has (show Has (wc.alloc (.cells #[.int .i64 0, .int .i64 0, .int .i64 0, .int .i64 0, .int .i64 0, .int .i64 0, .int .i64 0, .int .i64 0, .int .i64 0, .int .i64 0, .int .i64 0, .int .i64 0] 91)).drew wc.heap.size #[.int .i64 0, .int .i64 0, .int .i64 0, .int .i64 0, .int .i64 0, .int .i64 0, .int .i64 0, .int .i64 0, .int .i64 0, .int .i64 0, .int .i64 0, .int .i64 0] 91 from (Has.new _ _ _).drew) (fun x => x)); have zc := zz.cell; have zf := zz.frozen; have zl := zz.lt; clear zz))
      all_goals go_wp2
      all_goals go_meet
      all_goals first
        | with_reducible exact ⟨_, rfl, rfl, hide (TotB.one (unhide R1) hm5)⟩
        | with_reducible exact ⟨_, rfl, rfl, hide (TotB.two (unhide R1) hm5)⟩
    case rest =>
      obtain ⟨g2, rfl, rfl, T3⟩ := hcut
      apply_assumption
      have t1 := ((unhide T2).still (unhide T3).mod).has
      have t2 := (unhide T3).has
      have d1 := t1.cell
      have d2 := t2.cell
      have dl1 := t1.lt
      have dl2 := t2.lt
      have HSA := hide fun W => same_any ca cb cs W
      have MF := hide (((unhide MW) _ (unhide T2).mod).trans (unhide T3).mod)
      have q2 : (er == er) = true := by simp
      unfold tF at d1 d2 HSA
      clear t1 t2 T2 T3 c2 ol2 b22 bl22 HX2 HH BX MW HT HE
      go_wp2_with fail
      refine ((unhide HSA) _).mono ?_
      rintro e w8 ⟨rfl, m8⟩
      have FIN := hide ((unhide MF).trans m8)
      clear m8 MF d1 d2 dl1 dl2
      go_wp2
      go_ret
      exact ⟨rfl, unhide FIN⟩
end Go.Proofs.YtlcbemcamdafjaaGreat
/- What is handed in: what its cells hold. -/
namespace Go.Proofs.YtlcbemcamdafjaaGreat
open Go.RowKit
set_option linter.unusedVariables false
set_option maxRecDepth 100000

/-- A number. -/
def I64 (v : Value) : Prop := ∃ x : Int, v = .int .i64 x ∧ -9223372036854775808 ≤ x ∧ x ≤ 9223372036854775807

section
variable {H : Type} {enc : TypeId × Value → H} {w : World} {base : Nat} {spare : Nat → Bool} {held : Bool}

/-- A type all of whose cells are numbers. -/
def AllI (enc : TypeId × Value → H) (w : World) (base : Nat) (spare : Nat → Bool) (held : Bool) (t : TypeId) (n : Nat) : Prop :=
  Tryz.prog.cellsOf t = n ∧ ∀ (fuel : Nat) (cs : List Value) (x : DataW H × List MemPlace), DataW.trod enc Tryz.prog w base spare held fuel t cs = some x → ∀ (i : Nat) (v : Value), cs[i]? = some v → I64 v

theorem allI_int {t : TypeId} (ht : Tryz.prog.underlying t = some (.int .i64)) (hc : Tryz.prog.cellsOf t = 1) : AllI enc w base spare held t 1 := by
  refine ⟨hc, fun fuel cs x h i v hv => ?_⟩
  obtain ⟨n, rfl, _, hw⟩ := DataW.trod_int ht h
  have hb := bounds_i64 hw
  cases i with
  | zero => simp at hv; exact ⟨n, hv.symm, hb⟩
  | succ i => simp at hv

/-- Of the cells of a struct: those that lie in fields of numbers. -/
theorem ints_struct {t : TypeId} {fs : Array Field} (ht : Tryz.prog.underlying t = some (.struct fs)) {fuel : Nat} {cs : List Value} {x : DataW H × List MemPlace} (h : DataW.trod enc Tryz.prog w base spare held fuel t cs = some x) (i : Nat)
    (hcov : ∃ (j : Nat) (f : Field) (k : Nat), fs[j]? = some f ∧ f.offset ≤ i ∧ i < f.offset + k ∧ AllI enc w base spare held f.type k) : cs.length = Tryz.prog.cellsOf t ∧ ∀ v, cs[i]? = some v → I64 v := by
  obtain ⟨xs, n, _, _, hl, hx, hf⟩ := DataW.trod_struct ht h
  refine ⟨hl, fun v hv => ?_⟩
  obtain ⟨j, f, k, e1, e2, e3, e4, e5⟩ := hcov
  have hj : j < xs.length := by
    rw [hx]
    exact (Array.getElem?_eq_some_iff.1 e1).1
  have := hf j f e1
  rw [List.getElem?_eq_getElem hj, e4] at this
  refine e5 _ _ _ this (i - f.offset) v ?_
  rw [List.getElem?_take, if_pos (by omega), List.getElem?_drop]
  rw [show f.offset + (i - f.offset) = i by omega]
  exact hv

theorem allI_struct {t : TypeId} {fs : Array Field} (ht : Tryz.prog.underlying t = some (.struct fs)) (n : Nat) (hc : Tryz.prog.cellsOf t = n)
    (hcov : ∀ i, i < n → ∃ (j : Nat) (f : Field) (k : Nat), fs[j]? = some f ∧ f.offset ≤ i ∧ i < f.offset + k ∧ AllI enc w base spare held f.type k) : AllI enc w base spare held t n := by
  refine ⟨hc, fun fuel cs x h i v hv => ?_⟩
  obtain ⟨xs, n', _, _, hl, hx, hf⟩ := DataW.trod_struct ht h
  have hi : i < n := by
    have := (List.getElem?_eq_some_iff.1 hv).1
    omega
  exact (ints_struct ht h i (hcov i hi)).2 v hv

theorem allI_array {t e : TypeId} {n : Nat} (ht : Tryz.prog.underlying t = some (.array n e)) (hc : Tryz.prog.cellsOf t = n) (he : AllI enc w base spare held e 1) : AllI enc w base spare held t n := by
  refine ⟨hc, fun fuel cs x h i v hv => ?_⟩
  obtain ⟨xs, m, _, _, hl, hx, hf⟩ := DataW.trod_array ht h
  have hi : i < n := by
    have := (List.getElem?_eq_some_iff.1 hv).1
    omega
  have := hf i hi
  rw [List.getElem?_eq_getElem (by omega), he.1] at this
  refine he.2 _ _ _ this 0 v ?_
  rw [List.getElem?_take, if_pos (by omega), List.getElem?_drop]
  simpa using hv

theorem allI3 : AllI enc w base spare held 3 1 := allI_int Tryz.underlying3 (by kernel_rfl)
theorem allI40 : AllI enc w base spare held 37 4 := allI_array Tryz.underlying37 (by kernel_rfl) allI3
theorem allI30 : AllI enc w base spare held 36 2 := allI_struct Tryz.underlying36 2 (by kernel_rfl) fun i hi => by
  have : i = 0 ∨ i = 1 := by omega
  rcases this with rfl | rfl
  · exact ⟨0, _, 1, rfl, by decide, by decide, allI3⟩
  · exact ⟨1, _, 1, rfl, by decide, by decide, allI3⟩
theorem allI42 : AllI enc w base spare held 39 7 := allI_struct Tryz.underlying39 7 (by kernel_rfl) fun i hi => by
  by_cases h : 3 ≤ i
  · exact ⟨3, _, 4, rfl, h, by show i < 3 + 4; omega, allI40⟩
  have : i = 0 ∨ i = 1 ∨ i = 2 := by omega
  rcases this with rfl | rfl | rfl
  · exact ⟨0, _, 1, rfl, by decide, by decide, allI3⟩
  · exact ⟨1, _, 1, rfl, by decide, by decide, allI3⟩
  · exact ⟨2, _, 1, rfl, by decide, by decide, allI3⟩
theorem allI44 : AllI enc w base spare held 41 16 := allI_struct Tryz.underlying41 16 (by kernel_rfl) fun i hi => by
  by_cases h : 9 ≤ i
  · exact ⟨7, _, 7, rfl, h, by show i < 9 + 7; omega, allI42⟩
  have : i = 0 ∨ i = 1 ∨ i = 2 ∨ i = 3 ∨ i = 4 ∨ i = 5 ∨ i = 6 ∨ i = 7 ∨ i = 8 := by omega
  rcases this with rfl | rfl | rfl | rfl | rfl | rfl | rfl | rfl | rfl
  · exact ⟨0, _, 1, rfl, by decide, by decide, allI3⟩
  · exact ⟨1, _, 1, rfl, by decide, by decide, allI3⟩
  · exact ⟨2, _, 2, rfl, by decide, by decide, allI30⟩
  · exact ⟨2, _, 2, rfl, by decide, by decide, allI30⟩
  · exact ⟨3, _, 2, rfl, by decide, by decide, allI30⟩
  · exact ⟨3, _, 2, rfl, by decide, by decide, allI30⟩
  · exact ⟨4, _, 1, rfl, by decide, by decide, allI3⟩
  · exact ⟨5, _, 1, rfl, by decide, by decide, allI3⟩
  · exact ⟨6, _, 1, rfl, by decide, by decide, allI3⟩

end
end Go.Proofs.YtlcbemcamdafjaaGreat
