import Derived.Test.YtlcbemcamdafjaaGreatCdoesRef16Keep2
import Derived.Test.YtlcbemcamdafjaaGreatCdoesTape2Ref17
import Derived.Test.YtlcbemcamdafjaaGreatCdoesRelRef29
/- The document's answer: the weight of a world. -/
namespace Go.Proofs.YtlcbemcamdafjaaGreat
open Go.RowKit
open M
set_option linter.unusedVariables false
set_option linter.unusedSimpArgs false
set_option maxRecDepth 100000
set_option maxHeartbeats 8000000

def weigh1 (x : FR) : Int := 60 + 30 * ((x.f.seats.length : Int) - (nFree x.f.seats : Int))
/-- The weight. -/
def weightOf (xs : List FR) : Int := 200 + (xs.map weigh1).sum
theorem weightOf_take (xs : List FR) (i : Nat) (hi : i < xs.length) : weightOf (xs.take (i + 1)) = weightOf (xs.take i) + weigh1 xs[i] := by
  unfold weightOf
  rw [List.take_add_one, List.getElem?_eq_getElem hi, Option.toList_some, List.map_append, List.sum_append, List.map_cons, List.map_nil, List.sum_cons, List.sum_nil]
  omega
theorem weigh1_bound (x : FR) (h : x.f.seats.length ≤ 120) : 60 ≤ weigh1 x ∧ weigh1 x ≤ 3660 := by
  unfold weigh1
  have := nFree_le x.f.seats
  omega
theorem weightOf_bound : ∀ (xs : List FR), (∀ x ∈ xs, x.f.seats.length ≤ 120) → 200 ≤ weightOf xs ∧ weightOf xs ≤ 200 + 3660 * (xs.length : Int)
  | [], _ => by simp [weightOf]
  | x :: xs, h => by
    have h1 := weightOf_bound xs (fun y hy => h y (by simp [hy]))
    have h2 := weigh1_bound x (h x (by simp))
    have e : weightOf (x :: xs) = weightOf xs + weigh1 x := by unfold weightOf; simp; omega
    rw [e]
    simp only [List.length_cons]
    omega

theorem wweight_nil {w : World} {wb : Nat} {now : Int} (h : Has w wb #[.slice none 0 0, .int .i64 now] 72) :
    Calls Tryz.prog 31 #[.pointer (some ⟨wb, 0, none⟩)] w fun e w' => e = .returned (.int .i64 200) ∧ Mod No w w' := by
  have hc := h.cell
  clear h
  go_enter Tryz.func31, Tryz.ntmps31
  go_wp2_with fail
  go_loopw [3, 4] (fun s3 s4 wr => s3 = .int .i64 200 ∧ s4 = .int .i64 0 ∧ wr = w) (fun _ _ _ => 0)
  case atStart => exact ⟨rfl, rfl, rfl⟩
  case round =>
    obtain ⟨rfl, rfl, rfl⟩ := hrel
    go_wp2
    go_ret
    exact ⟨rfl, Mod.refl _ _⟩

theorem wweight_row {w : World} {ow : Nat → Nat} {wb gf cap : Nat} {xs : List FR} {now : Int} (h : WorR w ow wb (.slice (some ⟨gf, 0, none⟩) xs.length cap) xs now) (hne : 0 < xs.length) :
    Calls Tryz.prog 31 #[.pointer (some ⟨wb, 0, none⟩)] w fun e w' => e = .returned (.int .i64 (weightOf xs)) ∧ Mod No w w' := by
  have few := h.few
  have H := hide h
  obtain ⟨og, rf⟩ := h.parts rfl hne
  have RF := hide rf
  have HW := hide h.has
  have HS : ∀ x ∈ xs, x.f.seats.length ≤ 120 := fun x hx => by
    obtain ⟨i, hi, rfl⟩ := List.getElem_of_mem hx
    exact wf_len (h.seats i hi).2.2
  have HS := hide HS
  clear h rf og hne
  go_enter Tryz.func31, Tryz.ntmps31
  go_wp2_with fail
  go_loopw [3, 4] (fun s3 s4 wr => ∃ i : Nat, s4 = .int .i64 i ∧ i ≤ xs.length ∧ s3 = .int .i64 (weightOf (xs.take i)) ∧ Hid (Mod No w wr)) (fun _ s4 _ => xs.length - (intOf s4).toNat)
  case atStart => exact ⟨0, rfl, by omega, by simp [weightOf], hide (Mod.refl _ _)⟩
  case round =>
    obtain ⟨i, rfl, hi, rfl, M1⟩ := hrel
    have v0 : wr.cell? ⟨wb, 0, none⟩ = some (.slice (some ⟨gf, 0, none⟩) xs.length cap) := ((unhide M1).has (unhide HW) (fun x => x)).cell 0
    by_cases hix : i < xs.length
    · have hixi : (i : Int) < (xs.length : Int) := by omega
      have h0i : (0 : Int) ≤ i := by omega
      have hi1 : IntKind.i64.wrap ((i : Int) + 1) = ((i + 1 : Nat) : Int) := by rw [wrap_id _ (by omega) (by omega)]; rfl
      have rf1 := (unhide RF).mod (unhide M1) (fun x => x)
      have g0 : wr.cell? ⟨gf, i * 10, none⟩ = some (.int .i64 xs[i].f.num) := rf1.cell i hix 0 (by omega)
      have g1 : wr.cell? ⟨gf, i * 10 + 1, none⟩ = some (.int .i64 xs[i].f.pla.rows) := rf1.cell i hix 1 (by omega)
      have g2 : wr.cell? ⟨gf, i * 10 + 2, none⟩ = some (.int .i64 xs[i].f.pla.cols) := rf1.cell i hix 2 (by omega)
      have g3 : wr.cell? ⟨gf, i * 10 + 3, none⟩ = some (.int .i64 xs[i].f.pla.front) := rf1.cell i hix 3 (by omega)
      have g4 : wr.cell? ⟨gf, i * 10 + 4, none⟩ = some (.int .i64 xs[i].f.pla.l0) := rf1.cell i hix 4 (by omega)
      have g5 : wr.cell? ⟨gf, i * 10 + 5, none⟩ = some (.int .i64 xs[i].f.pla.l1) := rf1.cell i hix 5 (by omega)
      have g6 : wr.cell? ⟨gf, i * 10 + 6, none⟩ = some (.int .i64 xs[i].f.pla.l2) := rf1.cell i hix 6 (by omega)
      have g7 : wr.cell? ⟨gf, i * 10 + 7, none⟩ = some (.int .i64 xs[i].f.pla.l3) := rf1.cell i hix 7 (by omega)
      have g8 : wr.cell? ⟨gf, i * 10 + 8, none⟩ = some (.slice (some ⟨xs[i].g, 0, none⟩) xs[i].f.seats.length xs[i].cap) := rf1.cell i hix 8 (by omega)
      have g9 : wr.cell? ⟨gf, i * 10 + 9, none⟩ = some (.int .i64 xs[i].f.ep) := rf1.cell i hix 9 (by omega)
      obtain ⟨rs, os, wf⟩ := (unhide H).seats i hix
      have hl120 : xs[i].f.seats.length ≤ 120 := wf_len wf
      have hfr := nFree_le xs[i].f.seats
      have hb1 := weightOf_bound (xs.take i) (fun x hx => (unhide HS) x (List.mem_of_mem_take hx))
      have hb2 : ((xs.take i).length : Int) ≤ 20 := by rw [List.length_take]; omega
      have hnx := weightOf_take xs i hix
      have hw1 : weigh1 xs[i] = 60 + 30 * ((xs[i].f.seats.length : Int) - (nFree xs[i].f.seats : Int)) := rfl
      rw [hw1] at hnx
      have rs1 := rs.mod (unhide M1) (fun x => x)
      have FB := Has.new wr (friV xs[i]) 126
      have M2 := hide ((unhide M1).alloc (.cells (friV xs[i]) 126))
      have rs2 := rs1.mod ((Mod.refl No wr).alloc (.cells (friV xs[i]) 126)) (fun x => x)
      have HFR := hide fun n => free_any wr.heap.size 0 xs[i].g xs[i].cap xs[i].f.seats ((wr.alloc (.cells (friV xs[i]) 126)).drewN n) (rs2.mod ((Mod.refl No _).drewN n) (fun x => x)) (by omega) ((FB.drewN n).cell 8)
      have fb := FB.cell
      have fl := FB.lt
      unfold friV at HFR M2 fb fl
      generalize weightOf (xs.take i) = wt at *
      generalize hwt2 : weightOf (xs.take (i + 1)) = wt2 at *
      have HWT2 := hide hwt2
      clear hwt2
      generalize hfrN : nFree xs[i].f.seats = fr at *
      generalize hlenN : xs[i].f.seats.length = ln at *
      have e1 : IntKind.i64.wrap (wt + 60) = wt + 60 := wrap_id _ (by omega) (by omega)
      have e2 : IntKind.i64.wrap ((ln : Int) - (fr : Int)) = (ln : Int) - (fr : Int) := wrap_id _ (by omega) (by omega)
      have e3 : IntKind.i64.wrap (30 * ((ln : Int) - (fr : Int))) = 30 * ((ln : Int) - (fr : Int)) := wrap_id _ (by omega) (by omega)
      have e4 : IntKind.i64.wrap (wt + 60 + 30 * ((ln : Int) - (fr : Int))) = wt2 := by rw [wrap_id _ (by omega) (by omega)]; omega
      clear rf1 rs os wf rs1 rs2 FB hb1 hb2 hnx hw1 H RF HS
      go_wp2_with fail
      go_quiet ((go_at_call 54; exact Calls.quiet_of_same ((unhide HFR) _)))
      go_wp2
      exact ⟨⟨i + 1, rfl, by omega, by rw [unhide HWT2], (unhide M2).drewN _⟩, by simp [intOf]; omega⟩
    · have hixi : ¬ (i : Int) < (xs.length : Int) := by omega
      have e : i = xs.length := by omega
      subst e
      rw [List.take_length]
      go_wp2
      go_ret
      exact ⟨rfl, unhide M1⟩

theorem wweight_any {w : World} {ow : Nat → Nat} {wb : Nat} {v : Value} {xs : List FR} {now : Int} (h : WorR w ow wb v xs now) (hv : xs = [] → v = .slice none 0 0) :
    Calls Tryz.prog 31 #[.pointer (some ⟨wb, 0, none⟩)] w fun e w' => e = .returned (.int .i64 (weightOf xs)) ∧ Mod No w w' := by
  rcases h.fls with ⟨rfl, rfl⟩ | ⟨gf, cap, rfl, _, _⟩
  · exact wweight_nil h.has
  · by_cases hne : 0 < xs.length
    · exact wweight_row h hne
    · have := hv (List.eq_nil_of_length_eq_zero (by omega))
      cases this
theorem worR_weight {w : World} {ow : Nat → Nat} {wb : Nat} {v : Value} {xs : List FR} {now : Int} (h : WorR w ow wb v xs now) : 200 ≤ weightOf xs ∧ weightOf xs ≤ 100000 := by
  have h1 := weightOf_bound xs (fun x hx => by
    obtain ⟨i, hi, rfl⟩ := List.getElem_of_mem hx
    exact wf_len (h.seats i hi).2.2)
  have := h.few
  omega
end Go.Proofs.YtlcbemcamdafjaaGreat
/- The statements' own small functions: which of the keepers; the same counts; lists that none has written. -/
namespace Go.Proofs.YtlcbemcamdafjaaGreat
open Go.RowKit
open M
set_option linter.unusedVariables false
set_option linter.unusedSimpArgs false
set_option maxRecDepth 100000
set_option maxHeartbeats 4000000

theorem lpick_any (c n : Int) (hc : -9223372036854775808 ≤ c ∧ c ≤ 9223372036854775807) (hn : 0 < n ∧ n ≤ 1099511627776) (w : World) :
    Calls Tryz.prog 13 #[.int .i64 c, .int .i64 n] w fun e w' => e = .returned (.int .i64 (pickN c n)) ∧ w' = w := by
  unfold pickN
  have hz : n ≠ 0 := by omega
  by_cases h : c < 0
  · have h1 : IntKind.i64.wrap (c + 1) = c + 1 := wrap_fit _ (by omega) (by omega)
    have h2 : IntKind.i64.wrap (-(c + 1)) = -(c + 1) := wrap_fit _ (by omega) (by omega)
    go_enter Tryz.func13, Tryz.ntmps13
    go_wp2
    go_ret
    refine ⟨?_, rfl⟩
    rw [← Int.tmod_eq_emod_of_nonneg (by omega), Int.neg_tmod]
    rfl
  · go_enter Tryz.func13, Tryz.ntmps13
    go_wp2
    go_ret
    exact ⟨rfl, rfl⟩

theorem same_any (a b s : Nat → Int) (w : World) :
    Calls Tryz.prog 37 #[.agg (tF a b s), .agg (tF a b s)] w fun e w' => e = .returned (.bool true) ∧ Mod No w w' := by
  have B1 := hide ((Has.new w (tF a b s) 91).alloc (.cells (tF a b s) 91))
  have B2 := hide (show Has ((w.alloc (.cells (tF a b s) 91)).alloc (.cells (tF a b s) 91)) (w.heap.size + 1) (tF a b s) 91 from by
    have := Has.new (w.alloc (.cells (tF a b s) 91)) (tF a b s) 91
    rw [World.size_alloc] at this
    exact this)
  have M0 := hide (((Mod.refl No w).alloc (.cells (tF a b s) 91)).alloc (.cells (tF a b s) 91))
  generalize hT : tF a b s = T at *
  go_enter Tryz.func37, Tryz.ntmps37
  go_wp2_with fail
  generalize (w.alloc (.cells T 91)).alloc (.cells T 91) = w2 at *
  go_loopw [5] (fun s5 wr => ∃ i : Nat, s5 = .int .i64 i ∧ i ≤ 4 ∧ Hid (Mod No w wr) ∧ Hid (Mod No w2 wr)) (fun s5 _ => 4 - (intOf s5).toNat)
  case atStart => exact ⟨0, rfl, by omega, M0, Mod.refl _ _⟩
  case round =>
    obtain ⟨i, rfl, hi, M1, M2⟩ := hrel
    by_cases h4 : i < 4
    · have h4i : (i : Int) < 4 := by omega
      have h0i : (0 : Int) ≤ i := by omega
      have hi1 : IntKind.i64.wrap ((i : Int) + 1) = ((i + 1 : Nat) : Int) := by rw [wrap_id _ (by omega) (by omega)]; rfl
      have h1 := (unhide M2).has (unhide B1) (fun x => x)
      have h2 := (unhide M2).has (unhide B2) (fun x => x)
      rw [← hT] at h1 h2
      have a1 : wr.cell? ⟨w.heap.size, i, none⟩ = some (.int .i64 (a i)) := by rw [h1.cell, tF_a _ _ _ _ h4]
      have b1 : wr.cell? ⟨w.heap.size, 4 + i, none⟩ = some (.int .i64 (b i)) := by rw [h1.cell, tF_b _ _ _ _ h4]
      have s1 : wr.cell? ⟨w.heap.size, 8 + i, none⟩ = some (.int .i64 (s i)) := by rw [h1.cell, tF_s _ _ _ _ h4]
      have a2 : wr.cell? ⟨w.heap.size + 1, i, none⟩ = some (.int .i64 (a i)) := by rw [h2.cell, tF_a _ _ _ _ h4]
      have b2 : wr.cell? ⟨w.heap.size + 1, 4 + i, none⟩ = some (.int .i64 (b i)) := by rw [h2.cell, tF_b _ _ _ _ h4]
      have s2 : wr.cell? ⟨w.heap.size + 1, 8 + i, none⟩ = some (.int .i64 (s i)) := by rw [h2.cell, tF_s _ _ _ _ h4]
      have d1 : (a i != a i) = false := by simp
      have d2 : (b i != b i) = false := by simp
      have d3 : (s i != s i) = false := by simp
      clear h1 h2 hT
      go_wp2_with fail
      go_quiet (fail)
      go_wp2
      exact ⟨⟨i + 1, rfl, by omega, (unhide M1).drewN _, (unhide M2).drewN _⟩, by simp [intOf]; omega⟩
    · have h4i : ¬ (i : Int) < 4 := by omega
      go_wp2
      go_ret
      exact ⟨rfl, unhide M1⟩

theorem whole_any (yb o : Nat) (w : World) (h1 : w.cell? ⟨yb, o, none⟩ = some (.slice none 0 0)) (h2 : w.cell? ⟨yb, o + 1, none⟩ = some (.slice none 0 0)) :
    Calls Tryz.prog 11 #[.pointer (some ⟨yb, o, none⟩)] w fun e w' => e = .returned (.bool true) ∧ w' = w := by
  go_enter Tryz.func11, Tryz.ntmps11
  go_wp2_with fail
  go_loopw [3] (fun s3 wr => s3 = .int .i64 0 ∧ wr = w) (fun _ _ => 0)
  case atStart => exact ⟨rfl, rfl⟩
  case round =>
    obtain ⟨rfl, rfl⟩ := hrel
    go_wp2_with fail
    go_loopw [7] (fun s7 wx => s7 = .int .i64 0 ∧ wx = wr) (fun _ _ => 0)
    case atStart => exact ⟨rfl, rfl⟩
    case round =>
      obtain ⟨rfl, rfl⟩ := hrel
      go_wp2
      go_ret
      exact ⟨rfl, rfl⟩
end Go.Proofs.YtlcbemcamdafjaaGreat
/- One keeper of a script: a tape, the program's keeper, the document's world. -/
namespace Go.Proofs.YtlcbemcamdafjaaGreat
open Go.RowKit
open M
set_option linter.unusedVariables false
set_option linter.unusedSimpArgs false
set_option maxRecDepth 100000
set_option maxHeartbeats 4000000

theorem wcopy_all {w : World} {ow : Nat → Nat} {wb : Nat} {v : Value} {xs : List FR} {now : Int} (h : WorR w ow wb v xs now) (hv : xs = [] → v = .slice none 0 0) :
    Calls Tryz.prog 26 #[.pointer (some ⟨wb, 0, none⟩)] w fun e w' => e = .returned (.pointer (some ⟨w.heap.size, 0, none⟩)) ∧ ∃ v' ys ow', CopyI w w' w.heap.size xs now xs.length v' ys ow' ∧ (ys = [] → v' = .slice none 0 0) := by
  by_cases hx : xs = []
  · subst hx
    obtain rfl := hv rfl
    refine (wcopy_nil h.has).mono ?_
    rintro e w' ⟨rfl, rfl⟩
    exact ⟨rfl, _, _, _, copy_start w now [], fun _ => rfl⟩
  · refine (wcopy_any h).mono ?_
    rintro e w' ⟨v', ys, ow', rfl, hC⟩
    exact ⟨rfl, v', ys, ow', hC, fun e => by have := hC.len; rw [e] at this; exact absurd (List.eq_nil_of_length_eq_zero this.symm) hx⟩

theorem flOf_congr : ∀ (xs ys : List FR), ys.map (·.f) = xs.map (·.f) → ∀ n, flOf ys n = flOf xs n
  | [], [], _, _ => rfl
  | [], y :: ys, h, _ => by simp at h
  | x :: xs, [], h, _ => by simp at h
  | x :: xs, y :: ys, h, n => by
    simp only [List.map_cons, List.cons.injEq] at h
    have ih := flOf_congr xs ys h.2 n
    unfold flOf at ih ⊢
    simp only [List.find?_cons, h.1]
    cases (x.f.num == (n : Int))
    · exact ih
    · simp [h.1]
theorem Same.congr {xs ys : List FR} {fl : Nat → Option (Pla × List Sea)} (h : Same xs fl) (hl : ys.length = xs.length) (hf : ∀ j (h : j < ys.length) (h' : j < xs.length), ys[j].f = xs[j].f) : Same ys fl := by
  have hm : ys.map (·.f) = xs.map (·.f) := by
    apply List.ext_getElem
    · simpa using hl
    · intro j h1 h2
      simp only [List.getElem_map]
      exact hf j (by simpa using h1) (by simpa using h2)
  refine ⟨?_, fun y hy => ?_, fun n hn => ?_⟩
  · rw [List.pairwise_iff_getElem]
    intro a b ha hb hab
    rw [hf a ha (by omega), hf b hb (by omega)]
    exact (List.pairwise_iff_getElem.1 h.sort) a b (by omega) (by omega) hab
  · obtain ⟨j, hj, rfl⟩ := List.getElem_of_mem hy
    rw [hf j hj (by omega)]
    exact h.rng _ (List.getElem_mem (by omega))
  · rw [flOf_congr xs ys hm]
    exact h.eq n hn

theorem doK_err {now : Int} {fl : Nat → Option (Pla × List Sea)} {c : Cmd} (h : (doK now fl c).1 ≠ 0) : (doK now fl c).2 = (now, fl) := by
  by_cases k0 : c.kind < 1 ∨ c.kind > 9
  · rw [doK_bad k0]
  by_cases k8 : c.kind = 8
  · by_cases tt : 1 ≤ c.time ∧ c.time ≤ 100
    · rw [doK_tick k8 tt] at h; exact absurd rfl h
    · rw [doK_tock k8 tt]
  by_cases hf : 1 ≤ c.flight ∧ c.flight ≤ 20
  case neg => rw [doK_num k0 k8 hf]
  cases hx : fl c.flight.toNat with
  | none =>
    rw [doK_none k0 k8 hf hx] at h ⊢
    by_cases k1 : c.kind = 1
    · rw [if_pos k1] at h ⊢
      by_cases hp : c.pla.sized = true ∧ c.pla.limited = true
      · rw [if_pos hp] at h; exact absurd rfl h
      · rw [if_neg hp]
    · rw [if_neg k1]
  | some x =>
    rw [doK_some k0 k8 hf hx] at h ⊢
    by_cases k1 : c.kind = 1
    · rw [if_pos k1]
    · rw [if_neg k1] at h ⊢
      by_cases he : seatErr x.1 x.2 c now = 0
      · rw [if_pos he] at h; exact absurd rfl h
      · rw [if_neg he]
theorem doK_time (now : Int) (fl : Nat → Option (Pla × List Sea)) (c : Cmd) : now ≤ (doK now fl c).2.1 ∧ (doK now fl c).2.1 ≤ now + 100 := by
  by_cases k0 : c.kind < 1 ∨ c.kind > 9
  · rw [doK_bad k0]; simp only; omega
  by_cases k8 : c.kind = 8
  · by_cases tt : 1 ≤ c.time ∧ c.time ≤ 100
    · rw [doK_tick k8 tt]; simp only; omega
    · rw [doK_tock k8 tt]; simp only; omega
  by_cases hf : 1 ≤ c.flight ∧ c.flight ≤ 20
  case neg => rw [doK_num k0 k8 hf]; simp only; omega
  cases hx : fl c.flight.toNat with
  | none =>
    rw [doK_none k0 k8 hf hx]
    repeat' split
    all_goals simp only
    all_goals omega
  | some x =>
    rw [doK_some k0 k8 hf hx]
    repeat' split
    all_goals simp only
    all_goals omega

/-- What one keeper of a script holds. -/
structure OneI where
  tb : Nat
  kb : Nat
  wb : Nat
  tob : Nat
  okp : Nat → Nat
  owr : Nat → Nat
  v : Value
  xs : List FR
  now : Int
  fl : Nat → Option (Pla × List Sea)
  room : Int
  most : Int
  ch : Int
  n0 : Int
  n1 : Int
  n2 : Int
  ts : Array Value

def oneV (I : OneI) : Array Value := #[.pointer (some ⟨I.tb, 0, none⟩), .pointer (some ⟨I.kb, 0, none⟩), .pointer (some ⟨I.wb, 0, none⟩), .pointer none, .pointer (some ⟨I.tob, 0, none⟩), .int .i64 I.most, .int .i64 I.ch, .bool false, .int .i64 I.n0, .int .i64 I.n1, .int .i64 I.n2]

structure OneX (w : World) (O : Nat → Prop) (ob : Nat) (I : OneI) : Prop where
  has : Has w ob (oneV I) 55
  tape : Has w I.tb I.ts 108
  room : I.ts[8]? = some (.int .i64 I.room)
  keep : KeepH w I.okp I.kb I.now I.fl
  wor : WorR w I.owr I.wb I.v I.xs I.now
  same : Same I.xs I.fl
  tidy : I.xs = [] → I.v = .slice none 0 0
  mine : O ob ∧ O I.tb ∧ (∀ k, I.okp k ≠ 0 → O k) ∧ ∀ k, I.owr k ≠ 0 → O k
  apart : I.okp ob = 0 ∧ I.okp I.tb = 0 ∧ I.owr ob = 0 ∧ I.owr I.tb = 0 ∧ ob ≠ I.tb ∧ ∀ k, I.okp k ≠ 0 → I.owr k = 0
  lt : ∀ k, O k → k < w.heap.size
  now0 : 0 ≤ I.now
  now1 : I.now ≤ 100 * I.ch
  ch : 0 ≤ I.ch
  most : 0 ≤ I.most ∧ I.most ≤ 1000000

/-- What belongs to a keeper, and what has been made meanwhile. -/
def grow (O : Nat → Prop) (w w' : World) : Nat → Prop := fun k => O k ∨ (w.heap.size ≤ k ∧ k < w'.heap.size)

/-- What a step on one keeper comes to. -/
structure OneD (w w' : World) (O : Nat → Prop) (ob : Nat) (I : OneI) : Prop where
  ex : ∃ I', OneX w' (grow O w w') ob I' ∧ I'.ch ≤ I.ch + 1
  mod : Mod O w w'

theorem OneX.mod {w w' : World} {O S : Nat → Prop} {ob : Nat} {I : OneI} (h : OneX w O ob I) (hm : Mod S w w') (hs : ∀ k, O k → ¬ S k) : OneX w' O ob I :=
  ⟨hm.has h.has (hs _ h.mine.1), hm.has h.tape (hs _ h.mine.2.1), h.room, h.keep.mod hm (fun k hk => hs k (h.mine.2.2.1 k hk)), h.wor.mod hm (fun k hk => hs k (h.mine.2.2.2 k hk)), h.same, h.tidy, h.mine, h.apart, fun k hk => Nat.lt_of_lt_of_le (h.lt k hk) hm.size, h.now0, h.now1, h.ch, h.most⟩

structure Weighed (w w' : World) (ob : Nat) (I : OneI) : Prop where
  ex : ∃ m, (m = I.most ∨ 0 ≤ m ∧ m ≤ 1000000) ∧ Has w' ob (oneV { I with most := m }) 55
  mod : Mod (fun k => k = ob) w w'

theorem weigh_any {w : World} {ob : Nat} {I : OneI} (hh : Has w ob (oneV I) 55) (hw : WorR w I.owr I.wb I.v I.xs I.now) (hv : I.xs = [] → I.v = .slice none 0 0) (ho : I.owr ob = 0) :
    Calls Tryz.prog 29 #[.pointer (some ⟨ob, 0, none⟩)] w fun e w' => e = .returned (.tuple #[]) ∧ Weighed w w' ob I := by
  have HW := hide (wweight_any hw hv)
  have hb := worR_weight hw
  have c2 : w.cell? ⟨ob, 2, none⟩ = some (.pointer (some ⟨I.wb, 0, none⟩)) := hh.cell 2
  have ol := hh.lt
  have HH := hide hh
  clear hh hw hv
  go_enter Tryz.func29, Tryz.ntmps29
  go_wp2_with fail
  refine (unhide HW).mono ?_
  rintro e w1 ⟨rfl, m1⟩
  have h1 := m1.has (unhide HH) (fun x => x)
  have c5 : w1.cell? ⟨ob, 5, none⟩ = some (.int .i64 I.most) := h1.cell 5
  have f1 := h1.frozen
  have l1 := h1.lt
  have M1 := hide (m1.mono (S' := fun k => k = ob) (fun _ _ x => x.elim))
  have H1 := hide h1
  clear m1 h1 HW c2
  generalize weightOf I.xs = W at *
  by_cases hg : W > I.most
  · go_wp2
    go_end0
    exact ⟨rfl, ⟨W, .inr ⟨by omega, by omega⟩, (unhide H1).set 5 (.int .i64 W)⟩, (unhide M1).at 5 _⟩
  · go_wp2
    go_end0
    exact ⟨rfl, ⟨I.most, .inl rfl, unhide H1⟩, unhide M1⟩
end Go.Proofs.YtlcbemcamdafjaaGreat
