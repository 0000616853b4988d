import Derived.Test.YtlcbemcamdafjaaGreatCdoesKeep3Ref15
import Derived.Test.YtlcbemcamdafjaaGreatCdoesRef13Keep1
/- The document's answer: what is left is told; how much must fit. -/
namespace Go.Proofs.YtlcbemcamdafjaaGreat
open Go.RowKit
open M
set_option linter.unusedVariables false
set_option linter.unusedSimpArgs false
set_option maxRecDepth 100000
set_option maxHeartbeats 8000000

theorem WorR.flsV {w : World} {ow : Nat → Nat} {wb : Nat} {v : Value} {xs : List FR} {now : Int} (h : WorR w ow wb v xs now) : FlsV w v xs := by
  rcases h.fls with h1 | ⟨gf, cap, h1, h2, h3⟩
  · exact .inl h1
  · exact .inr ⟨gf, cap, h1, h2⟩

theorem WorR.find {w : World} {ow : Nat → Nat} {wb : Nat} {v : Value} {xs : List FR} {now : Int} (h : WorR w ow wb v xs now) (n : Int) :
    Calls Tryz.prog 50 #[.pointer (some ⟨wb, 0, none⟩), .int .i64 n] w fun e w' => e = .returned (.int .i64 (findN xs n)) ∧ w' = w :=
  rfind_any wb xs v n w (h.has.cell 0) h.flsV (Nat.le_trans h.few (by omega))

theorem WorR.some {w : World} {ow : Nat → Nat} {wb : Nat} {v : Value} {xs : List FR} {now : Int} (h : WorR w ow wb v xs now) (hne : 0 < xs.length) : ∃ gf cap, v = .slice (some ⟨gf, 0, none⟩) xs.length cap := by
  rcases h.fls with ⟨rfl, _⟩ | ⟨gf, cap, h1, _⟩
  · exact absurd hne (Nat.lt_irrefl _)
  · exact ⟨gf, cap, h1⟩

theorem wleft_no {w : World} {ow : Nat → Nat} {wb : Nat} {v : Value} {xs : List FR} {now : Int} (h : WorR w ow wb v xs now) (n c : Int) (hn : findN xs n = -1) :
    Calls Tryz.prog 34 #[.pointer (some ⟨wb, 0, none⟩), .int .i64 n, .int .i64 c] w fun e w' => e = .returned (.tuple #[.int .i64 0, .int .i64 2]) ∧ Mod No w w' := by
  have HF := h.find n
  rw [hn] at HF
  have HF := hide HF
  clear h hn
  go_enter Tryz.func34, Tryz.ntmps34
  go_wp2_with fail
  refine (unhide HF).mono ?_
  rintro e w1 ⟨rfl, rfl⟩
  go_wp2
  go_ret2
  exact ⟨rfl, Mod.refl _ _⟩

theorem wleft_class {w : World} {ow : Nat → Nat} {wb : Nat} {v : Value} {xs : List FR} {now : Int} (h : WorR w ow wb v xs now) (n c : Int) (i : Nat) (hn : findN xs n = i) (hc : ¬ (0 ≤ c ∧ c < 4)) :
    Calls Tryz.prog 34 #[.pointer (some ⟨wb, 0, none⟩), .int .i64 n, .int .i64 c] w fun e w' => e = .returned (.tuple #[.int .i64 0, .int .i64 6]) ∧ Mod No w w' := by
  have HF := h.find n
  rw [hn] at HF
  have HF := hide HF
  have h0 : ¬ (i : Int) < 0 := by omega
  clear h hn
  rcases Int.lt_or_le c 0 with h1 | h1
  · clear hc
    go_enter Tryz.func34, Tryz.ntmps34
    go_wp2_with fail
    refine (unhide HF).mono ?_
    rintro e w1 ⟨rfl, rfl⟩
    go_wp2
    go_ret2
    exact ⟨rfl, Mod.refl _ _⟩
  · have h2 : ¬ c < 0 := by omega
    have h3 : c ≥ 4 := by omega
    clear hc
    go_enter Tryz.func34, Tryz.ntmps34
    go_wp2_with fail
    refine (unhide HF).mono ?_
    rintro e w1 ⟨rfl, rfl⟩
    go_wp2
    go_ret2
    exact ⟨rfl, Mod.refl _ _⟩

theorem wleft_yes {w : World} {ow : Nat → Nat} {wb gf cap : Nat} {xs : List FR} {now : Int} (h : WorR w ow wb (.slice (some ⟨gf, 0, none⟩) xs.length cap) xs now) (n : Int) (i : Nat) (hi : i < xs.length) (hn : findN xs n = i) (k : Nat) (hk : k < 4) :
    Calls Tryz.prog 34 #[.pointer (some ⟨wb, 0, none⟩), .int .i64 n, .int .i64 k] w fun e w' => e = .returned (.tuple #[.int .i64 (min (M.leftOf xs[i].f.pla xs[i].f.seats k) 9), .int .i64 0]) ∧ Mod No w w' := by
  have HF := h.find n
  rw [hn] at HF
  have HF := hide HF
  have fl := h.fl i hi
  have wf := (h.seats i hi).2.2
  have HL := hide (rleft_any gf (i * 10) xs[i].g xs[i].cap xs[i].f.pla xs[i].f.seats k hk w fl.row fl.len fl.slice (limited_bounds wf.limited) fl.lims)
  have hc := h.has.cell
  have h0 : ¬ (i : Int) < 0 := by omega
  have h1 : (i : Int) < (xs.length : Int) := by omega
  have h2 : ¬ (k : Int) < 0 := by omega
  have h3 : ¬ (k : Int) ≥ 4 := by omega
  clear h hn fl wf
  generalize M.leftOf xs[i].f.pla xs[i].f.seats k = lf at *
  by_cases h9 : lf > 9
  · have HE := hide (show min lf 9 = 9 by omega)
    go_enter Tryz.func34, Tryz.ntmps34
    go_wp2_with fail
    refine (unhide HF).mono ?_
    rintro e w1 ⟨rfl, rfl⟩
    go_wp2_with fail
    refine (unhide HL).mono ?_
    rintro e w2 ⟨rfl, m2⟩
    go_wp2
    go_ret2
    exact ⟨by rw [unhide HE]; rfl, m2⟩
  · have HE := hide (show min lf 9 = lf by omega)
    go_enter Tryz.func34, Tryz.ntmps34
    go_wp2_with fail
    refine (unhide HF).mono ?_
    rintro e w1 ⟨rfl, rfl⟩
    go_wp2_with fail
    refine (unhide HL).mono ?_
    rintro e w2 ⟨rfl, m2⟩
    go_wp2
    go_ret2
    exact ⟨by rw [unhide HE]; rfl, m2⟩

theorem rfits_any (m c r : Int) (hm : 0 ≤ m ∧ m ≤ 1000000) (hc : 0 ≤ c ∧ c ≤ 1099511627776) (w : World) :
    Calls Tryz.prog 21 #[.int .i64 m, .int .i64 c, .int .i64 r] w fun e w' => e = .returned (.bool (decide (2 * m + 60 * (c + 1) + 180 ≤ r))) ∧ w' = w := by
  have w1 : IntKind.i64.wrap (2 * m) = 2 * m := wrap_fit _ (by omega) (by omega)
  have w2 : IntKind.i64.wrap (c + 1) = c + 1 := wrap_fit _ (by omega) (by omega)
  have w3 : IntKind.i64.wrap (60 * (c + 1)) = 60 * (c + 1) := wrap_fit _ (by omega) (by omega)
  have w4 : IntKind.i64.wrap (2 * m + 60 * (c + 1)) = 2 * m + 60 * (c + 1) := wrap_fit _ (by omega) (by omega)
  have w5 : IntKind.i64.wrap (2 * m + 60 * (c + 1) + 180) = 2 * m + 60 * (c + 1) + 180 := wrap_fit _ (by omega) (by omega)
  go_enter Tryz.func21, Tryz.ntmps21
  go_wp2
  go_ret
  exact ⟨rfl, rfl⟩
end Go.Proofs.YtlcbemcamdafjaaGreat
/- A keeper looks a command over. -/
namespace Go.Proofs.YtlcbemcamdafjaaGreat
open Go.RowKit
open Go.ChangeMaps (setBlock)
open M
set_option linter.unusedVariables false
set_option linter.unusedSimpArgs false
set_option maxRecDepth 100000
set_option maxHeartbeats 2000000

theorem tickLook_yes (t now : Int) (w : World) (h1 : 1 ≤ t) (h2 : t ≤ 100) (hn : 0 ≤ now ∧ now ≤ 4611686018427387000) :
    Calls Tryz.prog 67 #[.int .i64 t, .int .i64 now] w fun e w' => e = .returned (.tuple #[passV (now + t), .int .i64 0]) ∧ w' = w := by
  have h1' : ¬ t < 1 := by omega
  have h2' : ¬ t > 100 := by omega
  have hw : IntKind.i64.wrap (now + t) = now + t := wrap_id _ (by omega) (by omega)
  go_enter Tryz.func67, Tryz.ntmps67
  go_wp2
  go_ret2
  exact ⟨rfl, rfl⟩

theorem tickLook_out (t now : Int) (w : World) (h : ¬ (1 ≤ t ∧ t ≤ 100)) :
    Calls Tryz.prog 67 #[.int .i64 t, .int .i64 now] w fun e w' => e = .returned (.tuple #[.nilIface, .int .i64 8]) ∧ w' = w := by
  by_cases h1 : t < 1
  · go_enter Tryz.func67, Tryz.ntmps67
    go_wp2
    go_ret2
    exact ⟨rfl, rfl⟩
  · have h2 : t > 100 := by omega
    go_enter Tryz.func67, Tryz.ntmps67
    go_wp2
    go_ret2
    exact ⟨rfl, rfl⟩

theorem klook_bad (kb : Nat) (c : Cmd) (hk : c.kind < 1 ∨ c.kind > 9) (w : World) :
    Calls Tryz.prog 47 #[.pointer (some ⟨kb, 0, none⟩), .agg (cmdCells c)] w fun e w' => e = .returned (refuse 1) ∧ Mod No w w' := by
  have M0 := hide ((Mod.refl No w).alloc (.cells (cmdCells c) 41))
  unfold cmdCells at M0 ⊢
  rcases Int.lt_or_le c.kind 1 with h1 | h1
  · clear hk
    go_enter Tryz.func47, Tryz.ntmps47
    go_wp2
    go_ret2
    exact ⟨rfl, unhide M0⟩
  · have h2 : c.kind > 9 := by omega
    have h1' : ¬ c.kind < 1 := by omega
    clear hk
    go_enter Tryz.func47, Tryz.ntmps47
    go_wp2
    go_ret2
    exact ⟨rfl, unhide M0⟩

theorem klook_tick (kb : Nat) (c : Cmd) (now : Int) (x y : Value) (hk : c.kind = 8) (w : World)
    (hN : ∀ W, Mod No w W → Calls Tryz.prog 32 #[.pointer (some ⟨kb, 0, none⟩)] W fun e w' => e = .returned (.int .i64 now) ∧ w' = W)
    (hT : ∀ W, Calls Tryz.prog 67 #[.int .i64 c.time, .int .i64 now] W fun e w' => e = .returned (.tuple #[x, y]) ∧ w' = W) :
    Calls Tryz.prog 47 #[.pointer (some ⟨kb, 0, none⟩), .agg (cmdCells c)] w fun e w' => e = .returned (.tuple #[x, y]) ∧ Mod No w w' := by
  have HN := hide hN
  have HT := hide hT
  have M0 := hide ((Mod.refl No w).alloc (.cells (cmdCells c) 41))
  unfold cmdCells at M0 ⊢
  rw [hk] at M0 ⊢
  clear hN hT hk
  go_enter Tryz.func47, Tryz.ntmps47
  go_wp2_with fail
  go_quiet (first | (go_at_call 32; exact Calls.quiet_of_same ((unhide HN) _ ((unhide M0).drewN _))) | (go_at_call 67; exact Calls.quiet_of_same ((unhide HT) _)))
  go_wp2
  go_ret2
  exact ⟨rfl, (unhide M0).drewN _⟩

theorem klook_num (kb : Nat) (c : Cmd) (hk : 1 ≤ c.kind ∧ c.kind ≤ 9 ∧ c.kind ≠ 8) (hf : ¬ (1 ≤ c.flight ∧ c.flight ≤ 20)) (w : World) :
    Calls Tryz.prog 47 #[.pointer (some ⟨kb, 0, none⟩), .agg (cmdCells c)] w fun e w' => e = .returned (refuse 2) ∧ Mod No w w' := by
  have M0 := hide ((Mod.refl No w).alloc (.cells (cmdCells c) 41))
  unfold cmdCells at M0 ⊢
  have h1 : ¬ c.kind < 1 := by omega
  have h2 : ¬ c.kind > 9 := by omega
  have h3 : (c.kind == 8) = false := by simp [hk.2.2]
  rcases Int.lt_or_le c.flight 1 with f1 | f1
  · clear hk hf
    go_enter Tryz.func47, Tryz.ntmps47
    go_wp2
    go_ret2
    exact ⟨rfl, unhide M0⟩
  · have f2 : c.flight > 20 := by omega
    have f1' : ¬ c.flight < 1 := by omega
    clear hk hf
    go_enter Tryz.func47, Tryz.ntmps47
    go_wp2
    go_ret2
    exact ⟨rfl, unhide M0⟩

theorem klook_twice (kb b : Nat) (c : Cmd) (hk : c.kind = 1) (hf : 1 ≤ c.flight ∧ c.flight ≤ 20) (w : World)
    (hF : ∀ W, Mod No w W → Calls Tryz.prog 55 #[.pointer (some ⟨kb, 0, none⟩), .int .i64 c.flight] W fun e w' => e = .returned (.pointer (some ⟨b, 0, none⟩)) ∧ w' = W) :
    Calls Tryz.prog 47 #[.pointer (some ⟨kb, 0, none⟩), .agg (cmdCells c)] w fun e w' => e = .returned (refuse 3) ∧ Mod No w w' := by
  have HF := hide hF
  have M0 := hide ((Mod.refl No w).alloc (.cells (cmdCells c) 41))
  have B0 := hide (Has.new w (cmdCells c) 41)
  unfold cmdCells at M0 B0 ⊢
  rw [hk] at M0 B0 ⊢
  have f1 : ¬ c.flight < 1 := by omega
  have f2 : ¬ c.flight > 20 := by omega
  clear hF hk hf
  go_enter Tryz.func47, Tryz.ntmps47
  go_wp2_with fail
  refine ((unhide HF) _ (unhide M0)).mono ?_
  rintro e w1 ⟨rfl, rfl⟩
  go_wp2
  go_ret2
  exact ⟨rfl, unhide M0⟩

theorem klook_add (kb : Nat) (c : Cmd) (x y : Value) (hk : c.kind = 1) (hf : 1 ≤ c.flight ∧ c.flight ≤ 20) (w : World)
    (hF : ∀ W, Mod No w W → Calls Tryz.prog 55 #[.pointer (some ⟨kb, 0, none⟩), .int .i64 c.flight] W fun e w' => e = .returned (.pointer none) ∧ w' = W)
    (hA : ∀ W, Calls Tryz.prog 68 #[plaV c.pla] W fun e w' => e = .returned (.tuple #[x, y]) ∧ Mod No W w') :
    Calls Tryz.prog 47 #[.pointer (some ⟨kb, 0, none⟩), .agg (cmdCells c)] w fun e w' => e = .returned (.tuple #[x, y]) ∧ Mod No w w' := by
  have HF := hide hF
  have HA := hide hA
  have M0 := hide ((Mod.refl No w).alloc (.cells (cmdCells c) 41))
  have B0 := hide (Has.new w (cmdCells c) 41)
  unfold cmdCells at M0 B0 ⊢
  unfold plaV at HA
  rw [hk] at M0 B0 ⊢
  have f1 : ¬ c.flight < 1 := by omega
  have f2 : ¬ c.flight > 20 := by omega
  clear hF hk hf hA
  go_enter Tryz.func47, Tryz.ntmps47
  go_wp2_with fail
  refine ((unhide HF) _ (unhide M0)).mono ?_
  rintro e w1 ⟨rfl, rfl⟩
  go_wp2_with fail
  refine ((unhide HA) _).mono ?_
  rintro e w1 ⟨rfl, m1⟩
  have M1 := hide ((unhide M0).trans m1)
  clear m1
  go_wp2
  go_ret2
  exact ⟨rfl, unhide M1⟩

theorem klook_miss (kb : Nat) (c : Cmd) (hk : 2 ≤ c.kind ∧ c.kind ≤ 9 ∧ c.kind ≠ 8) (hf : 1 ≤ c.flight ∧ c.flight ≤ 20) (w : World)
    (hF : ∀ W, Mod No w W → Calls Tryz.prog 55 #[.pointer (some ⟨kb, 0, none⟩), .int .i64 c.flight] W fun e w' => e = .returned (.pointer none) ∧ w' = W) :
    Calls Tryz.prog 47 #[.pointer (some ⟨kb, 0, none⟩), .agg (cmdCells c)] w fun e w' => e = .returned (refuse 2) ∧ Mod No w w' := by
  have HF := hide hF
  have M0 := hide ((Mod.refl No w).alloc (.cells (cmdCells c) 41))
  unfold cmdCells at M0 ⊢
  have h1 : ¬ c.kind < 1 := by omega
  have h2 : ¬ c.kind > 9 := by omega
  have h3 : (c.kind == 8) = false := by simp [hk.2.2]
  have h4 : (c.kind == 1) = false := by simp; omega
  have f1 : ¬ c.flight < 1 := by omega
  have f2 : ¬ c.flight > 20 := by omega
  clear hF hk hf
  go_enter Tryz.func47, Tryz.ntmps47
  go_wp2_with fail
  refine ((unhide HF) _ (unhide M0)).mono ?_
  rintro e w1 ⟨rfl, rfl⟩
  go_wp2
  go_ret2
  exact ⟨rfl, unhide M0⟩

theorem klook_fl (kb b : Nat) (c : Cmd) (now : Int) (x y : Value) (cs : Array Value) (hk : 2 ≤ c.kind ∧ c.kind ≤ 9 ∧ c.kind ≠ 8) (hf : 1 ≤ c.flight ∧ c.flight ≤ 20) (w : World) (h : Has w kb cs 116) (h0 : cs[0]? = some (.int .i64 now))
    (hF : ∀ W, Mod No w W → Calls Tryz.prog 55 #[.pointer (some ⟨kb, 0, none⟩), .int .i64 c.flight] W fun e w' => e = .returned (.pointer (some ⟨b, 0, none⟩)) ∧ w' = W)
    (hL : ∀ W, Mod No w W → Calls Tryz.prog 69 #[.pointer (some ⟨b, 0, none⟩), .agg (cmdCells c), .int .i64 now] W fun e w' => e = .returned (.tuple #[x, y]) ∧ Mod No W w') :
    Calls Tryz.prog 47 #[.pointer (some ⟨kb, 0, none⟩), .agg (cmdCells c)] w fun e w' => e = .returned (.tuple #[x, y]) ∧ Mod No w w' := by
  have HF := hide hF
  have HL := hide hL
  have c0 := h.cell 0
  rw [h0] at c0
  have hlt := h.lt
  have M0 := hide ((Mod.refl No w).alloc (.cells (cmdCells c) 41))
  unfold cmdCells at M0 HL ⊢
  have h1 : ¬ c.kind < 1 := by omega
  have h2 : ¬ c.kind > 9 := by omega
  have h3 : (c.kind == 8) = false := by simp [hk.2.2]
  have h4 : (c.kind == 1) = false := by simp; omega
  have f1 : ¬ c.flight < 1 := by omega
  have f2 : ¬ c.flight > 20 := by omega
  have HH := hide h
  clear hF hL hk hf h
  go_enter Tryz.func47, Tryz.ntmps47
  go_wp2_with fail
  refine ((unhide HF) _ (unhide M0)).mono ?_
  rintro e w1 ⟨rfl, rfl⟩
  go_wp2_with fail
  go_region_with (go_at_call 69; refine ((unhide HL) _ ((unhide M0).drew)).mono ?_; rintro e w3 ⟨rfl, hm3⟩; have c03 := (((unhide M0).drew.trans hm3).has (unhide HH) (fun x => x)).cell 0; rw [h0] at c03)
  all_goals go_wp2
  all_goals go_ret2
  all_goals exact ⟨rfl, (unhide M0).drew.trans hm3⟩
end Go.Proofs.YtlcbemcamdafjaaGreat
