import Derived.Test.YthhibagcpjeihaaGreatIRef13ToRef15
import Derived.Test.YthhibagcpjeihaaGreatILook7ToRef7
import Derived.BigQuiet
import Derived.Handy
import Derived.Deep.QuietTactic
namespace Go.Proofs.YthhibagcpjeihaaGreat
open Go.RowKit
open M
set_option linter.unusedVariables false
set_option linter.unusedSimpArgs false
set_option maxRecDepth 100000
set_option maxHeartbeats 8000000
theorem WorR.flsV {w : World} {ow : Nat → Nat} {wb : Nat} {v : Value} {xs : List FR} {now : Int} (h : WorR w ow wb v xs now) : FlsV w v xs := by
 rcases h.fls with h1 | ⟨gf, cap, h1, h2, h3⟩
 ·exact .inl h1
 ·exact .inr ⟨gf, cap, h1, h2⟩
theorem WorR.find {w : World} {ow : Nat → Nat} {wb : Nat} {v : Value} {xs : List FR} {now : Int} (h : WorR w ow wb v xs now) (n : Int) :
  Calls Tryz.prog 52 #[.pointer (some ⟨wb, 0, none⟩), .int .i64 n] w fun e w' => e = .returned (.int .i64 (findN xs n)) ∧ w' = w :=
 rfind_any wb xs v n w (h.has.cell 0) h.flsV (Nat.le_trans h.few (by omega))
theorem WorR.some {w : World} {ow : Nat → Nat} {wb : Nat} {v : Value} {xs : List FR} {now : Int} (h : WorR w ow wb v xs now) (hne : 0 < xs.length) : ∃ gf cap, v = .slice (some ⟨gf, 0, none⟩) xs.length cap := by
 rcases h.fls with ⟨rfl, _⟩ | ⟨gf, cap, h1, _⟩
 ·exact absurd hne (Nat.lt_irrefl _)
 ·exact ⟨gf, cap, h1⟩
theorem wleft_no {w : World} {ow : Nat → Nat} {wb : Nat} {v : Value} {xs : List FR} {now : Int} (h : WorR w ow wb v xs now) (n c : Int) (hn : findN xs n = -1) :
  Calls Tryz.prog 34 #[.pointer (some ⟨wb, 0, none⟩), .int .i64 n, .int .i64 c] w fun e w' => e = .returned (.tuple #[.int .i64 0, .int .i64 2]) ∧ Mod No w w' := by
 have HF := h.find n
 rw [hn] at HF
 have HF := hide HF
 clear h hn
 go_enter Tryz.func34, Tryz.ntmps34
 go_wp2_with fail
 refine (unhide HF).mono ?_
 rintro e w1 ⟨rfl, rfl⟩
 go_wp2
 go_ret2
 exact ⟨rfl, Mod.refl _ _⟩
theorem wleft_class {w : World} {ow : Nat → Nat} {wb : Nat} {v : Value} {xs : List FR} {now : Int} (h : WorR w ow wb v xs now) (n c : Int) (i : Nat) (hn : findN xs n = i) (hc : ¬ (0 ≤ c ∧ c < 4)) :
  Calls Tryz.prog 34 #[.pointer (some ⟨wb, 0, none⟩), .int .i64 n, .int .i64 c] w fun e w' => e = .returned (.tuple #[.int .i64 0, .int .i64 6]) ∧ Mod No w w' := by
 have HF := h.find n
 rw [hn] at HF
 have HF := hide HF
 have h0 : ¬ (i : Int) < 0 := by omega
 clear h hn
 rcases Int.lt_or_le c 0 with h1 | h1
 ·clear hc
  go_enter Tryz.func34, Tryz.ntmps34
  go_wp2_with fail
  refine (unhide HF).mono ?_
  rintro e w1 ⟨rfl, rfl⟩
  go_wp2
  go_ret2
  exact ⟨rfl, Mod.refl _ _⟩
 ·have h2 : ¬ c < 0 := by omega
  have h3 : c ≥ 4 := by omega
  clear hc
  go_enter Tryz.func34, Tryz.ntmps34
  go_wp2_with fail
  refine (unhide HF).mono ?_
  rintro e w1 ⟨rfl, rfl⟩
  go_wp2
  go_ret2
  exact ⟨rfl, Mod.refl _ _⟩
theorem wleft_yes {w : World} {ow : Nat → Nat} {wb gf cap : Nat} {xs : List FR} {now : Int} (h : WorR w ow wb (.slice (some ⟨gf, 0, none⟩) xs.length cap) xs now) (n : Int) (i : Nat) (hi : i < xs.length) (hn : findN xs n = i) (k : Nat) (hk : k < 4) :
  Calls Tryz.prog 34 #[.pointer (some ⟨wb, 0, none⟩), .int .i64 n, .int .i64 k] w fun e w' => e = .returned (.tuple #[.int .i64 (min (M.leftOf xs[i].f.pla xs[i].f.seats k) 9), .int .i64 0]) ∧ Mod No w w' := by
 have HF := h.find n
 rw [hn] at HF
 have HF := hide HF
 have fl := h.fl i hi
 have wf := (h.seats i hi).2.2
 have HL := hide (rleft_any gf (i * 10) xs[i].g xs[i].cap xs[i].f.pla xs[i].f.seats k hk w fl.row fl.len fl.slice (limited_bounds wf.limited) fl.lims)
 have hc := h.has.cell
 have h0 : ¬ (i : Int) < 0 := by omega
 have h1 : (i : Int) < (xs.length : Int) := by omega
 have h2 : ¬ (k : Int) < 0 := by omega
 have h3 : ¬ (k : Int) ≥ 4 := by omega
 clear h hn fl wf
 generalize M.leftOf xs[i].f.pla xs[i].f.seats k = lf at *
 by_cases h9 : lf > 9
 ·have HE := hide (show min lf 9 = 9 by omega)
  go_enter Tryz.func34, Tryz.ntmps34
  go_wp2_with fail
  refine (unhide HF).mono ?_
  rintro e w1 ⟨rfl, rfl⟩
  go_wp2_with fail
  refine (unhide HL).mono ?_
  rintro e w2 ⟨rfl, m2⟩
  go_wp2
  go_ret2
  exact ⟨by rw [unhide HE]; rfl, m2⟩
 ·have HE := hide (show min lf 9 = lf by omega)
  go_enter Tryz.func34, Tryz.ntmps34
  go_wp2_with fail
  refine (unhide HF).mono ?_
  rintro e w1 ⟨rfl, rfl⟩
  go_wp2_with fail
  refine (unhide HL).mono ?_
  rintro e w2 ⟨rfl, m2⟩
  go_wp2
  go_ret2
  exact ⟨by rw [unhide HE]; rfl, m2⟩
theorem rfits_any (m c r : Int) (hm : 0 ≤ m ∧ m ≤ 1000000) (hc : 0 ≤ c ∧ c ≤ 1099511627776) (w : World) :
  Calls Tryz.prog 21 #[.int .i64 m, .int .i64 c, .int .i64 r] w fun e w' => e = .returned (.bool (decide (2 * m + 60 * (c + 1) + 180 ≤ r))) ∧ w' = w := by
 have w1 : IntKind.i64.wrap (2 * m) = 2 * m := wrap_fit _ (by omega) (by omega)
 have w2 : IntKind.i64.wrap (c + 1) = c + 1 := wrap_fit _ (by omega) (by omega)
 have w3 : IntKind.i64.wrap (60 * (c + 1)) = 60 * (c + 1) := wrap_fit _ (by omega) (by omega)
 have w4 : IntKind.i64.wrap (2 * m + 60 * (c + 1)) = 2 * m + 60 * (c + 1) := wrap_fit _ (by omega) (by omega)
 have w5 : IntKind.i64.wrap (2 * m + 60 * (c + 1) + 180) = 2 * m + 60 * (c + 1) + 180 := wrap_fit _ (by omega) (by omega)
 go_enter Tryz.func21, Tryz.ntmps21
 go_wp2
 go_ret
 exact ⟨rfl, rfl⟩
open Go.ChangeMaps (setBlock)
set_option maxHeartbeats 2000000
theorem tickLook_yes (t now : Int) (w : World) (h1 : 1 ≤ t) (h2 : t ≤ 100) (hn : 0 ≤ now ∧ now ≤ 4611686018427387000) :
  Calls Tryz.prog 75 #[.int .i64 t, .int .i64 now] w fun e w' => e = .returned (.tuple #[passV (now + t), .int .i64 0]) ∧ w' = w := by
 have h1' : ¬ t < 1 := by omega
 have h2' : ¬ t > 100 := by omega
 have hw : IntKind.i64.wrap (now + t) = now + t := wrap_id _ (by omega) (by omega)
 go_enter Tryz.func75, Tryz.ntmps75
 go_wp2
 go_ret2
 exact ⟨rfl, rfl⟩
theorem tickLook_out (t now : Int) (w : World) (h : ¬ (1 ≤ t ∧ t ≤ 100)) :
  Calls Tryz.prog 75 #[.int .i64 t, .int .i64 now] w fun e w' => e = .returned (.tuple #[.nilIface, .int .i64 8]) ∧ w' = w := by
 by_cases h1 : t < 1
 ·go_enter Tryz.func75, Tryz.ntmps75
  go_wp2
  go_ret2
  exact ⟨rfl, rfl⟩
 ·have h2 : t > 100 := by omega
  go_enter Tryz.func75, Tryz.ntmps75
  go_wp2
  go_ret2
  exact ⟨rfl, rfl⟩
theorem klook_bad (kb : Nat) (c : Cmd) (hk : c.kind < 1 ∨ c.kind > 9) (w : World) :
  Calls Tryz.prog 49 #[.pointer (some ⟨kb, 0, none⟩), .agg (cmdCells c)] w fun e w' => e = .returned (refuse 1) ∧ Mod No w w' := by
 have M0 := hide ((Mod.refl No w).alloc (.cells (cmdCells c) 41))
 unfold cmdCells at M0 ⊢
 rcases Int.lt_or_le c.kind 1 with h1 | h1
 ·clear hk
  go_enter Tryz.func49, Tryz.ntmps49
  go_wp2
  go_ret2
  exact ⟨rfl, unhide M0⟩
 ·have h2 : c.kind > 9 := by omega
  have h1' : ¬ c.kind < 1 := by omega
  clear hk
  go_enter Tryz.func49, Tryz.ntmps49
  go_wp2
  go_ret2
  exact ⟨rfl, unhide M0⟩
theorem klook_tick (kb : Nat) (c : Cmd) (now : Int) (x y : Value) (hk : c.kind = 8) (w : World)
  (hN : ∀ W, Mod No w W → Calls Tryz.prog 32 #[.pointer (some ⟨kb, 0, none⟩)] W fun e w' => e = .returned (.int .i64 now) ∧ w' = W)
  (hT : ∀ W, Calls Tryz.prog 75 #[.int .i64 c.time, .int .i64 now] W fun e w' => e = .returned (.tuple #[x, y]) ∧ w' = W) :
  Calls Tryz.prog 49 #[.pointer (some ⟨kb, 0, none⟩), .agg (cmdCells c)] w fun e w' => e = .returned (.tuple #[x, y]) ∧ Mod No w w' := by
 have HN := hide hN
 have HT := hide hT
 have M0 := hide ((Mod.refl No w).alloc (.cells (cmdCells c) 41))
 unfold cmdCells at M0 ⊢
 rw [hk] at M0 ⊢
 clear hN hT hk
 go_enter Tryz.func49, Tryz.ntmps49
 go_wp2_with fail
 go_quiet (first | (go_at_call 32; exact Calls.quiet_of_same ((unhide HN) _ ((unhide M0).drewN _))) | (go_at_call 75; exact Calls.quiet_of_same ((unhide HT) _)))
 go_wp2
 go_ret2
 exact ⟨rfl, (unhide M0).drewN _⟩
theorem klook_num (kb : Nat) (c : Cmd) (hk : 1 ≤ c.kind ∧ c.kind ≤ 9 ∧ c.kind ≠ 8) (hf : ¬ (1 ≤ c.flight ∧ c.flight ≤ 20)) (w : World) :
  Calls Tryz.prog 49 #[.pointer (some ⟨kb, 0, none⟩), .agg (cmdCells c)] w fun e w' => e = .returned (refuse 2) ∧ Mod No w w' := by
 have M0 := hide ((Mod.refl No w).alloc (.cells (cmdCells c) 41))
 unfold cmdCells at M0 ⊢
 have h1 : ¬ c.kind < 1 := by omega
 have h2 : ¬ c.kind > 9 := by omega
 have h3 : (c.kind == 8) = false := by simp [hk.2.2]
 rcases Int.lt_or_le c.flight 1 with f1 | f1
 ·clear hk hf
  go_enter Tryz.func49, Tryz.ntmps49
  go_wp2
  go_ret2
  exact ⟨rfl, unhide M0⟩
 ·have f2 : c.flight > 20 := by omega
  have f1' : ¬ c.flight < 1 := by omega
  clear hk hf
  go_enter Tryz.func49, Tryz.ntmps49
  go_wp2
  go_ret2
  exact ⟨rfl, unhide M0⟩
theorem klook_twice (kb b : Nat) (c : Cmd) (hk : c.kind = 1) (hf : 1 ≤ c.flight ∧ c.flight ≤ 20) (w : World)
  (hF : ∀ W, Mod No w W → Calls Tryz.prog 59 #[.pointer (some ⟨kb, 0, none⟩), .int .i64 c.flight] W fun e w' => e = .returned (.pointer (some ⟨b, 0, none⟩)) ∧ w' = W) :
  Calls Tryz.prog 49 #[.pointer (some ⟨kb, 0, none⟩), .agg (cmdCells c)] w fun e w' => e = .returned (refuse 3) ∧ Mod No w w' := by
 have HF := hide hF
 have M0 := hide ((Mod.refl No w).alloc (.cells (cmdCells c) 41))
 have B0 := hide (Has.new w (cmdCells c) 41)
 unfold cmdCells at M0 B0 ⊢
 rw [hk] at M0 B0 ⊢
 have f1 : ¬ c.flight < 1 := by omega
 have f2 : ¬ c.flight > 20 := by omega
 clear hF hk hf
 go_enter Tryz.func49, Tryz.ntmps49
 go_wp2_with fail
 refine ((unhide HF) _ (unhide M0)).mono ?_
 rintro e w1 ⟨rfl, rfl⟩
 go_wp2
 go_ret2
 exact ⟨rfl, unhide M0⟩
theorem klook_add (kb : Nat) (c : Cmd) (x y : Value) (hk : c.kind = 1) (hf : 1 ≤ c.flight ∧ c.flight ≤ 20) (w : World)
  (hF : ∀ W, Mod No w W → Calls Tryz.prog 59 #[.pointer (some ⟨kb, 0, none⟩), .int .i64 c.flight] W fun e w' => e = .returned (.pointer none) ∧ w' = W)
  (hA : ∀ W, Calls Tryz.prog 76 #[plaV c.pla] W fun e w' => e = .returned (.tuple #[x, y]) ∧ Mod No W w') :
  Calls Tryz.prog 49 #[.pointer (some ⟨kb, 0, none⟩), .agg (cmdCells c)] w fun e w' => e = .returned (.tuple #[x, y]) ∧ Mod No w w' := by
 have HF := hide hF
 have HA := hide hA
 have M0 := hide ((Mod.refl No w).alloc (.cells (cmdCells c) 41))
 have B0 := hide (Has.new w (cmdCells c) 41)
 unfold cmdCells at M0 B0 ⊢
 unfold plaV at HA
 rw [hk] at M0 B0 ⊢
 have f1 : ¬ c.flight < 1 := by omega
 have f2 : ¬ c.flight > 20 := by omega
 clear hF hk hf hA
 go_enter Tryz.func49, Tryz.ntmps49
 go_wp2_with fail
 refine ((unhide HF) _ (unhide M0)).mono ?_
 rintro e w1 ⟨rfl, rfl⟩
 go_wp2_with fail
 refine ((unhide HA) _).mono ?_
 rintro e w1 ⟨rfl, m1⟩
 have M1 := hide ((unhide M0).trans m1)
 clear m1
 go_wp2
 go_ret2
 exact ⟨rfl, unhide M1⟩
theorem klook_miss (kb : Nat) (c : Cmd) (hk : 2 ≤ c.kind ∧ c.kind ≤ 9 ∧ c.kind ≠ 8) (hf : 1 ≤ c.flight ∧ c.flight ≤ 20) (w : World)
  (hF : ∀ W, Mod No w W → Calls Tryz.prog 59 #[.pointer (some ⟨kb, 0, none⟩), .int .i64 c.flight] W fun e w' => e = .returned (.pointer none) ∧ w' = W) :
  Calls Tryz.prog 49 #[.pointer (some ⟨kb, 0, none⟩), .agg (cmdCells c)] w fun e w' => e = .returned (refuse 2) ∧ Mod No w w' := by
 have HF := hide hF
 have M0 := hide ((Mod.refl No w).alloc (.cells (cmdCells c) 41))
 unfold cmdCells at M0 ⊢
 have h1 : ¬ c.kind < 1 := by omega
 have h2 : ¬ c.kind > 9 := by omega
 have h3 : (c.kind == 8) = false := by simp [hk.2.2]
 have h4 : (c.kind == 1) = false := by simp; omega
 have f1 : ¬ c.flight < 1 := by omega
 have f2 : ¬ c.flight > 20 := by omega
 clear hF hk hf
 go_enter Tryz.func49, Tryz.ntmps49
 go_wp2_with fail
 refine ((unhide HF) _ (unhide M0)).mono ?_
 rintro e w1 ⟨rfl, rfl⟩
 go_wp2
 go_ret2
 exact ⟨rfl, unhide M0⟩
theorem klook_fl (kb b : Nat) (c : Cmd) (now : Int) (x y : Value) (cs : Array Value) (hk : 2 ≤ c.kind ∧ c.kind ≤ 9 ∧ c.kind ≠ 8) (hf : 1 ≤ c.flight ∧ c.flight ≤ 20) (w : World) (h : Has w kb cs 121) (h0 : cs[0]? = some (.int .i64 now))
  (hF : ∀ W, Mod No w W → Calls Tryz.prog 59 #[.pointer (some ⟨kb, 0, none⟩), .int .i64 c.flight] W fun e w' => e = .returned (.pointer (some ⟨b, 0, none⟩)) ∧ w' = W)
  (hL : ∀ W, Mod No w W → Calls Tryz.prog 77 #[.pointer (some ⟨b, 0, none⟩), .agg (cmdCells c), .int .i64 now] W fun e w' => e = .returned (.tuple #[x, y]) ∧ Mod No W w') :
  Calls Tryz.prog 49 #[.pointer (some ⟨kb, 0, none⟩), .agg (cmdCells c)] w fun e w' => e = .returned (.tuple #[x, y]) ∧ Mod No w w' := by
 have HF := hide hF
 have HL := hide hL
 have c0 := h.cell 0
 rw [h0] at c0
 have hlt := h.lt
 have M0 := hide ((Mod.refl No w).alloc (.cells (cmdCells c) 41))
 unfold cmdCells at M0 HL ⊢
 have h1 : ¬ c.kind < 1 := by omega
 have h2 : ¬ c.kind > 9 := by omega
 have h3 : (c.kind == 8) = false := by simp [hk.2.2]
 have h4 : (c.kind == 1) = false := by simp; omega
 have f1 : ¬ c.flight < 1 := by omega
 have f2 : ¬ c.flight > 20 := by omega
 have HH := hide h
 clear hF hL hk hf h
 go_enter Tryz.func49, Tryz.ntmps49
 go_wp2_with fail
 refine ((unhide HF) _ (unhide M0)).mono ?_
 rintro e w1 ⟨rfl, rfl⟩
 go_wp2_with fail
 go_region_with (go_at_call 77; refine ((unhide HL) _ ((unhide M0).drew)).mono ?_; rintro e w3 ⟨rfl, hm3⟩; have c03 := (((unhide M0).drew.trans hm3).has (unhide HH) (fun x => x)).cell 0; rw [h0] at c03)
 all_goals go_wp2
 all_goals go_ret2
 all_goals exact ⟨rfl, (unhide M0).drew.trans hm3⟩
theorem ta127 (v : Value) (w : World) : (Instr.typeAssert (.iface 159 v) 123 159 true).run Tryz.prog w = .ok (.tuple #[v, .bool true]) w := by kernel_rfl
theorem ta154 (v : Value) (w : World) : (Instr.typeAssert (.iface 189 v) 123 159 true).run Tryz.prog w = .ok (.tuple #[.agg #[.int .i64 0], .bool false]) w := by kernel_rfl
theorem ta173 (v : Value) (w : World) : (Instr.typeAssert (.iface 202 v) 123 159 true).run Tryz.prog w = .ok (.tuple #[.agg #[.int .i64 0], .bool false]) w := by kernel_rfl
theorem ta175 (v : Value) (w : World) : (Instr.typeAssert (.iface 214 v) 123 159 true).run Tryz.prog w = .ok (.tuple #[.agg #[.int .i64 0], .bool false]) w := by kernel_rfl
theorem ta177 (v : Value) (w : World) : (Instr.typeAssert (.iface 216 v) 123 159 true).run Tryz.prog w = .ok (.tuple #[.agg #[.int .i64 0], .bool false]) w := by kernel_rfl
theorem ta125 (v : Value) (w : World) : (Instr.typeAssert (.iface 212 v) 123 159 true).run Tryz.prog w = .ok (.tuple #[.agg #[.int .i64 0], .bool false]) w := by kernel_rfl
theorem nilAhead125 (v : Value) (w : World) : (nilAhead 357 212 v "Do").run Tryz.prog w = .ok (some false) w := by kernel_rfl
theorem method125 (v : Value) (w : World) : (method 357 212 v "Do").run Tryz.prog w = .ok (162, v) w := by kernel_rfl
attribute [local go_sem] ta125 nilAhead125 method125
theorem nilAhead154 (v : Value) (w : World) : (nilAhead 357 189 v "Do").run Tryz.prog w = .ok (some false) w := by kernel_rfl
theorem nilAhead173 (v : Value) (w : World) : (nilAhead 357 202 v "Do").run Tryz.prog w = .ok (some false) w := by kernel_rfl
theorem nilAhead175 (v : Value) (w : World) : (nilAhead 357 214 v "Do").run Tryz.prog w = .ok (some false) w := by kernel_rfl
theorem nilAhead177 (v : Value) (w : World) : (nilAhead 357 216 v "Do").run Tryz.prog w = .ok (some false) w := by kernel_rfl
attribute [local go_sem] nilAhead154 nilAhead173 nilAhead175 nilAhead177
theorem method154 (v : Value) (w : World) : (method 357 189 v "Do").run Tryz.prog w = .ok (158, v) w := by kernel_rfl
theorem method173 (v : Value) (w : World) : (method 357 202 v "Do").run Tryz.prog w = .ok (161, v) w := by kernel_rfl
theorem method175 (v : Value) (w : World) : (method 357 214 v "Do").run Tryz.prog w = .ok (165, v) w := by kernel_rfl
theorem method177 (v : Value) (w : World) : (method 357 216 v "Do").run Tryz.prog w = .ok (166, v) w := by kernel_rfl
attribute [local go_sem] method154 method173 method175 method177
attribute [local go_sem] ta127 ta154 ta173 ta175 ta177
theorem apply_pass (kb : Nat) (n nw : Int) (w : World) (P : World → Prop)
  (hC : ∀ W, Mod No w W → Calls Tryz.prog 72 #[.pointer (some ⟨kb, 0, none⟩), .agg #[.int .i64 nw]] W fun e w' => e = .returned (.tuple #[]) ∧ P w') :
  Calls Tryz.prog 44 #[.pointer (some ⟨kb, 0, none⟩), .agg #[.int .i64 n, passV nw]] w fun e w' => e = .returned (.tuple #[]) ∧ P w' := by
 have HC := hide hC
 have M0 := hide (((Mod.refl No w).alloc (.cells #[.int .i64 n, passV nw] 125)).alloc (.cells #[.int .i64 nw] 159))
 unfold passV at *
 clear hC
 go_enter Tryz.func44, Tryz.ntmps44
 go_wp2_with fail
 refine ((unhide HC) _ (unhide M0)).mono ?_
 rintro e w1 ⟨rfl, p1⟩
 go_wp2
 refine bodyPost_ret (results_none rfl _ _ _) rfl ?_
 exact ⟨rfl, p1⟩
theorem apply_fill (kb b n : Nat) (hn : 1 ≤ n ∧ n ≤ 20) (x0 x1 x2 x3 x4 x5 : Value) (cs : Array Value) (w : World) (P : World → Prop) (h : Has w kb cs 121) (hc : cs[1 + n]? = some (.pointer (some ⟨b, 0, none⟩)))
  (hC : ∀ W, Mod No w W → Calls Tryz.prog 161 #[.agg #[x0, x1, x2, x3, x4, x5], .pointer (some ⟨b, 0, none⟩)] W fun e w' => e = .returned (.tuple #[]) ∧ P w') :
  Calls Tryz.prog 44 #[.pointer (some ⟨kb, 0, none⟩), .agg #[.int .i64 n, .iface 202 (.agg #[x0, x1, x2, x3, x4, x5])]] w fun e w' => e = .returned (.tuple #[]) ∧ P w' := by
 have HC := hide hC
 have M0 := hide (((Mod.refl No w).alloc (.cells #[.int .i64 n, .iface 202 (.agg #[x0, x1, x2, x3, x4, x5])] 125)).alloc (.cells #[.int .i64 0] 159))
 have c := h.cell (1 + n)
 rw [hc] at c
 have hlt := h.lt
 have h3 : (n : Int) < 21 := by omega
 have h4 : (0 : Int) ≤ n := by omega
 clear h hc hC
 go_enter Tryz.func44, Tryz.ntmps44
 go_wp2_with fail
 go_quiet (fail)
 go_wp2_with fail
 go_region_with (go_at_call 161; refine ((unhide HC) _ ((unhide M0).drewN _).drew).mono ?_; rintro e w1 ⟨rfl, p1⟩)
 all_goals go_wp2
 all_goals go_end0
 all_goals exact ⟨rfl, p1⟩
theorem apply_empty (kb b n : Nat) (hn : 1 ≤ n ∧ n ≤ 20) (x0 x1 : Value) (cs : Array Value) (w : World) (P : World → Prop) (h : Has w kb cs 121) (hc : cs[1 + n]? = some (.pointer (some ⟨b, 0, none⟩)))
  (hC : ∀ W, Mod No w W → Calls Tryz.prog 165 #[.agg #[x0, x1], .pointer (some ⟨b, 0, none⟩)] W fun e w' => e = .returned (.tuple #[]) ∧ P w') :
  Calls Tryz.prog 44 #[.pointer (some ⟨kb, 0, none⟩), .agg #[.int .i64 n, .iface 214 (.agg #[x0, x1])]] w fun e w' => e = .returned (.tuple #[]) ∧ P w' := by
 have HC := hide hC
 have M0 := hide (((Mod.refl No w).alloc (.cells #[.int .i64 n, .iface 214 (.agg #[x0, x1])] 125)).alloc (.cells #[.int .i64 0] 159))
 have c := h.cell (1 + n)
 rw [hc] at c
 have hlt := h.lt
 have h3 : (n : Int) < 21 := by omega
 have h4 : (0 : Int) ≤ n := by omega
 clear h hc hC
 go_enter Tryz.func44, Tryz.ntmps44
 go_wp2_with fail
 go_quiet (fail)
 go_wp2_with fail
 go_region_with (go_at_call 165; refine ((unhide HC) _ ((unhide M0).drewN _).drew).mono ?_; rintro e w1 ⟨rfl, p1⟩)
 all_goals go_wp2
 all_goals go_end0
 all_goals exact ⟨rfl, p1⟩
theorem apply_shift (kb b n : Nat) (hn : 1 ≤ n ∧ n ≤ 20) (x0 x1 x2 x3 : Value) (cs : Array Value) (w : World) (P : World → Prop) (h : Has w kb cs 121) (hc : cs[1 + n]? = some (.pointer (some ⟨b, 0, none⟩)))
  (hC : ∀ W, Mod No w W → Calls Tryz.prog 166 #[.agg #[x0, x1, x2, x3], .pointer (some ⟨b, 0, none⟩)] W fun e w' => e = .returned (.tuple #[]) ∧ P w') :
  Calls Tryz.prog 44 #[.pointer (some ⟨kb, 0, none⟩), .agg #[.int .i64 n, .iface 216 (.agg #[x0, x1, x2, x3])]] w fun e w' => e = .returned (.tuple #[]) ∧ P w' := by
 have HC := hide hC
 have M0 := hide (((Mod.refl No w).alloc (.cells #[.int .i64 n, .iface 216 (.agg #[x0, x1, x2, x3])] 125)).alloc (.cells #[.int .i64 0] 159))
 have c := h.cell (1 + n)
 rw [hc] at c
 have hlt := h.lt
 have h3 : (n : Int) < 21 := by omega
 have h4 : (0 : Int) ≤ n := by omega
 clear h hc hC
 go_enter Tryz.func44, Tryz.ntmps44
 go_wp2_with fail
 go_quiet (fail)
 go_wp2_with fail
 go_region_with (go_at_call 166; refine ((unhide HC) _ ((unhide M0).drewN _).drew).mono ?_; rintro e w1 ⟨rfl, p1⟩)
 all_goals go_wp2
 all_goals go_end0
 all_goals exact ⟨rfl, p1⟩
theorem apply_refit (kb b n : Nat) (hn : 1 ≤ n ∧ n ≤ 20) (x0 x1 x2 : Value) (cs : Array Value) (w : World) (P : World → Prop) (h : Has w kb cs 121) (hc : cs[1 + n]? = some (.pointer (some ⟨b, 0, none⟩)))
  (hC : ∀ W, Mod No w W → Calls Tryz.prog 162 #[.agg #[x0, x1, x2], .pointer (some ⟨b, 0, none⟩)] W fun e w' => e = .returned (.tuple #[]) ∧ P w') :
  Calls Tryz.prog 44 #[.pointer (some ⟨kb, 0, none⟩), .agg #[.int .i64 n, .iface 212 (.agg #[x0, x1, x2])]] w fun e w' => e = .returned (.tuple #[]) ∧ P w' := by
 have HC := hide hC
 have M0 := hide (((Mod.refl No w).alloc (.cells #[.int .i64 n, .iface 212 (.agg #[x0, x1, x2])] 125)).alloc (.cells #[.int .i64 0] 159))
 have c := h.cell (1 + n)
 rw [hc] at c
 have hlt := h.lt
 have h3 : (n : Int) < 21 := by omega
 have h4 : (0 : Int) ≤ n := by omega
 clear h hc hC
 go_enter Tryz.func44, Tryz.ntmps44
 go_wp2_with fail
 go_quiet (fail)
 go_wp2_with fail
 go_region_with (go_at_call 162; refine ((unhide HC) _ ((unhide M0).drewN _).drew).mono ?_; rintro e w1 ⟨rfl, p1⟩)
 all_goals go_wp2
 all_goals go_end0
 all_goals exact ⟨rfl, p1⟩
def flight0 : Array Value := #[.int .i64 0, .int .i64 0, .int .i64 0, .int .i64 0, .int .i64 0, .int .i64 0, .int .i64 0, .map none, .int .i64 0, .int .i64 0, .int .i64 0, .int .i64 0, .int .i64 0, .int .i64 0, .int .i64 0, .int .i64 0, .int .i64 0, .int .i64 0, .int .i64 0, .int .i64 0, .int .i64 0, .int .i64 0, .int .i64 0, .int .i64 0, .int .i64 0]
structure NewF4 (w w5 : World) (kb n : Nat) (now : Int) (pt : Nat → Option Nat) : Prop where
 keep : Has w5 kb (keepCells now (updP pt n (w.heap.size + 2))) 121
 fli : Has w5 (w.heap.size + 2) flight0 164
 mod : Mod (fun k => k = kb) w w5
theorem newF4 {w w0 : World} {kb n : Nat} {now : Int} {pt : Nat → Option Nat} (hn : 1 ≤ n ∧ n ≤ 20) (h : Has w0 kb (keepCells now pt) 121) (hm : Mod No w w0) (hs : w0.heap.size = w.heap.size + 2) :
  NewF4 w ((w0.setCell ⟨kb, 1 + n, none⟩ (.pointer (some ⟨w.heap.size + 2, 0, none⟩))).alloc (.cells flight0 164)) kb n now pt := by
 refine ⟨?_, ?_, (hm.mono (fun _ _ x => x.elim)).trans (((Mod.refl _ w0).at (1 + n) _).alloc _)⟩
 ·have := (h.set (1 + n) (pv (some (w.heap.size + 2)))).alloc (.cells flight0 164)
  rw [keep_set now pt n _ (by omega)] at this
  exact this
 ·have := Has.new (w0.setCell ⟨kb, 1 + n, none⟩ (.pointer (some ⟨w.heap.size + 2, 0, none⟩))) flight0 164
  rw [World.size_setCell, hs] at this
  exact this
theorem apply_new (kb n : Nat) (hn : 1 ≤ n ∧ n ≤ 20) (now : Int) (pt : Nat → Option Nat) (p : Pla) (w : World) (P : World → Prop) (h : Has w kb (keepCells now pt) 121) (hc : pt n = none)
  (hC : ∀ W, Mod (fun k => k = kb) w W → Has W kb (keepCells now (updP pt n (w.heap.size + 2))) 121 → Has W (w.heap.size + 2) (fcs 0 0 0 0 0 0 0 (.map none) 0 0 0 0 0 0 0 0 0 0 0 0 0 0 0 0 0) 164 →
   Calls Tryz.prog 158 #[plaV p, .pointer (some ⟨w.heap.size + 2, 0, none⟩)] W fun e w' => e = .returned (.tuple #[]) ∧ P w') :
  Calls Tryz.prog 44 #[.pointer (some ⟨kb, 0, none⟩), .agg #[.int .i64 n, startV p]] w fun e w' => e = .returned (.tuple #[]) ∧ P w' := by
 have HC := hide hC
 have m0 : Mod No w ((w.alloc (.cells #[.int .i64 n, startV p] 125)).alloc (.cells #[.int .i64 0] 159)) := ((Mod.refl _ w).alloc _).alloc _
 have h0 := m0.has h (fun x => x)
 have b0 : Has ((w.alloc (.cells #[.int .i64 n, startV p] 125)).alloc (.cells #[.int .i64 0] 159)) w.heap.size #[.int .i64 n, startV p] 125 := (Has.new w _ _).alloc _
 have H0 := hide h0
 have M0 := hide m0
 have B0 := hide b0
 have S0 := hide (show ((w.alloc (.cells #[.int .i64 n, startV p] 125)).alloc (.cells #[.int .i64 0] 159)).heap.size = w.heap.size + 2 by simp)
 have h3 : (n : Int) < 21 := by omega
 have h4 : (0 : Int) ≤ n := by omega
 have HH := hide h
 have HCC := hide hc
 unfold startV plaV at *
 clear h hc hC m0 h0 b0
 go_enter Tryz.func44, Tryz.ntmps44
 go_upto_region 4 with fail
 generalize (w.alloc (.cells #[.int .i64 n, .iface 189 (.agg #[.int .i64 p.rows, .int .i64 p.cols, .int .i64 p.front, .int .i64 p.l0, .int .i64 p.l1, .int .i64 p.l2, .int .i64 p.l3])] 125)).alloc (.cells #[.int .i64 0] 159) = w0 at *
 have c := (unhide H0).cell (1 + n)
 rw [keep_at now pt n (by omega), unhide HCC, show pv none = .pointer none from rfl] at c
 have e0 : w0.cell? ⟨w.heap.size, 0, none⟩ = some (.int .i64 n) := (unhide B0).cell 0
 have e1 : w0.cell? ⟨w.heap.size, 1, none⟩ = some (.iface 189 (.agg #[.int .i64 p.rows, .int .i64 p.cols, .int .i64 p.front, .int .i64 p.l0, .int .i64 p.l1, .int .i64 p.l2, .int .i64 p.l3])) := (unhide B0).cell 1
 have lk := (unhide H0).lt
 have lb := (unhide B0).lt
 have fz := (unhide H0).frozen (1 + n)
 have S1 := unhide S0
 rw [S1] at lk lb
 have NE := hide (show w.heap.size ≠ kb from fun e => by have := (unhide HH).lt; omega)
 go_quiet (fail)
 go_wp2_with fail
 go_region
 have nx := newF4 (w0 := w0.drewN (nq + 1)) hn ((unhide H0).drewN _) ((unhide M0).drewN _) S1
 have bx : Has (((w0.drewN (nq + 1)).setCell ⟨kb, 1 + n, none⟩ (.pointer (some ⟨w.heap.size + 2, 0, none⟩))).alloc (.cells flight0 164)) w.heap.size _ _ := (((unhide B0).drewN (nq + 1)).set_ne (a := ⟨kb, 1 + n, none⟩) (unhide NE) _).alloc _
 have NX := hide nx
 have BX := hide bx
 clear nx bx c e0 e1 lk lb fz S1 H0 M0 B0 S0
 unfold flight0 at NX BX
 generalize ((w0.drewN (nq + 1)).setCell ⟨kb, 1 + n, none⟩ (.pointer (some ⟨w.heap.size + 2, 0, none⟩))).alloc (.cells #[.int .i64 0, .int .i64 0, .int .i64 0, .int .i64 0, .int .i64 0, .int .i64 0, .int .i64 0, .map none, .int .i64 0, .int .i64 0, .int .i64 0, .int .i64 0, .int .i64 0, .int .i64 0, .int .i64 0, .int .i64 0, .int .i64 0, .int .i64 0, .int .i64 0, .int .i64 0, .int .i64 0, .int .i64 0, .int .i64 0, .int .i64 0, .int .i64 0] 164) = w5 at *
 have c5 := (unhide NX).keep.cell (1 + n)
 rw [keep_at now _ n (by omega), show pv (updP pt n (w.heap.size + 2) n) = .pointer (some ⟨w.heap.size + 2, 0, none⟩) by simp [updP, pv]] at c5
 have e0 : w5.cell? ⟨w.heap.size, 0, none⟩ = some (.int .i64 n) := (unhide BX).cell 0
 have e1 : w5.cell? ⟨w.heap.size, 1, none⟩ = some (.iface 189 (.agg #[.int .i64 p.rows, .int .i64 p.cols, .int .i64 p.front, .int .i64 p.l0, .int .i64 p.l1, .int .i64 p.l2, .int .i64 p.l3])) := (unhide BX).cell 1
 have l5 := (unhide NX).keep.lt
 have lb5 := (unhide BX).lt
 go_wp2_with fail
 go_region_with (go_at_call 158; refine ((unhide HC) _ (unhide NX).mod.drew (unhide NX).keep.drew (unhide NX).fli.drew).mono ?_; rintro e w1 ⟨rfl, p1⟩)
 all_goals go_wp2
 all_goals go_end0
 all_goals exact ⟨rfl, p1⟩
theorem do_refuse (kb : Nat) (c : Cmd) (x : Int) (hx : x ≠ 0) (w : World)
  (hL : ∀ W, Mod No w W → Calls Tryz.prog 49 #[.pointer (some ⟨kb, 0, none⟩), .agg (cmdCells c)] W fun e w' => e = .returned (refuse x) ∧ Mod No W w') :
  Calls Tryz.prog 25 #[.pointer (some ⟨kb, 0, none⟩), .agg (cmdCells c)] w fun e w' => e = .returned (.int .i64 x) ∧ Mod No w w' := by
 have HL := hide hL
 have M0 := hide ((Mod.refl No w).alloc (.cells (cmdCells c) 41))
 have B0 := hide (Has.new w (cmdCells c) 41)
 have hd : (x != 0) = true := by simp [hx]
 unfold cmdCells refuse at *
 clear hL hx
 go_enter Tryz.func25, Tryz.ntmps25
 go_wp2_with fail
 refine ((unhide HL) _ (unhide M0)).mono ?_
 rintro e w1 ⟨rfl, m1⟩
 go_wp2
 go_ret
 exact ⟨rfl, (unhide M0).trans m1⟩
theorem do_stop (kb : Nat) (c : Cmd) (t : TypeId) (u : Value) (x : Int) (hx : x ≠ 0) (w : World) (R : World → Prop)
  (hL : ∀ W, Mod No w W → Calls Tryz.prog 49 #[.pointer (some ⟨kb, 0, none⟩), .agg (cmdCells c)] W fun e w' => e = .returned (grant (.iface t u)) ∧ Mod No W w')
  (hS : ∀ W, Mod No w W → Calls Tryz.prog 50 #[.pointer (some ⟨kb, 0, none⟩), .agg #[.int .i64 c.flight, .iface t u]] W fun e w' => e = .returned (.int .i64 x) ∧ R w') :
  Calls Tryz.prog 25 #[.pointer (some ⟨kb, 0, none⟩), .agg (cmdCells c)] w fun e w' => e = .returned (.int .i64 x) ∧ R w' := by
 have HL := hide hL
 have HS := hide hS
 have M0 := hide ((Mod.refl No w).alloc (.cells (cmdCells c) 41))
 have B0 := hide (Has.new w (cmdCells c) 41)
 have hd : (x != 0) = true := by simp [hx]
 unfold cmdCells grant at *
 clear hL hS hx
 go_enter Tryz.func25, Tryz.ntmps25
 go_wp2_with fail
 refine ((unhide HL) _ (unhide M0)).mono ?_
 rintro e w1 ⟨rfl, m1⟩
 have cb := (m1.has (unhide B0) (fun x => x)).cell
 have lb := (m1.has (unhide B0) (fun x => x)).lt
 have M1 := hide ((unhide M0).trans m1)
 clear m1
 have M2 := hide ((unhide M1).alloc (.cells #[.int .i64 c.flight, .iface t u] 125))
 go_wp2_with fail
 refine ((unhide HS) _ (unhide M2)).mono ?_
 rintro e w2 ⟨rfl, p2⟩
 clear cb
 go_wp2
 go_ret
 exact ⟨rfl, p2⟩
theorem do_grant (kb : Nat) (c : Cmd) (t : TypeId) (u : Value) (w : World) (R P : World → Prop)
  (hL : ∀ W, Mod No w W → Calls Tryz.prog 49 #[.pointer (some ⟨kb, 0, none⟩), .agg (cmdCells c)] W fun e w' => e = .returned (grant (.iface t u)) ∧ Mod No W w')
  (hS : ∀ W b, Mod No w W → w.heap.size ≤ b → Has W b #[.int .i64 c.flight, .iface t u] 125 → Calls Tryz.prog 50 #[.pointer (some ⟨kb, 0, none⟩), .agg #[.int .i64 c.flight, .iface t u]] W fun e w' => e = .returned (.int .i64 0) ∧ R w' ∧ Has w' b #[.int .i64 c.flight, .iface t u] 125)
  (hA : ∀ W, R W → Calls Tryz.prog 44 #[.pointer (some ⟨kb, 0, none⟩), .agg #[.int .i64 c.flight, .iface t u]] W fun e w' => e = .returned (.tuple #[]) ∧ P w') :
  Calls Tryz.prog 25 #[.pointer (some ⟨kb, 0, none⟩), .agg (cmdCells c)] w fun e w' => e = .returned (.int .i64 0) ∧ P w' := by
 have HL := hide hL
 have HS := hide hS
 have HA := hide hA
 have M0 := hide ((Mod.refl No w).alloc (.cells (cmdCells c) 41))
 have B0 := hide (Has.new w (cmdCells c) 41)
 unfold cmdCells grant at *
 clear hL hS hA
 go_enter Tryz.func25, Tryz.ntmps25
 go_wp2_with fail
 refine ((unhide HL) _ (unhide M0)).mono ?_
 rintro e w1 ⟨rfl, m1⟩
 have cb := (m1.has (unhide B0) (fun x => x)).cell
 have lb := (m1.has (unhide B0) (fun x => x)).lt
 have M1 := hide ((unhide M0).trans m1)
 clear m1
 have M2 := hide ((unhide M1).alloc (.cells #[.int .i64 c.flight, .iface t u] 125))
 have B2 := hide (Has.new w1 #[.int .i64 c.flight, .iface t u] 125)
 have HSZ := hide (unhide M1).size
 go_wp2_with fail
 refine ((unhide HS) _ _ (unhide M2) (unhide HSZ) (unhide B2)).mono ?_
 rintro e w2 ⟨rfl, p2, hb2⟩
 have e0 : w2.cell? ⟨w1.heap.size, 0, none⟩ = some (.int .i64 c.flight) := hb2.cell 0
 have e1 : w2.cell? ⟨w1.heap.size, 1, none⟩ = some (.iface t u) := hb2.cell 1
 have le := hb2.lt
 have HA2 := hide ((unhide HA) _ p2)
 clear cb hb2 p2 HS HL
 go_wp2_with fail
 refine (unhide HA2).mono ?_
 rintro e w3 ⟨rfl, p3⟩
 have P3 := hide p3
 clear p3
 go_wp2
 go_ret
 exact ⟨rfl, unhide P3⟩
theorem seatErr_zero {p : Pla} {l : List Sea} {c : Cmd} {now : Int} (h : seatErr p l c now = 0) (h9 : c.kind ≠ 9) :
  c.kind ≠ 9 ∧ p.has c.ar c.ac = true ∧ (c.kind = 5 → p.has c.tr c.tc = true ∧ ownerN (seatAt p l c.ar c.ac).st (seatAt p l c.ar c.ac).pa c.party = 0 ∧ (seatAt p l c.tr c.tc).st = 0) ∧
   (c.kind = 2 → buyer c = 0 ∧ now < c.time ∧ c.time ≤ now + 100) ∧ (c.kind = 3 → buyer c = 0) := by
 unfold seatErr at h
 rw [if_neg h9] at h
 by_cases hor : p.has c.ar c.ac = false ∨ (c.kind = 5 ∧ p.has c.tr c.tc = false)
 ·rw [if_pos hor] at h; exact absurd h (by omega)
 rw [if_neg hor] at h
 have hat : p.has c.ar c.ac = true := by
  cases hb : p.has c.ar c.ac with
  | true => rfl
  | false => exact absurd (.inl hb) hor
 refine ⟨h9, hat, fun h5 => ?_, fun h2 => ?_, fun h3 => ?_⟩
 ·have hto : p.has c.tr c.tc = true := by
   cases hb : p.has c.tr c.tc with
   | true => rfl
   | false => exact absurd (.inr ⟨h5, hb⟩) hor
  rw [if_neg (by omega), if_neg (by omega), if_neg (by omega), if_pos h5] at h
  by_cases ho : ownerN (seatAt p l c.ar c.ac).st (seatAt p l c.ar c.ac).pa c.party = 0
  ·rw [if_neg (by simpa using ho)] at h
   by_cases hs : (seatAt p l c.tr c.tc).st = 0
   ·exact ⟨hto, ho, hs⟩
   ·rw [if_pos hs] at h; exact absurd h (by omega)
  ·rw [if_pos ho] at h; exact absurd h ho
 ·rw [if_pos h2] at h
  by_cases hb : buyer c = 0
  ·rw [if_neg (by simpa using hb)] at h
   by_cases ht : c.time ≤ now ∨ c.time > now + 100
   ·rw [if_pos ht] at h; exact absurd h (by omega)
   ·exact ⟨hb, by omega, by omega⟩
  ·rw [if_pos hb] at h; exact absurd h hb
 ·rw [if_neg (by omega), if_pos h3] at h
  by_cases hb : buyer c = 0
  ·exact hb
  ·rw [if_pos hb] at h; exact absurd h hb
theorem owner_zero {st pa party : Int} (h : ownerN st pa party = 0) : st = 1 ∨ st = 2 := by
 unfold ownerN at h
 by_cases hs : st = 1 ∨ st = 2
 ·exact hs
 ·rw [if_pos hs] at h; exact absurd h (by omega)
theorem seatNew_wf {p : Pla} {l : List Sea} (hwf : Wf p l) {c : Cmd} {now : Int} (hn : 0 ≤ now ∧ now ≤ 4611686018427387000) (h : seatErr p l c now = 0) (h9 : c.kind ≠ 9) : Wf p (seatNew p l c) := by
 obtain ⟨h9, hat, h5, h2, h3⟩ := seatErr_zero h h9
 obtain ⟨hi, he, her, hec⟩ := seatAt_eq hwf hat
 have hswf : (seatAt p l c.ar c.ac).wf := by rw [he]; exact hwf.seat _ (List.getElem_mem hi)
 unfold seatNew
 rw [if_neg h9]
 by_cases k2 : c.kind = 2
 ·rw [if_pos k2]
  have hb := buyer_ok (h2 k2).1
  have ht := h2 k2
  exact hwf.set hi ⟨by simp, by simp, by simp; omega, by simp; omega, by simp, by simp; omega, by simp; omega, by simp⟩ her.symm hec.symm
 rw [if_neg k2]
 by_cases k3 : c.kind = 3
 ·rw [if_pos k3]
  have hb := buyer_ok (h3 k3)
  exact hwf.set hi ⟨by simp, by simp, by simp; omega, by simp; omega, by simp, by simp; omega, by simp, by simp⟩ her.symm hec.symm
 rw [if_neg k3]
 by_cases k5 : c.kind = 5
 ·rw [if_pos k5]
  obtain ⟨hto, ho, hs⟩ := h5 k5
  obtain ⟨hj, hje, hjr, hjc⟩ := seatAt_eq hwf hto
  have h1 : Wf p (l.set (p.idx c.ar c.ac) (seatAt p l c.ar c.ac).freed) := hwf.set hi (freed_wf _) (by rw [he]; rfl) (by rw [he]; rfl)
  have hj' : p.idx c.tr c.tc < (l.set (p.idx c.ar c.ac) (seatAt p l c.ar c.ac).freed).length := by simpa using hj
  obtain ⟨hj2, hje2, hjr2, hjc2⟩ := seatAt_eq h1 hto
  exact h1.set hj2 ⟨hswf.s0, hswf.s1, hswf.c0, hswf.c1, hswf.bare, hswf.pa, hswf.un, hswf.bk⟩ hjr2.symm hjc2.symm
 rw [if_neg k5]
 by_cases k6 : c.kind = 6
 ·rw [if_pos k6]
  exact hwf.set hi ⟨by simp, by simp, by simp, by simp, by simp, by simp, by simp, by simp⟩ her.symm hec.symm
 rw [if_neg k6]
 exact hwf.set hi (freed_wf _) (by rw [he]; rfl) (by rw [he]; rfl)
theorem apply_seat {w : World} {ow : Nat → Nat} {kb : Nat} {now : Int} {pt : Nat → Option Nat} {fl : Nat → Option (Pla × List Sea)} (h : KeepX w ow kb now pt fl) (n : Nat) (hn : 1 ≤ n ∧ n ≤ 20) {p : Pla} {l : List Sea} (hfl : fl n = some (p, l))
  (hnow : 0 ≤ now ∧ now ≤ 4611686018427387000) (c : Cmd) (hk : 2 ≤ c.kind ∧ c.kind ≤ 9 ∧ c.kind ≠ 8) (he : seatErr p l c now = 0) (h9 : c.kind ≠ 9) :
  Calls Tryz.prog 44 #[.pointer (some ⟨kb, 0, none⟩), .agg #[.int .i64 n, changeV c]] w fun e w' =>
   e = .returned (.tuple #[]) ∧ KeepX w' ow kb now pt (fun j => if j = n then some (p.next, seatNew p l c) else fl j) ∧ Mod (fun k => ow k ≠ 0 ∧ ow k < 30) w w' := by
 obtain ⟨b, hp, hwf, hf⟩ := h.here n p l (by omega) hfl
 have hc : (keepCells now pt)[1 + n]? = some (.pointer (some ⟨b, 0, none⟩)) := by rw [keep_at now pt n (by omega), hp]; rfl
 have hw2 := (seatNew_wf hwf hnow he h9).next
 have hfin : ∀ W w', Mod No w W → FlH w' (fun k => ow k = n + 2) b p.next (seatNew p l c) → Mod (fun k => ow k = n + 2) W w' → KeepX w' ow kb now pt (fun j => if j = n then some (p.next, seatNew p l c) else fl j) ∧ Mod (fun k => ow k ≠ 0 ∧ ow k < 30) w w' := fun W w' hW h1 h2 =>
  ⟨(h.mod hW (fun _ _ x => x)).flight h2 hp hw2 h1, (hW.mono (fun _ _ x => x.elim)).trans (h2.mono (fun _ _ (e : ow _ = n + 2) => by show ow _ ≠ 0 ∧ ow _ < 30; omega))⟩
 obtain ⟨h9, hat, h5, h2, h3⟩ := seatErr_zero he h9
 obtain ⟨hi, hse, her, hec⟩ := seatAt_eq hwf hat
 unfold changeV seatNew at *
 rw [if_neg h9] at hfin hw2 ⊢
 rw [if_neg h9]
 by_cases k2 : c.kind = 2
 ·rw [if_pos k2] at hfin hw2 ⊢
  rw [if_pos k2]
  have hb := buyer_ok (h2 k2).1
  have ht := h2 k2
  have hs : (⟨c.ar, c.ac, 1, c.party, c.cls, c.time⟩ : Sea).wf := ⟨by simp, by simp, by simp; omega, by simp; omega, by simp, by simp; omega, by simp; omega, by simp⟩
  exact apply_fill kb b n hn _ _ _ _ _ _ _ w _ h.has hc (fun W hW => (fill_any (hf.mod0 hW) hwf _ hi ⟨c.ar, c.ac, 1, c.party, c.cls, c.time⟩ hs her.symm hec.symm).mono (fun e w' ⟨r, q1, q2⟩ => ⟨r, hfin W w' hW q1 q2⟩))
 rw [if_neg k2] at hfin hw2 ⊢
 rw [if_neg k2]
 by_cases k3 : c.kind = 3
 ·rw [if_pos k3] at hfin hw2 ⊢
  rw [if_pos k3]
  have hb := buyer_ok (h3 k3)
  have hs : (⟨c.ar, c.ac, 2, c.party, c.cls, 0⟩ : Sea).wf := ⟨by simp, by simp, by simp; omega, by simp; omega, by simp, by simp; omega, by simp, by simp⟩
  exact apply_fill kb b n hn _ _ _ _ _ _ _ w _ h.has hc (fun W hW => (fill_any (hf.mod0 hW) hwf _ hi ⟨c.ar, c.ac, 2, c.party, c.cls, 0⟩ hs her.symm hec.symm).mono (fun e w' ⟨r, q1, q2⟩ => ⟨r, hfin W w' hW q1 q2⟩))
 rw [if_neg k3] at hfin hw2 ⊢
 rw [if_neg k3]
 by_cases k5 : c.kind = 5
 ·rw [if_pos k5] at hfin hw2 ⊢
  rw [if_pos k5]
  obtain ⟨hto, ho, hs⟩ := h5 k5
  obtain ⟨hj, hje, hjr, hjc⟩ := seatAt_eq hwf hto
  have hij : p.idx c.ar c.ac ≠ p.idx c.tr c.tc := by
   intro e
   have h1 := owner_zero ho
   rw [hse] at h1
   rw [hje] at hs
   simp only [e] at h1
   omega
  rw [hse] at hfin ⊢
  refine apply_shift kb b n hn _ _ _ _ _ w _ h.has hc (fun W hW => ?_)
  have := shift_any (hf.mod0 hW) hwf _ hi _ hj hij
  rw [her, hec, hjr, hjc] at this
  exact this.mono (fun e w' ⟨r, q1, q2⟩ => ⟨r, hfin W w' hW q1 q2⟩)
 rw [if_neg k5] at hfin hw2 ⊢
 rw [if_neg k5]
 by_cases k6 : c.kind = 6
 ·rw [if_pos k6] at hfin hw2 ⊢
  rw [if_pos k6]
  have hs : (⟨c.ar, c.ac, 3, 0, 0, 0⟩ : Sea).wf := ⟨by simp, by simp, by simp, by simp, by simp, by simp, by simp, by simp⟩
  exact apply_fill kb b n hn _ _ _ _ _ _ _ w _ h.has hc (fun W hW => (fill_any (hf.mod0 hW) hwf _ hi ⟨c.ar, c.ac, 3, 0, 0, 0⟩ hs her.symm hec.symm).mono (fun e w' ⟨r, q1, q2⟩ => ⟨r, hfin W w' hW q1 q2⟩))
 rw [if_neg k6] at hfin hw2 ⊢
 rw [if_neg k6]
 rw [hse] at hfin ⊢
 refine apply_empty kb b n hn _ _ _ w _ h.has hc (fun W hW => ?_)
 have := empty_any (hf.mod0 hW) hwf _ hi
 rw [her, hec] at this
 exact this.mono (fun e w' ⟨r, q1, q2⟩ => ⟨r, hfin W w' hW q1 q2⟩)
theorem size_walk (b : Nat) (cs : Array Value) (T : TypeId) (R C : Int) (w : World) (h : Has w b cs T) (h0 : cs[0]? = some (.int .i64 R)) (h1 : cs[1]? = some (.int .i64 C)) (hw : IntKind.i64.wrap (R * C) = R * C) :
  Calls Tryz.prog 112 #[.pointer (some ⟨b, 0, none⟩)] w fun e w' => e = .returned (.int .i64 (R * C)) ∧ Mod No w w' := by
 have c0 := h.cell 0
 have c1 := h.cell 1
 rw [h0] at c0
 rw [h1] at c1
 have hlt := h.lt
 clear h h0 h1
 go_enter Tryz.func112, Tryz.ntmps112
 go_wp2
 go_quiet (fail)
 go_wp2
 go_ret
 exact ⟨rfl, (Mod.refl _ _).drewN _⟩
theorem placeAt_walk (b : Nat) (cs : Array Value) (T : TypeId) (C a : Nat) (w : World) (h : Has w b cs T) (h1 : cs[1]? = some (.int .i64 (C : Int))) (hC : 1 ≤ C ∧ C ≤ 6) (ha : a ≤ 1000) :
  Calls Tryz.prog 113 #[.pointer (some ⟨b, 0, none⟩), .int .i64 (a : Int)] w fun e w' => e = .returned (.agg #[.int .i64 ((a : Int) / C + 1), .int .i64 ((a : Int) % C + 1)]) ∧ Mod No w w' := by
 have c1 := h.cell 1
 rw [h1] at c1
 have hlt := h.lt
 have d0 : (C : Int) ≠ 0 := by omega
 have t1 : Int.tdiv (a : Int) C = (a : Int) / C := Int.tdiv_eq_ediv_of_nonneg (by omega)
 have t2 : Int.tmod (a : Int) C = (a : Int) % C := Int.tmod_eq_emod_of_nonneg (by omega)
 have b1 : 0 ≤ (a : Int) / C := Int.ediv_nonneg (by omega) (by omega)
 have b2 : (a : Int) / C ≤ a := Int.ediv_le_self _ (by omega)
 have b3 : 0 ≤ (a : Int) % C := Int.emod_nonneg _ d0
 have b4 : (a : Int) % C < C := Int.emod_lt_of_pos _ (by omega)
 have w1 : IntKind.i64.wrap ((a : Int) / C) = (a : Int) / C := wrap_id _ (by omega) (by omega)
 have w2 : IntKind.i64.wrap ((a : Int) % C) = (a : Int) % C := wrap_id _ (by omega) (by omega)
 have w3 : IntKind.i64.wrap ((a : Int) / C + 1) = (a : Int) / C + 1 := wrap_id _ (by omega) (by omega)
 have w4 : IntKind.i64.wrap ((a : Int) % C + 1) = (a : Int) % C + 1 := wrap_id _ (by omega) (by omega)
 clear h h1
 go_enter Tryz.func113, Tryz.ntmps113
 go_wp2
 go_region
 all_goals go_wp2
 all_goals go_returns
 all_goals exact ⟨rfl, ((Mod.refl _ _).alloc _).drew⟩
end Go.Proofs.YthhibagcpjeihaaGreat
