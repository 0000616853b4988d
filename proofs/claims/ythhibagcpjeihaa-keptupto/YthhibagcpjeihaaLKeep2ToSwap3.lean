import Derived.Test.YthhibagcpjeihaaLRp3ToKeep1
import Derived.Test.YthhibagcpjeihaaLRd9ToKeep3
import Derived.Test.YthhibagcpjeihaaLSwap2ToWr2
namespace Go.Proofs.Ythhibagcpjeihaa
open Go.RowKit
open Go.ChangeMaps (setBlock)
open M
set_option linter.unusedVariables false
set_option linter.unusedSimpArgs false
set_option maxRecDepth 100000
set_option maxHeartbeats 2000000
theorem tickLook_yes (t now : Int) (w : World) (h1 : 1 ≤ t) (h2 : t ≤ 100) (hn : 0 ≤ now ∧ now ≤ 4611686018427387000) :
  Calls Try.prog 58 #[.int .i64 t, .int .i64 now] w fun e w' => e = .returned (.tuple #[passV (now + t), .int .i64 0]) ∧ w' = w := by
 have h1' : ¬ t < 1 := by omega
 have h2' : ¬ t > 100 := by omega
 have hw : IntKind.i64.wrap (now + t) = now + t := wrap_id _ (by omega) (by omega)
 go_enter Try.func58, Try.ntmps58
 go_wp2
 go_ret2
 exact ⟨rfl, rfl⟩
theorem tickLook_out (t now : Int) (w : World) (h : ¬ (1 ≤ t ∧ t ≤ 100)) :
  Calls Try.prog 58 #[.int .i64 t, .int .i64 now] w fun e w' => e = .returned (.tuple #[.nilIface, .int .i64 8]) ∧ w' = w := by
 by_cases h1 : t < 1
 ·go_enter Try.func58, Try.ntmps58
  go_wp2
  go_ret2
  exact ⟨rfl, rfl⟩
 ·have h2 : t > 100 := by omega
  go_enter Try.func58, Try.ntmps58
  go_wp2
  go_ret2
  exact ⟨rfl, rfl⟩
theorem klook_bad (kb : Nat) (c : Cmd) (hk : c.kind < 1 ∨ c.kind > 9) (w : World) :
  Calls Try.prog 48 #[.pointer (some ⟨kb, 0, none⟩), .agg (cmdCells c)] w fun e w' => e = .returned (refuse 1) ∧ Mod No w w' := by
 have M0 := hide ((Mod.refl No w).alloc (.cells (cmdCells c) 37))
 unfold cmdCells at M0 ⊢
 rcases Int.lt_or_le c.kind 1 with h1 | h1
 ·clear hk
  go_enter Try.func48, Try.ntmps48
  go_wp2
  go_ret2
  exact ⟨rfl, unhide M0⟩
 ·have h2 : c.kind > 9 := by omega
  have h1' : ¬ c.kind < 1 := by omega
  clear hk
  go_enter Try.func48, Try.ntmps48
  go_wp2
  go_ret2
  exact ⟨rfl, unhide M0⟩
theorem klook_tick (kb : Nat) (c : Cmd) (now : Int) (x y : Value) (hk : c.kind = 8) (w : World)
  (hN : ∀ W, Mod No w W → Calls Try.prog 24 #[.pointer (some ⟨kb, 0, none⟩)] W fun e w' => e = .returned (.int .i64 now) ∧ w' = W)
  (hT : ∀ W, Calls Try.prog 58 #[.int .i64 c.time, .int .i64 now] W fun e w' => e = .returned (.tuple #[x, y]) ∧ w' = W) :
  Calls Try.prog 48 #[.pointer (some ⟨kb, 0, none⟩), .agg (cmdCells c)] w fun e w' => e = .returned (.tuple #[x, y]) ∧ Mod No w w' := by
 have HN := hide hN
 have HT := hide hT
 have M0 := hide ((Mod.refl No w).alloc (.cells (cmdCells c) 37))
 unfold cmdCells at M0 ⊢
 rw [hk] at M0 ⊢
 clear hN hT hk
 go_enter Try.func48, Try.ntmps48
 go_wp2_with fail
 go_quiet (first | (go_at_call 24; exact Calls.quiet_of_same ((unhide HN) _ ((unhide M0).drewN _))) | (go_at_call 58; exact Calls.quiet_of_same ((unhide HT) _)))
 go_wp2
 go_ret2
 exact ⟨rfl, (unhide M0).drewN _⟩
theorem klook_num (kb : Nat) (c : Cmd) (hk : 1 ≤ c.kind ∧ c.kind ≤ 9 ∧ c.kind ≠ 8) (hf : ¬ (1 ≤ c.flight ∧ c.flight ≤ 20)) (w : World) :
  Calls Try.prog 48 #[.pointer (some ⟨kb, 0, none⟩), .agg (cmdCells c)] w fun e w' => e = .returned (refuse 2) ∧ Mod No w w' := by
 have M0 := hide ((Mod.refl No w).alloc (.cells (cmdCells c) 37))
 unfold cmdCells at M0 ⊢
 have h1 : ¬ c.kind < 1 := by omega
 have h2 : ¬ c.kind > 9 := by omega
 have h3 : (c.kind == 8) = false := by simp [hk.2.2]
 rcases Int.lt_or_le c.flight 1 with f1 | f1
 ·clear hk hf
  go_enter Try.func48, Try.ntmps48
  go_wp2
  go_ret2
  exact ⟨rfl, unhide M0⟩
 ·have f2 : c.flight > 20 := by omega
  have f1' : ¬ c.flight < 1 := by omega
  clear hk hf
  go_enter Try.func48, Try.ntmps48
  go_wp2
  go_ret2
  exact ⟨rfl, unhide M0⟩
theorem klook_twice (kb b : Nat) (c : Cmd) (hk : c.kind = 1) (hf : 1 ≤ c.flight ∧ c.flight ≤ 20) (w : World)
  (hF : ∀ W, Mod No w W → Calls Try.prog 44 #[.pointer (some ⟨kb, 0, none⟩), .int .i64 c.flight] W fun e w' => e = .returned (.pointer (some ⟨b, 0, none⟩)) ∧ w' = W) :
  Calls Try.prog 48 #[.pointer (some ⟨kb, 0, none⟩), .agg (cmdCells c)] w fun e w' => e = .returned (refuse 3) ∧ Mod No w w' := by
 have HF := hide hF
 have M0 := hide ((Mod.refl No w).alloc (.cells (cmdCells c) 37))
 have B0 := hide (Has.new w (cmdCells c) 37)
 unfold cmdCells at M0 B0 ⊢
 rw [hk] at M0 B0 ⊢
 have f1 : ¬ c.flight < 1 := by omega
 have f2 : ¬ c.flight > 20 := by omega
 clear hF hk hf
 go_enter Try.func48, Try.ntmps48
 go_wp2_with fail
 refine ((unhide HF) _ (unhide M0)).mono ?_
 rintro e w1 ⟨rfl, rfl⟩
 go_wp2
 go_ret2
 exact ⟨rfl, unhide M0⟩
theorem klook_add (kb : Nat) (c : Cmd) (x y : Value) (hk : c.kind = 1) (hf : 1 ≤ c.flight ∧ c.flight ≤ 20) (w : World)
  (hF : ∀ W, Mod No w W → Calls Try.prog 44 #[.pointer (some ⟨kb, 0, none⟩), .int .i64 c.flight] W fun e w' => e = .returned (.pointer none) ∧ w' = W)
  (hA : ∀ W, Calls Try.prog 59 #[plaV c.pla] W fun e w' => e = .returned (.tuple #[x, y]) ∧ Mod No W w') :
  Calls Try.prog 48 #[.pointer (some ⟨kb, 0, none⟩), .agg (cmdCells c)] w fun e w' => e = .returned (.tuple #[x, y]) ∧ Mod No w w' := by
 have HF := hide hF
 have HA := hide hA
 have M0 := hide ((Mod.refl No w).alloc (.cells (cmdCells c) 37))
 have B0 := hide (Has.new w (cmdCells c) 37)
 unfold cmdCells at M0 B0 ⊢
 unfold plaV at HA
 rw [hk] at M0 B0 ⊢
 have f1 : ¬ c.flight < 1 := by omega
 have f2 : ¬ c.flight > 20 := by omega
 clear hF hk hf hA
 go_enter Try.func48, Try.ntmps48
 go_wp2_with fail
 refine ((unhide HF) _ (unhide M0)).mono ?_
 rintro e w1 ⟨rfl, rfl⟩
 go_wp2_with fail
 refine ((unhide HA) _).mono ?_
 rintro e w1 ⟨rfl, m1⟩
 have M1 := hide ((unhide M0).trans m1)
 clear m1
 go_wp2
 go_ret2
 exact ⟨rfl, unhide M1⟩
theorem klook_miss (kb : Nat) (c : Cmd) (hk : 2 ≤ c.kind ∧ c.kind ≤ 9 ∧ c.kind ≠ 8) (hf : 1 ≤ c.flight ∧ c.flight ≤ 20) (w : World)
  (hF : ∀ W, Mod No w W → Calls Try.prog 44 #[.pointer (some ⟨kb, 0, none⟩), .int .i64 c.flight] W fun e w' => e = .returned (.pointer none) ∧ w' = W) :
  Calls Try.prog 48 #[.pointer (some ⟨kb, 0, none⟩), .agg (cmdCells c)] w fun e w' => e = .returned (refuse 2) ∧ Mod No w w' := by
 have HF := hide hF
 have M0 := hide ((Mod.refl No w).alloc (.cells (cmdCells c) 37))
 unfold cmdCells at M0 ⊢
 have h1 : ¬ c.kind < 1 := by omega
 have h2 : ¬ c.kind > 9 := by omega
 have h3 : (c.kind == 8) = false := by simp [hk.2.2]
 have h4 : (c.kind == 1) = false := by simp; omega
 have f1 : ¬ c.flight < 1 := by omega
 have f2 : ¬ c.flight > 20 := by omega
 clear hF hk hf
 go_enter Try.func48, Try.ntmps48
 go_wp2_with fail
 refine ((unhide HF) _ (unhide M0)).mono ?_
 rintro e w1 ⟨rfl, rfl⟩
 go_wp2
 go_ret2
 exact ⟨rfl, unhide M0⟩
theorem klook_fl (kb b : Nat) (c : Cmd) (now : Int) (x y : Value) (cs : Array Value) (hk : 2 ≤ c.kind ∧ c.kind ≤ 9 ∧ c.kind ≠ 8) (hf : 1 ≤ c.flight ∧ c.flight ≤ 20) (w : World) (h : Has w kb cs 117) (h0 : cs[0]? = some (.int .i64 now))
  (hF : ∀ W, Mod No w W → Calls Try.prog 44 #[.pointer (some ⟨kb, 0, none⟩), .int .i64 c.flight] W fun e w' => e = .returned (.pointer (some ⟨b, 0, none⟩)) ∧ w' = W)
  (hL : ∀ W, Mod No w W → Calls Try.prog 60 #[.pointer (some ⟨b, 0, none⟩), .agg (cmdCells c), .int .i64 now] W fun e w' => e = .returned (.tuple #[x, y]) ∧ Mod No W w') :
  Calls Try.prog 48 #[.pointer (some ⟨kb, 0, none⟩), .agg (cmdCells c)] w fun e w' => e = .returned (.tuple #[x, y]) ∧ Mod No w w' := by
 have HF := hide hF
 have HL := hide hL
 have c0 := h.cell 0
 rw [h0] at c0
 have hlt := h.lt
 have M0 := hide ((Mod.refl No w).alloc (.cells (cmdCells c) 37))
 unfold cmdCells at M0 HL ⊢
 have h1 : ¬ c.kind < 1 := by omega
 have h2 : ¬ c.kind > 9 := by omega
 have h3 : (c.kind == 8) = false := by simp [hk.2.2]
 have h4 : (c.kind == 1) = false := by simp; omega
 have f1 : ¬ c.flight < 1 := by omega
 have f2 : ¬ c.flight > 20 := by omega
 have HH := hide h
 clear hF hL hk hf h
 go_enter Try.func48, Try.ntmps48
 go_wp2_with fail
 refine ((unhide HF) _ (unhide M0)).mono ?_
 rintro e w1 ⟨rfl, rfl⟩
 go_wp2_with fail
 go_region_with (go_at_call 60; refine ((unhide HL) _ ((unhide M0).drew)).mono ?_; rintro e w3 ⟨rfl, hm3⟩; have c03 := (((unhide M0).drew.trans hm3).has (unhide HH) (fun x => x)).cell 0; rw [h0] at c03)
 all_goals go_wp2
 all_goals go_ret2
 all_goals exact ⟨rfl, (unhide M0).drew.trans hm3⟩
theorem ta127 (v : Value) (w : World) : (Instr.typeAssert (.iface 144 v) 120 144 true).run Try.prog w = .ok (.tuple #[v, .bool true]) w := by kernel_rfl
theorem ta154 (v : Value) (w : World) : (Instr.typeAssert (.iface 163 v) 120 144 true).run Try.prog w = .ok (.tuple #[.agg #[.int .i64 0], .bool false]) w := by kernel_rfl
theorem ta173 (v : Value) (w : World) : (Instr.typeAssert (.iface 180 v) 120 144 true).run Try.prog w = .ok (.tuple #[.agg #[.int .i64 0], .bool false]) w := by kernel_rfl
theorem ta175 (v : Value) (w : World) : (Instr.typeAssert (.iface 184 v) 120 144 true).run Try.prog w = .ok (.tuple #[.agg #[.int .i64 0], .bool false]) w := by kernel_rfl
theorem ta177 (v : Value) (w : World) : (Instr.typeAssert (.iface 186 v) 120 144 true).run Try.prog w = .ok (.tuple #[.agg #[.int .i64 0], .bool false]) w := by kernel_rfl
theorem ta125 (v : Value) (w : World) : (Instr.typeAssert (.iface 182 v) 120 144 true).run Try.prog w = .ok (.tuple #[.agg #[.int .i64 0], .bool false]) w := by kernel_rfl
theorem nilAhead125 (v : Value) (w : World) : (nilAhead 331 182 v "Do").run Try.prog w = .ok (some false) w := by kernel_rfl
theorem method125 (v : Value) (w : World) : (method 331 182 v "Do").run Try.prog w = .ok (134, v) w := by kernel_rfl
attribute [local go_sem] ta125 nilAhead125 method125
theorem nilAhead154 (v : Value) (w : World) : (nilAhead 331 163 v "Do").run Try.prog w = .ok (some false) w := by kernel_rfl
theorem nilAhead173 (v : Value) (w : World) : (nilAhead 331 180 v "Do").run Try.prog w = .ok (some false) w := by kernel_rfl
theorem nilAhead175 (v : Value) (w : World) : (nilAhead 331 184 v "Do").run Try.prog w = .ok (some false) w := by kernel_rfl
theorem nilAhead177 (v : Value) (w : World) : (nilAhead 331 186 v "Do").run Try.prog w = .ok (some false) w := by kernel_rfl
attribute [local go_sem] nilAhead154 nilAhead173 nilAhead175 nilAhead177
theorem method154 (v : Value) (w : World) : (method 331 163 v "Do").run Try.prog w = .ok (130, v) w := by kernel_rfl
theorem method173 (v : Value) (w : World) : (method 331 180 v "Do").run Try.prog w = .ok (133, v) w := by kernel_rfl
theorem method175 (v : Value) (w : World) : (method 331 184 v "Do").run Try.prog w = .ok (137, v) w := by kernel_rfl
theorem method177 (v : Value) (w : World) : (method 331 186 v "Do").run Try.prog w = .ok (138, v) w := by kernel_rfl
attribute [local go_sem] method154 method173 method175 method177
attribute [local go_sem] ta127 ta154 ta173 ta175 ta177
theorem apply_pass (kb : Nat) (n nw : Int) (w : World) (P : World → Prop)
  (hC : ∀ W, Mod No w W → Calls Try.prog 65 #[.pointer (some ⟨kb, 0, none⟩), .agg #[.int .i64 nw]] W fun e w' => e = .returned (.tuple #[]) ∧ P w') :
  Calls Try.prog 50 #[.pointer (some ⟨kb, 0, none⟩), .agg #[.int .i64 n, passV nw]] w fun e w' => e = .returned (.tuple #[]) ∧ P w' := by
 have HC := hide hC
 have M0 := hide (((Mod.refl No w).alloc (.cells #[.int .i64 n, passV nw] 124)).alloc (.cells #[.int .i64 nw] 144))
 unfold passV at *
 clear hC
 go_enter Try.func50, Try.ntmps50
 go_wp2_with fail
 refine ((unhide HC) _ (unhide M0)).mono ?_
 rintro e w1 ⟨rfl, p1⟩
 go_wp2
 refine bodyPost_ret (results_none rfl _ _ _) rfl ?_
 exact ⟨rfl, p1⟩
theorem apply_fill (kb b n : Nat) (hn : 1 ≤ n ∧ n ≤ 20) (x0 x1 x2 x3 x4 x5 : Value) (cs : Array Value) (w : World) (P : World → Prop) (h : Has w kb cs 117) (hc : cs[1 + n]? = some (.pointer (some ⟨b, 0, none⟩)))
  (hC : ∀ W, Mod No w W → Calls Try.prog 133 #[.agg #[x0, x1, x2, x3, x4, x5], .pointer (some ⟨b, 0, none⟩)] W fun e w' => e = .returned (.tuple #[]) ∧ P w') :
  Calls Try.prog 50 #[.pointer (some ⟨kb, 0, none⟩), .agg #[.int .i64 n, .iface 180 (.agg #[x0, x1, x2, x3, x4, x5])]] w fun e w' => e = .returned (.tuple #[]) ∧ P w' := by
 have HC := hide hC
 have M0 := hide (((Mod.refl No w).alloc (.cells #[.int .i64 n, .iface 180 (.agg #[x0, x1, x2, x3, x4, x5])] 124)).alloc (.cells #[.int .i64 0] 144))
 have c := h.cell (1 + n)
 rw [hc] at c
 have hlt := h.lt
 have h3 : (n : Int) < 21 := by omega
 have h4 : (0 : Int) ≤ n := by omega
 clear h hc hC
 go_enter Try.func50, Try.ntmps50
 go_wp2_with fail
 go_quiet (fail)
 go_wp2_with fail
 go_region_with (go_at_call 133; refine ((unhide HC) _ ((unhide M0).drewN _).drew).mono ?_; rintro e w1 ⟨rfl, p1⟩)
 all_goals go_wp2
 all_goals go_end0
 all_goals exact ⟨rfl, p1⟩
theorem apply_empty (kb b n : Nat) (hn : 1 ≤ n ∧ n ≤ 20) (x0 x1 : Value) (cs : Array Value) (w : World) (P : World → Prop) (h : Has w kb cs 117) (hc : cs[1 + n]? = some (.pointer (some ⟨b, 0, none⟩)))
  (hC : ∀ W, Mod No w W → Calls Try.prog 137 #[.agg #[x0, x1], .pointer (some ⟨b, 0, none⟩)] W fun e w' => e = .returned (.tuple #[]) ∧ P w') :
  Calls Try.prog 50 #[.pointer (some ⟨kb, 0, none⟩), .agg #[.int .i64 n, .iface 184 (.agg #[x0, x1])]] w fun e w' => e = .returned (.tuple #[]) ∧ P w' := by
 have HC := hide hC
 have M0 := hide (((Mod.refl No w).alloc (.cells #[.int .i64 n, .iface 184 (.agg #[x0, x1])] 124)).alloc (.cells #[.int .i64 0] 144))
 have c := h.cell (1 + n)
 rw [hc] at c
 have hlt := h.lt
 have h3 : (n : Int) < 21 := by omega
 have h4 : (0 : Int) ≤ n := by omega
 clear h hc hC
 go_enter Try.func50, Try.ntmps50
 go_wp2_with fail
 go_quiet (fail)
 go_wp2_with fail
 go_region_with (go_at_call 137; refine ((unhide HC) _ ((unhide M0).drewN _).drew).mono ?_; rintro e w1 ⟨rfl, p1⟩)
 all_goals go_wp2
 all_goals go_end0
 all_goals exact ⟨rfl, p1⟩
theorem apply_shift (kb b n : Nat) (hn : 1 ≤ n ∧ n ≤ 20) (x0 x1 x2 x3 : Value) (cs : Array Value) (w : World) (P : World → Prop) (h : Has w kb cs 117) (hc : cs[1 + n]? = some (.pointer (some ⟨b, 0, none⟩)))
  (hC : ∀ W, Mod No w W → Calls Try.prog 138 #[.agg #[x0, x1, x2, x3], .pointer (some ⟨b, 0, none⟩)] W fun e w' => e = .returned (.tuple #[]) ∧ P w') :
  Calls Try.prog 50 #[.pointer (some ⟨kb, 0, none⟩), .agg #[.int .i64 n, .iface 186 (.agg #[x0, x1, x2, x3])]] w fun e w' => e = .returned (.tuple #[]) ∧ P w' := by
 have HC := hide hC
 have M0 := hide (((Mod.refl No w).alloc (.cells #[.int .i64 n, .iface 186 (.agg #[x0, x1, x2, x3])] 124)).alloc (.cells #[.int .i64 0] 144))
 have c := h.cell (1 + n)
 rw [hc] at c
 have hlt := h.lt
 have h3 : (n : Int) < 21 := by omega
 have h4 : (0 : Int) ≤ n := by omega
 clear h hc hC
 go_enter Try.func50, Try.ntmps50
 go_wp2_with fail
 go_quiet (fail)
 go_wp2_with fail
 go_region_with (go_at_call 138; refine ((unhide HC) _ ((unhide M0).drewN _).drew).mono ?_; rintro e w1 ⟨rfl, p1⟩)
 all_goals go_wp2
 all_goals go_end0
 all_goals exact ⟨rfl, p1⟩
theorem apply_refit (kb b n : Nat) (hn : 1 ≤ n ∧ n ≤ 20) (x0 x1 x2 : Value) (cs : Array Value) (w : World) (P : World → Prop) (h : Has w kb cs 117) (hc : cs[1 + n]? = some (.pointer (some ⟨b, 0, none⟩)))
  (hC : ∀ W, Mod No w W → Calls Try.prog 134 #[.agg #[x0, x1, x2], .pointer (some ⟨b, 0, none⟩)] W fun e w' => e = .returned (.tuple #[]) ∧ P w') :
  Calls Try.prog 50 #[.pointer (some ⟨kb, 0, none⟩), .agg #[.int .i64 n, .iface 182 (.agg #[x0, x1, x2])]] w fun e w' => e = .returned (.tuple #[]) ∧ P w' := by
 have HC := hide hC
 have M0 := hide (((Mod.refl No w).alloc (.cells #[.int .i64 n, .iface 182 (.agg #[x0, x1, x2])] 124)).alloc (.cells #[.int .i64 0] 144))
 have c := h.cell (1 + n)
 rw [hc] at c
 have hlt := h.lt
 have h3 : (n : Int) < 21 := by omega
 have h4 : (0 : Int) ≤ n := by omega
 clear h hc hC
 go_enter Try.func50, Try.ntmps50
 go_wp2_with fail
 go_quiet (fail)
 go_wp2_with fail
 go_region_with (go_at_call 134; refine ((unhide HC) _ ((unhide M0).drewN _).drew).mono ?_; rintro e w1 ⟨rfl, p1⟩)
 all_goals go_wp2
 all_goals go_end0
 all_goals exact ⟨rfl, p1⟩
def flight0 : Array Value := #[.int .i64 0, .int .i64 0, .int .i64 0, .int .i64 0, .int .i64 0, .int .i64 0, .int .i64 0, .map none, .int .i64 0, .int .i64 0, .int .i64 0, .int .i64 0, .int .i64 0, .int .i64 0, .int .i64 0, .int .i64 0, .int .i64 0, .int .i64 0, .int .i64 0, .int .i64 0, .int .i64 0, .int .i64 0, .int .i64 0, .int .i64 0, .int .i64 0]
structure NewF4 (w w5 : World) (kb n : Nat) (now : Int) (pt : Nat → Option Nat) : Prop where
 keep : Has w5 kb (keepCells now (updP pt n (w.heap.size + 2))) 117
 fli : Has w5 (w.heap.size + 2) flight0 138
 mod : Mod (fun k => k = kb) w w5
theorem newF4 {w w0 : World} {kb n : Nat} {now : Int} {pt : Nat → Option Nat} (hn : 1 ≤ n ∧ n ≤ 20) (h : Has w0 kb (keepCells now pt) 117) (hm : Mod No w w0) (hs : w0.heap.size = w.heap.size + 2) :
  NewF4 w ((w0.setCell ⟨kb, 1 + n, none⟩ (.pointer (some ⟨w.heap.size + 2, 0, none⟩))).alloc (.cells flight0 138)) kb n now pt := by
 refine ⟨?_, ?_, (hm.mono (fun _ _ x => x.elim)).trans (((Mod.refl _ w0).at (1 + n) _).alloc _)⟩
 ·have := (h.set (1 + n) (pv (some (w.heap.size + 2)))).alloc (.cells flight0 138)
  rw [keep_set now pt n _ (by omega)] at this
  exact this
 ·have := Has.new (w0.setCell ⟨kb, 1 + n, none⟩ (.pointer (some ⟨w.heap.size + 2, 0, none⟩))) flight0 138
  rw [World.size_setCell, hs] at this
  exact this
theorem apply_new (kb n : Nat) (hn : 1 ≤ n ∧ n ≤ 20) (now : Int) (pt : Nat → Option Nat) (p : Pla) (w : World) (P : World → Prop) (h : Has w kb (keepCells now pt) 117) (hc : pt n = none)
  (hC : ∀ W, Mod (fun k => k = kb) w W → Has W kb (keepCells now (updP pt n (w.heap.size + 2))) 117 → Has W (w.heap.size + 2) (fcs 0 0 0 0 0 0 0 (.map none) 0 0 0 0 0 0 0 0 0 0 0 0 0 0 0 0 0) 138 →
   Calls Try.prog 130 #[plaV p, .pointer (some ⟨w.heap.size + 2, 0, none⟩)] W fun e w' => e = .returned (.tuple #[]) ∧ P w') :
  Calls Try.prog 50 #[.pointer (some ⟨kb, 0, none⟩), .agg #[.int .i64 n, startV p]] w fun e w' => e = .returned (.tuple #[]) ∧ P w' := by
 have HC := hide hC
 have m0 : Mod No w ((w.alloc (.cells #[.int .i64 n, startV p] 124)).alloc (.cells #[.int .i64 0] 144)) := ((Mod.refl _ w).alloc _).alloc _
 have h0 := m0.has h (fun x => x)
 have b0 : Has ((w.alloc (.cells #[.int .i64 n, startV p] 124)).alloc (.cells #[.int .i64 0] 144)) w.heap.size #[.int .i64 n, startV p] 124 := (Has.new w _ _).alloc _
 have H0 := hide h0
 have M0 := hide m0
 have B0 := hide b0
 have S0 := hide (show ((w.alloc (.cells #[.int .i64 n, startV p] 124)).alloc (.cells #[.int .i64 0] 144)).heap.size = w.heap.size + 2 by simp)
 have h3 : (n : Int) < 21 := by omega
 have h4 : (0 : Int) ≤ n := by omega
 have HH := hide h
 have HCC := hide hc
 unfold startV plaV at *
 clear h hc hC m0 h0 b0
 go_enter Try.func50, Try.ntmps50
 go_upto_region 4 with fail
 generalize (w.alloc (.cells #[.int .i64 n, .iface 163 (.agg #[.int .i64 p.rows, .int .i64 p.cols, .int .i64 p.front, .int .i64 p.l0, .int .i64 p.l1, .int .i64 p.l2, .int .i64 p.l3])] 124)).alloc (.cells #[.int .i64 0] 144) = w0 at *
 have c := (unhide H0).cell (1 + n)
 rw [keep_at now pt n (by omega), unhide HCC, show pv none = .pointer none from rfl] at c
 have e0 : w0.cell? ⟨w.heap.size, 0, none⟩ = some (.int .i64 n) := (unhide B0).cell 0
 have e1 : w0.cell? ⟨w.heap.size, 1, none⟩ = some (.iface 163 (.agg #[.int .i64 p.rows, .int .i64 p.cols, .int .i64 p.front, .int .i64 p.l0, .int .i64 p.l1, .int .i64 p.l2, .int .i64 p.l3])) := (unhide B0).cell 1
 have lk := (unhide H0).lt
 have lb := (unhide B0).lt
 have fz := (unhide H0).frozen (1 + n)
 have S1 := unhide S0
 rw [S1] at lk lb
 have NE := hide (show w.heap.size ≠ kb from fun e => by have := (unhide HH).lt; omega)
 go_quiet (fail)
 go_wp2_with fail
 go_region
 have nx := newF4 (w0 := w0.drewN (nq + 1)) hn ((unhide H0).drewN _) ((unhide M0).drewN _) S1
 have bx : Has (((w0.drewN (nq + 1)).setCell ⟨kb, 1 + n, none⟩ (.pointer (some ⟨w.heap.size + 2, 0, none⟩))).alloc (.cells flight0 138)) w.heap.size _ _ := (((unhide B0).drewN (nq + 1)).set_ne (a := ⟨kb, 1 + n, none⟩) (unhide NE) _).alloc _
 have NX := hide nx
 have BX := hide bx
 clear nx bx c e0 e1 lk lb fz S1 H0 M0 B0 S0
 unfold flight0 at NX BX
 generalize ((w0.drewN (nq + 1)).setCell ⟨kb, 1 + n, none⟩ (.pointer (some ⟨w.heap.size + 2, 0, none⟩))).alloc (.cells #[.int .i64 0, .int .i64 0, .int .i64 0, .int .i64 0, .int .i64 0, .int .i64 0, .int .i64 0, .map none, .int .i64 0, .int .i64 0, .int .i64 0, .int .i64 0, .int .i64 0, .int .i64 0, .int .i64 0, .int .i64 0, .int .i64 0, .int .i64 0, .int .i64 0, .int .i64 0, .int .i64 0, .int .i64 0, .int .i64 0, .int .i64 0, .int .i64 0] 138) = w5 at *
 have c5 := (unhide NX).keep.cell (1 + n)
 rw [keep_at now _ n (by omega), show pv (updP pt n (w.heap.size + 2) n) = .pointer (some ⟨w.heap.size + 2, 0, none⟩) by simp [updP, pv]] at c5
 have e0 : w5.cell? ⟨w.heap.size, 0, none⟩ = some (.int .i64 n) := (unhide BX).cell 0
 have e1 : w5.cell? ⟨w.heap.size, 1, none⟩ = some (.iface 163 (.agg #[.int .i64 p.rows, .int .i64 p.cols, .int .i64 p.front, .int .i64 p.l0, .int .i64 p.l1, .int .i64 p.l2, .int .i64 p.l3])) := (unhide BX).cell 1
 have l5 := (unhide NX).keep.lt
 have lb5 := (unhide BX).lt
 go_wp2_with fail
 go_region_with (go_at_call 130; refine ((unhide HC) _ (unhide NX).mod.drew (unhide NX).keep.drew (unhide NX).fli.drew).mono ?_; rintro e w1 ⟨rfl, p1⟩)
 all_goals go_wp2
 all_goals go_end0
 all_goals exact ⟨rfl, p1⟩
theorem do_refuse (kb : Nat) (c : Cmd) (x : Int) (hx : x ≠ 0) (w : World)
  (hL : ∀ W, Mod No w W → Calls Try.prog 48 #[.pointer (some ⟨kb, 0, none⟩), .agg (cmdCells c)] W fun e w' => e = .returned (refuse x) ∧ Mod No W w') :
  Calls Try.prog 26 #[.pointer (some ⟨kb, 0, none⟩), .agg (cmdCells c)] w fun e w' => e = .returned (.int .i64 x) ∧ Mod No w w' := by
 have HL := hide hL
 have M0 := hide ((Mod.refl No w).alloc (.cells (cmdCells c) 37))
 have B0 := hide (Has.new w (cmdCells c) 37)
 have hd : (x != 0) = true := by simp [hx]
 unfold cmdCells refuse at *
 clear hL hx
 go_enter Try.func26, Try.ntmps26
 go_wp2_with fail
 refine ((unhide HL) _ (unhide M0)).mono ?_
 rintro e w1 ⟨rfl, m1⟩
 go_wp2
 go_ret
 exact ⟨rfl, (unhide M0).trans m1⟩
theorem do_stop (kb : Nat) (c : Cmd) (t : TypeId) (u : Value) (x : Int) (hx : x ≠ 0) (w : World) (R : World → Prop)
  (hL : ∀ W, Mod No w W → Calls Try.prog 48 #[.pointer (some ⟨kb, 0, none⟩), .agg (cmdCells c)] W fun e w' => e = .returned (grant (.iface t u)) ∧ Mod No W w')
  (hS : ∀ W, Mod No w W → Calls Try.prog 49 #[.pointer (some ⟨kb, 0, none⟩), .agg #[.int .i64 c.flight, .iface t u]] W fun e w' => e = .returned (.int .i64 x) ∧ R w') :
  Calls Try.prog 26 #[.pointer (some ⟨kb, 0, none⟩), .agg (cmdCells c)] w fun e w' => e = .returned (.int .i64 x) ∧ R w' := by
 have HL := hide hL
 have HS := hide hS
 have M0 := hide ((Mod.refl No w).alloc (.cells (cmdCells c) 37))
 have B0 := hide (Has.new w (cmdCells c) 37)
 have hd : (x != 0) = true := by simp [hx]
 unfold cmdCells grant at *
 clear hL hS hx
 go_enter Try.func26, Try.ntmps26
 go_wp2_with fail
 refine ((unhide HL) _ (unhide M0)).mono ?_
 rintro e w1 ⟨rfl, m1⟩
 have cb := (m1.has (unhide B0) (fun x => x)).cell
 have lb := (m1.has (unhide B0) (fun x => x)).lt
 have M1 := hide ((unhide M0).trans m1)
 clear m1
 have M2 := hide ((unhide M1).alloc (.cells #[.int .i64 c.flight, .iface t u] 124))
 go_wp2_with fail
 refine ((unhide HS) _ (unhide M2)).mono ?_
 rintro e w2 ⟨rfl, p2⟩
 clear cb
 go_wp2
 go_ret
 exact ⟨rfl, p2⟩
theorem do_grant (kb : Nat) (c : Cmd) (t : TypeId) (u : Value) (w : World) (R P : World → Prop)
  (hL : ∀ W, Mod No w W → Calls Try.prog 48 #[.pointer (some ⟨kb, 0, none⟩), .agg (cmdCells c)] W fun e w' => e = .returned (grant (.iface t u)) ∧ Mod No W w')
  (hS : ∀ W b, Mod No w W → w.heap.size ≤ b → Has W b #[.int .i64 c.flight, .iface t u] 124 → Calls Try.prog 49 #[.pointer (some ⟨kb, 0, none⟩), .agg #[.int .i64 c.flight, .iface t u]] W fun e w' => e = .returned (.int .i64 0) ∧ R w' ∧ Has w' b #[.int .i64 c.flight, .iface t u] 124)
  (hA : ∀ W, R W → Calls Try.prog 50 #[.pointer (some ⟨kb, 0, none⟩), .agg #[.int .i64 c.flight, .iface t u]] W fun e w' => e = .returned (.tuple #[]) ∧ P w') :
  Calls Try.prog 26 #[.pointer (some ⟨kb, 0, none⟩), .agg (cmdCells c)] w fun e w' => e = .returned (.int .i64 0) ∧ P w' := by
 have HL := hide hL
 have HS := hide hS
 have HA := hide hA
 have M0 := hide ((Mod.refl No w).alloc (.cells (cmdCells c) 37))
 have B0 := hide (Has.new w (cmdCells c) 37)
 unfold cmdCells grant at *
 clear hL hS hA
 go_enter Try.func26, Try.ntmps26
 go_wp2_with fail
 refine ((unhide HL) _ (unhide M0)).mono ?_
 rintro e w1 ⟨rfl, m1⟩
 have cb := (m1.has (unhide B0) (fun x => x)).cell
 have lb := (m1.has (unhide B0) (fun x => x)).lt
 have M1 := hide ((unhide M0).trans m1)
 clear m1
 have M2 := hide ((unhide M1).alloc (.cells #[.int .i64 c.flight, .iface t u] 124))
 have B2 := hide (Has.new w1 #[.int .i64 c.flight, .iface t u] 124)
 have HSZ := hide (unhide M1).size
 go_wp2_with fail
 refine ((unhide HS) _ _ (unhide M2) (unhide HSZ) (unhide B2)).mono ?_
 rintro e w2 ⟨rfl, p2, hb2⟩
 have e0 : w2.cell? ⟨w1.heap.size, 0, none⟩ = some (.int .i64 c.flight) := hb2.cell 0
 have e1 : w2.cell? ⟨w1.heap.size, 1, none⟩ = some (.iface t u) := hb2.cell 1
 have le := hb2.lt
 have HA2 := hide ((unhide HA) _ p2)
 clear cb hb2 p2 HS HL
 go_wp2_with fail
 refine (unhide HA2).mono ?_
 rintro e w3 ⟨rfl, p3⟩
 have P3 := hide p3
 clear p3
 go_wp2
 go_ret
 exact ⟨rfl, unhide P3⟩
theorem seatErr_zero {p : Pla} {l : List Sea} {c : Cmd} {now : Int} (h : seatErr p l c now = 0) (h9 : c.kind ≠ 9) :
  c.kind ≠ 9 ∧ p.has c.ar c.ac = true ∧ (c.kind = 5 → p.has c.tr c.tc = true ∧ ownerN (seatAt p l c.ar c.ac).st (seatAt p l c.ar c.ac).pa c.party = 0 ∧ (seatAt p l c.tr c.tc).st = 0) ∧
   (c.kind = 2 → buyer c = 0 ∧ now < c.time ∧ c.time ≤ now + 100) ∧ (c.kind = 3 → buyer c = 0) := by
 unfold seatErr at h
 rw [if_neg h9] at h
 by_cases hor : p.has c.ar c.ac = false ∨ (c.kind = 5 ∧ p.has c.tr c.tc = false)
 ·rw [if_pos hor] at h; exact absurd h (by omega)
 rw [if_neg hor] at h
 have hat : p.has c.ar c.ac = true := by
  cases hb : p.has c.ar c.ac with
  | true => rfl
  | false => exact absurd (.inl hb) hor
 refine ⟨h9, hat, fun h5 => ?_, fun h2 => ?_, fun h3 => ?_⟩
 ·have hto : p.has c.tr c.tc = true := by
   cases hb : p.has c.tr c.tc with
   | true => rfl
   | false => exact absurd (.inr ⟨h5, hb⟩) hor
  rw [if_neg (by omega), if_neg (by omega), if_neg (by omega), if_pos h5] at h
  by_cases ho : ownerN (seatAt p l c.ar c.ac).st (seatAt p l c.ar c.ac).pa c.party = 0
  ·rw [if_neg (by simpa using ho)] at h
   by_cases hs : (seatAt p l c.tr c.tc).st = 0
   ·exact ⟨hto, ho, hs⟩
   ·rw [if_pos hs] at h; exact absurd h (by omega)
  ·rw [if_pos ho] at h; exact absurd h ho
 ·rw [if_pos h2] at h
  by_cases hb : buyer c = 0
  ·rw [if_neg (by simpa using hb)] at h
   by_cases ht : c.time ≤ now ∨ c.time > now + 100
   ·rw [if_pos ht] at h; exact absurd h (by omega)
   ·exact ⟨hb, by omega, by omega⟩
  ·rw [if_pos hb] at h; exact absurd h hb
 ·rw [if_neg (by omega), if_pos h3] at h
  by_cases hb : buyer c = 0
  ·exact hb
  ·rw [if_pos hb] at h; exact absurd h hb
theorem owner_zero {st pa party : Int} (h : ownerN st pa party = 0) : st = 1 ∨ st = 2 := by
 unfold ownerN at h
 by_cases hs : st = 1 ∨ st = 2
 ·exact hs
 ·rw [if_pos hs] at h; exact absurd h (by omega)
theorem seatNew_wf {p : Pla} {l : List Sea} (hwf : Wf p l) {c : Cmd} {now : Int} (hn : 0 ≤ now ∧ now ≤ 4611686018427387000) (h : seatErr p l c now = 0) (h9 : c.kind ≠ 9) : Wf p (seatNew p l c) := by
 obtain ⟨h9, hat, h5, h2, h3⟩ := seatErr_zero h h9
 obtain ⟨hi, he, her, hec⟩ := seatAt_eq hwf hat
 have hswf : (seatAt p l c.ar c.ac).wf := by rw [he]; exact hwf.seat _ (List.getElem_mem hi)
 unfold seatNew
 rw [if_neg h9]
 by_cases k2 : c.kind = 2
 ·rw [if_pos k2]
  have hb := buyer_ok (h2 k2).1
  have ht := h2 k2
  exact hwf.set hi ⟨by simp, by simp, by simp; omega, by simp; omega, by simp, by simp; omega, by simp; omega, by simp⟩ her.symm hec.symm
 rw [if_neg k2]
 by_cases k3 : c.kind = 3
 ·rw [if_pos k3]
  have hb := buyer_ok (h3 k3)
  exact hwf.set hi ⟨by simp, by simp, by simp; omega, by simp; omega, by simp, by simp; omega, by simp, by simp⟩ her.symm hec.symm
 rw [if_neg k3]
 by_cases k5 : c.kind = 5
 ·rw [if_pos k5]
  obtain ⟨hto, ho, hs⟩ := h5 k5
  obtain ⟨hj, hje, hjr, hjc⟩ := seatAt_eq hwf hto
  have h1 : Wf p (l.set (p.idx c.ar c.ac) (seatAt p l c.ar c.ac).freed) := hwf.set hi (freed_wf _) (by rw [he]; rfl) (by rw [he]; rfl)
  have hj' : p.idx c.tr c.tc < (l.set (p.idx c.ar c.ac) (seatAt p l c.ar c.ac).freed).length := by simpa using hj
  obtain ⟨hj2, hje2, hjr2, hjc2⟩ := seatAt_eq h1 hto
  exact h1.set hj2 ⟨hswf.s0, hswf.s1, hswf.c0, hswf.c1, hswf.bare, hswf.pa, hswf.un, hswf.bk⟩ hjr2.symm hjc2.symm
 rw [if_neg k5]
 by_cases k6 : c.kind = 6
 ·rw [if_pos k6]
  exact hwf.set hi ⟨by simp, by simp, by simp, by simp, by simp, by simp, by simp, by simp⟩ her.symm hec.symm
 rw [if_neg k6]
 exact hwf.set hi (freed_wf _) (by rw [he]; rfl) (by rw [he]; rfl)
theorem apply_seat {w : World} {ow : Nat → Nat} {kb : Nat} {now : Int} {pt : Nat → Option Nat} {fl : Nat → Option (Pla × List Sea)} (h : KeepX w ow kb now pt fl) (n : Nat) (hn : 1 ≤ n ∧ n ≤ 20) {p : Pla} {l : List Sea} (hfl : fl n = some (p, l))
  (hnow : 0 ≤ now ∧ now ≤ 4611686018427387000) (c : Cmd) (hk : 2 ≤ c.kind ∧ c.kind ≤ 9 ∧ c.kind ≠ 8) (he : seatErr p l c now = 0) (h9 : c.kind ≠ 9) :
  Calls Try.prog 50 #[.pointer (some ⟨kb, 0, none⟩), .agg #[.int .i64 n, changeV c]] w fun e w' =>
   e = .returned (.tuple #[]) ∧ KeepX w' ow kb now pt (fun j => if j = n then some (p.next, seatNew p l c) else fl j) ∧ Mod (fun k => ow k ≠ 0 ∧ ow k < 30) w w' := by
 obtain ⟨b, hp, hwf, hf⟩ := h.here n p l (by omega) hfl
 have hc : (keepCells now pt)[1 + n]? = some (.pointer (some ⟨b, 0, none⟩)) := by rw [keep_at now pt n (by omega), hp]; rfl
 have hw2 := (seatNew_wf hwf hnow he h9).next
 have hfin : ∀ W w', Mod No w W → FlH w' (fun k => ow k = n + 2) b p.next (seatNew p l c) → Mod (fun k => ow k = n + 2) W w' → KeepX w' ow kb now pt (fun j => if j = n then some (p.next, seatNew p l c) else fl j) ∧ Mod (fun k => ow k ≠ 0 ∧ ow k < 30) w w' := fun W w' hW h1 h2 =>
  ⟨(h.mod hW (fun _ _ x => x)).flight h2 hp hw2 h1, (hW.mono (fun _ _ x => x.elim)).trans (h2.mono (fun _ _ (e : ow _ = n + 2) => by show ow _ ≠ 0 ∧ ow _ < 30; omega))⟩
 obtain ⟨h9, hat, h5, h2, h3⟩ := seatErr_zero he h9
 obtain ⟨hi, hse, her, hec⟩ := seatAt_eq hwf hat
 unfold changeV seatNew at *
 rw [if_neg h9] at hfin hw2 ⊢
 rw [if_neg h9]
 by_cases k2 : c.kind = 2
 ·rw [if_pos k2] at hfin hw2 ⊢
  rw [if_pos k2]
  have hb := buyer_ok (h2 k2).1
  have ht := h2 k2
  have hs : (⟨c.ar, c.ac, 1, c.party, c.cls, c.time⟩ : Sea).wf := ⟨by simp, by simp, by simp; omega, by simp; omega, by simp, by simp; omega, by simp; omega, by simp⟩
  exact apply_fill kb b n hn _ _ _ _ _ _ _ w _ h.has hc (fun W hW => (fill_any (hf.mod0 hW) hwf _ hi ⟨c.ar, c.ac, 1, c.party, c.cls, c.time⟩ hs her.symm hec.symm).mono (fun e w' ⟨r, q1, q2⟩ => ⟨r, hfin W w' hW q1 q2⟩))
 rw [if_neg k2] at hfin hw2 ⊢
 rw [if_neg k2]
 by_cases k3 : c.kind = 3
 ·rw [if_pos k3] at hfin hw2 ⊢
  rw [if_pos k3]
  have hb := buyer_ok (h3 k3)
  have hs : (⟨c.ar, c.ac, 2, c.party, c.cls, 0⟩ : Sea).wf := ⟨by simp, by simp, by simp; omega, by simp; omega, by simp, by simp; omega, by simp, by simp⟩
  exact apply_fill kb b n hn _ _ _ _ _ _ _ w _ h.has hc (fun W hW => (fill_any (hf.mod0 hW) hwf _ hi ⟨c.ar, c.ac, 2, c.party, c.cls, 0⟩ hs her.symm hec.symm).mono (fun e w' ⟨r, q1, q2⟩ => ⟨r, hfin W w' hW q1 q2⟩))
 rw [if_neg k3] at hfin hw2 ⊢
 rw [if_neg k3]
 by_cases k5 : c.kind = 5
 ·rw [if_pos k5] at hfin hw2 ⊢
  rw [if_pos k5]
  obtain ⟨hto, ho, hs⟩ := h5 k5
  obtain ⟨hj, hje, hjr, hjc⟩ := seatAt_eq hwf hto
  have hij : p.idx c.ar c.ac ≠ p.idx c.tr c.tc := by
   intro e
   have h1 := owner_zero ho
   rw [hse] at h1
   rw [hje] at hs
   simp only [e] at h1
   omega
  rw [hse] at hfin ⊢
  refine apply_shift kb b n hn _ _ _ _ _ w _ h.has hc (fun W hW => ?_)
  have := shift_any (hf.mod0 hW) hwf _ hi _ hj hij
  rw [her, hec, hjr, hjc] at this
  exact this.mono (fun e w' ⟨r, q1, q2⟩ => ⟨r, hfin W w' hW q1 q2⟩)
 rw [if_neg k5] at hfin hw2 ⊢
 rw [if_neg k5]
 by_cases k6 : c.kind = 6
 ·rw [if_pos k6] at hfin hw2 ⊢
  rw [if_pos k6]
  have hs : (⟨c.ar, c.ac, 3, 0, 0, 0⟩ : Sea).wf := ⟨by simp, by simp, by simp, by simp, by simp, by simp, by simp, by simp⟩
  exact apply_fill kb b n hn _ _ _ _ _ _ _ w _ h.has hc (fun W hW => (fill_any (hf.mod0 hW) hwf _ hi ⟨c.ar, c.ac, 3, 0, 0, 0⟩ hs her.symm hec.symm).mono (fun e w' ⟨r, q1, q2⟩ => ⟨r, hfin W w' hW q1 q2⟩))
 rw [if_neg k6] at hfin hw2 ⊢
 rw [if_neg k6]
 rw [hse] at hfin ⊢
 refine apply_empty kb b n hn _ _ _ w _ h.has hc (fun W hW => ?_)
 have := empty_any (hf.mod0 hW) hwf _ hi
 rw [her, hec] at this
 exact this.mono (fun e w' ⟨r, q1, q2⟩ => ⟨r, hfin W w' hW q1 q2⟩)
open Go.RowKit Go.WideMaps
set_option maxHeartbeats 4000000
structure RowE (w : World) (g : Nat) (hs : List Sea) : Prop where
 cur : ∃ cs, Has w g cs 170 ∧ ∀ i (h : i < hs.length), cs[i * 4]? = some (.int .i64 hs[i].st) ∧ cs[i * 4 + 1]? = some (.int .i64 hs[i].pa) ∧ cs[i * 4 + 2]? = some (.int .i64 hs[i].cl) ∧ cs[i * 4 + 3]? = some (.int .i64 hs[i].un)
theorem flat_at4 (f : Sea → List Value) (hf : ∀ x, (f x).length = 4) : ∀ (l : List Sea) (i : Nat) (h : i < l.length) (j : Nat), j < 4 → (l.flatMap f)[i * 4 + j]? = (f l[i])[j]?
 | [], i, h, _, _ => absurd h (Nat.not_lt_zero _)
 | x :: l, 0, h, j, hj => by
  rw [List.flatMap_cons, Nat.zero_mul, Nat.zero_add, List.getElem?_append_left (by rw [hf]; exact hj)]
  rfl
 | x :: l, i + 1, h, j, hj => by
  rw [List.flatMap_cons, List.getElem?_append_right (by rw [hf, Nat.add_mul]; omega), hf]
  rw [show (i + 1) * 4 + j - 4 = i * 4 + j by rw [Nat.add_mul, Nat.one_mul]; omega]
  exact flat_at4 f hf l i (by simpa using h) j hj
theorem rowE_of {w : World} {v : Value} {hs : List Sea} (h : w.ownsRow 0 170 4 v hs.length (hs.flatMap seL)) (hpos : 0 < hs.length) : ∃ g cp, v = .slice (some ⟨g, 0, none⟩) hs.length cp ∧ RowE w g hs := by
 obtain ⟨h0, h1 | ⟨g, cap, cur, hv, hb, hg, hn, hm, hsz, ht⟩⟩ := h
 ·exact absurd h1.2 (by omega)
 ·refine ⟨g, cap, hv, cur, hg, fun i hi => ?_⟩
  have hk : ∀ j, j < 4 → cur[i * 4 + j]? = (seL hs[i])[j]? := fun j hj => by
   have := flat_at4 seL seL_len hs i hi j hj
   rw [← ht, List.getElem?_take, if_pos (by omega)] at this
   rw [← Array.getElem?_toList, this]
  exact ⟨hk 0 (by omega), hk 1 (by omega), hk 2 (by omega), hk 3 (by omega)⟩
theorem RowE.mod {w w' : World} {g : Nat} {hs : List Sea} {S : Nat → Prop} (h : RowE w g hs) (hm : Mod S w w') (hg : ¬ S g) : RowE w' g hs := by
 obtain ⟨cs, h1, h2⟩ := h.cur
 exact ⟨cs, hm.has h1 hg, h2⟩
structure ReI (w wr : World) (b m' : Nat) (Q : Pla) (acc0 : List Sea) (hs : List Sea) (n k : Nat) : Prop where
 fl : ∃ es' clock', FlX wr b Q ((hs.take n).foldl reseatStep acc0) m' es' clock'
 re : Reseat Q ((hs.take n).foldl reseatStep acc0) (hs.length - n)
 full : ∀ j (h : j < ((hs.take n).foldl reseatStep acc0).length), j < k → ((hs.take n).foldl reseatStep acc0)[j].st ≠ 0
 mod : Mod (fun k => k = b ∨ k = m') w wr
theorem ReI.still {w wr w2 : World} {b m' : Nat} {Q : Pla} {acc0 hs : List Sea} {n k : Nat} (h : ReI w wr b m' Q acc0 hs n k) (hm : Mod No wr w2) : ReI w w2 b m' Q acc0 hs n k := by
 obtain ⟨es', clock', hf⟩ := h.fl
 exact ⟨⟨es', clock', hm.has hf.has (fun x => x), hm.map hf.map (fun x => x), hf.ok, hf.rel⟩, h.re, h.full, h.mod.trans (hm.mono (fun _ _ x => x.elim))⟩
theorem firstFree_eq {acc : List Sea} {k : Nat} (hk : k < acc.length) (h0 : acc[k].st = 0) (hf : ∀ j (h : j < acc.length), j < k → acc[j].st ≠ 0) : firstFree acc = k := by
 unfold firstFree
 rw [List.findIdx_eq hk]
 refine ⟨by simp [h0], fun j hj => ?_⟩
 have := hf j (by omega) hj
 simpa using this
theorem reseatStep_at {acc : List Sea} {k : Nat} (hk : k < acc.length) (h0 : acc[k].st = 0) (hf : ∀ j (h : j < acc.length), j < k → acc[j].st ≠ 0) (s : Sea) : reseatStep acc s = acc.set k (Sea.at s acc[k]) := by
 unfold reseatStep
 rw [firstFree_eq hk h0 hf, List.getD_eq_getElem?_getD, List.getElem?_eq_getElem hk]
 rfl
theorem fold_take {acc0 hs : List Sea} {n : Nat} (hn : n < hs.length) : (hs.take (n + 1)).foldl reseatStep acc0 = reseatStep ((hs.take n).foldl reseatStep acc0) hs[n] := by
 rw [take_succ hs n hn, List.foldl_append]
 rfl
theorem ReI.put {w wr : World} {b m' : Nat} {Q : Pla} {acc0 hs : List Sea} {n k : Nat} (h : ReI w wr b m' Q acc0 hs n k) (hw : ∀ s ∈ hs, s.wf ∧ s.st ≠ 0) (hn : n < hs.length) (hk : k < ((hs.take n).foldl reseatStep acc0).length) (h0 : ((hs.take n).foldl reseatStep acc0)[k].st = 0) :
  Calls Try.prog 102 #[.pointer (some ⟨b, 0, none⟩), .agg #[.int .i64 ((hs.take n).foldl reseatStep acc0)[k].row, .int .i64 ((hs.take n).foldl reseatStep acc0)[k].col], .agg #[.int .i64 hs[n].st, .int .i64 hs[n].pa, .int .i64 hs[n].cl, .int .i64 hs[n].un]] wr fun e w' =>
   e = .returned (.tuple #[]) ∧ ReI w w' b m' Q acc0 hs (n + 1) k ∧ Mod (fun k => k = b ∨ k = m') wr w' := by
 obtain ⟨es', clock', hf⟩ := h.fl
 have hs' := hw _ (List.getElem_mem hn)
 have hff := firstFree_eq hk h0 h.full
 have hre : Reseat Q ((hs.take n).foldl reseatStep acc0) ((hs.length - (n + 1)) + 1) := by rw [show hs.length - (n + 1) + 1 = hs.length - n by omega]; exact h.re
 have hstep := Reseat.step hre hs'.1 hs'.2
 refine (put_exact hf h.re.wf k hk (Sea.at hs[n] ((hs.take n).foldl reseatStep acc0)[k]) (at_wf hs'.1) rfl rfl).mono ?_
 rintro e w' ⟨rfl, hf', hm'⟩
 have e1 : (hs.take (n + 1)).foldl reseatStep acc0 = ((hs.take n).foldl reseatStep acc0).set k (Sea.at hs[n] ((hs.take n).foldl reseatStep acc0)[k]) := by
  rw [fold_take hn]
  exact reseatStep_at hk h0 h.full _
 refine ⟨rfl, ⟨⟨_, _, by rw [e1]; exact hf'⟩, by rw [fold_take hn]; exact hstep, fun j hj hjk => ?_, h.mod.trans hm'⟩, hm'⟩
 simp only [e1] at hj ⊢
 rw [List.getElem_set_ne (by omega)]
 exact h.full j (by simpa using hj) hjk
theorem ReI.on {w wr : World} {b m' : Nat} {Q : Pla} {acc0 hs : List Sea} {n k : Nat} (h : ReI w wr b m' Q acc0 hs n k) (hk : k < ((hs.take n).foldl reseatStep acc0).length) (h0 : ((hs.take n).foldl reseatStep acc0)[k].st ≠ 0) : ReI w wr b m' Q acc0 hs n (k + 1) := by
 refine ⟨h.fl, h.re, fun j hj hjk => ?_, h.mod⟩
 by_cases e : j = k
 ·subst e; exact h0
 ·exact h.full j hj (by omega)
theorem ReI.lt {w wr : World} {b m' : Nat} {Q : Pla} {acc0 hs : List Sea} {n k : Nat} (h : ReI w wr b m' Q acc0 hs n k) (hn : n < hs.length) (hk : k ≤ ((hs.take n).foldl reseatStep acc0).length) : k < ((hs.take n).foldl reseatStep acc0).length := by
 have hre : Reseat Q ((hs.take n).foldl reseatStep acc0) ((hs.length - (n + 1)) + 1) := by rw [show hs.length - (n + 1) + 1 = hs.length - n by omega]; exact h.re
 have hl := firstFree_lt hre
 have h0 := firstFree_at hl
 rcases Nat.lt_or_ge (firstFree ((hs.take n).foldl reseatStep acc0)) k with h1 | h1
 ·exact absurd h0 (h.full _ hl h1)
 ·omega
theorem seesX {w : World} {b m clock : Nat} {p : Pla} {l : List Sea} {es : List MEnt} (h : FlX w b p l m es clock) (hwf : Wf p l) (i : Nat) (hi : i < l.length) (W : World) (hW : Mod No w W) :
  (Instr.lookup 136 (.map (some m)) (.agg #[.int .i64 l[i].row, .int .i64 l[i].col]) false).run Try.prog W = .ok (.agg #[.int .i64 l[i].st, .int .i64 l[i].pa, .int .i64 l[i].cl, .int .i64 l[i].un]) W := by
 have hplace := (hwf.place_has hi).1
 simp only [Pla.has, decide_eq_true_eq] at hplace
 obtain ⟨B1, B2, B3, B4, _⟩ := hwf.bounds
 simp only at B1 B2 B3 B4
 have := run_lookup W m es clock (hW.map h.map (fun x => x)) h.ok l[i].row l[i].col (by omega) (by omega)
 rw [h.rel.seat i hi] at this
 exact this
end Go.Proofs.Ythhibagcpjeihaa
