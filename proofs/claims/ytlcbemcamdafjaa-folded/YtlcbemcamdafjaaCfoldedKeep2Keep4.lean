import Derived.Test.YtlcbemcamdafjaaCfoldedKeep1Keep3
/- A keeper looks a command over. -/
namespace Go.Proofs.Ytlcbemcamdafjaa
open Go.RowKit
open Go.ChangeMaps (setBlock)
open M
set_option linter.unusedVariables false
set_option linter.unusedSimpArgs false
set_option maxRecDepth 100000
set_option maxHeartbeats 2000000

theorem tickLook_yes (t now : Int) (w : World) (h1 : 1 ≤ t) (h2 : t ≤ 100) (hn : 0 ≤ now ∧ now ≤ 4611686018427387000) :
    Calls Try.prog 50 #[.int .i64 t, .int .i64 now] w fun e w' => e = .returned (.tuple #[passV (now + t), .int .i64 0]) ∧ w' = w := by
  have h1' : ¬ t < 1 := by omega
  have h2' : ¬ t > 100 := by omega
  have hw : IntKind.i64.wrap (now + t) = now + t := wrap_id _ (by omega) (by omega)
  go_enter Try.func50, Try.ntmps50
  go_wp2
  go_ret2
  exact ⟨rfl, rfl⟩

theorem tickLook_out (t now : Int) (w : World) (h : ¬ (1 ≤ t ∧ t ≤ 100)) :
    Calls Try.prog 50 #[.int .i64 t, .int .i64 now] w fun e w' => e = .returned (.tuple #[.nilIface, .int .i64 8]) ∧ w' = w := by
  by_cases h1 : t < 1
  · go_enter Try.func50, Try.ntmps50
    go_wp2
    go_ret2
    exact ⟨rfl, rfl⟩
  · have h2 : t > 100 := by omega
    go_enter Try.func50, Try.ntmps50
    go_wp2
    go_ret2
    exact ⟨rfl, rfl⟩

theorem klook_bad (kb : Nat) (c : Cmd) (hk : c.kind < 1 ∨ c.kind > 9) (w : World) :
    Calls Try.prog 44 #[.pointer (some ⟨kb, 0, none⟩), .agg (cmdCells c)] w fun e w' => e = .returned (refuse 1) ∧ Mod No w w' := by
  have M0 := hide ((Mod.refl No w).alloc (.cells (cmdCells c) 37))
  unfold cmdCells at M0 ⊢
  rcases Int.lt_or_le c.kind 1 with h1 | h1
  · clear hk
    go_enter Try.func44, Try.ntmps44
    go_wp2
    go_ret2
    exact ⟨rfl, unhide M0⟩
  · have h2 : c.kind > 9 := by omega
    have h1' : ¬ c.kind < 1 := by omega
    clear hk
    go_enter Try.func44, Try.ntmps44
    go_wp2
    go_ret2
    exact ⟨rfl, unhide M0⟩

theorem klook_tick (kb : Nat) (c : Cmd) (now : Int) (x y : Value) (hk : c.kind = 8) (w : World)
    (hN : ∀ W, Mod No w W → Calls Try.prog 22 #[.pointer (some ⟨kb, 0, none⟩)] W fun e w' => e = .returned (.int .i64 now) ∧ w' = W)
    (hT : ∀ W, Calls Try.prog 50 #[.int .i64 c.time, .int .i64 now] W fun e w' => e = .returned (.tuple #[x, y]) ∧ w' = W) :
    Calls Try.prog 44 #[.pointer (some ⟨kb, 0, none⟩), .agg (cmdCells c)] w fun e w' => e = .returned (.tuple #[x, y]) ∧ Mod No w w' := by
  have HN := hide hN
  have HT := hide hT
  have M0 := hide ((Mod.refl No w).alloc (.cells (cmdCells c) 37))
  unfold cmdCells at M0 ⊢
  rw [hk] at M0 ⊢
  clear hN hT hk
  go_enter Try.func44, Try.ntmps44
  go_wp2_with fail
  go_quiet (first | (go_at_call 22; exact Calls.quiet_of_same ((unhide HN) _ ((unhide M0).drewN _))) | (go_at_call 50; exact Calls.quiet_of_same ((unhide HT) _)))
  go_wp2
  go_ret2
  exact ⟨rfl, (unhide M0).drewN _⟩

theorem klook_num (kb : Nat) (c : Cmd) (hk : 1 ≤ c.kind ∧ c.kind ≤ 9 ∧ c.kind ≠ 8) (hf : ¬ (1 ≤ c.flight ∧ c.flight ≤ 20)) (w : World) :
    Calls Try.prog 44 #[.pointer (some ⟨kb, 0, none⟩), .agg (cmdCells c)] w fun e w' => e = .returned (refuse 2) ∧ Mod No w w' := by
  have M0 := hide ((Mod.refl No w).alloc (.cells (cmdCells c) 37))
  unfold cmdCells at M0 ⊢
  have h1 : ¬ c.kind < 1 := by omega
  have h2 : ¬ c.kind > 9 := by omega
  have h3 : (c.kind == 8) = false := by simp [hk.2.2]
  rcases Int.lt_or_le c.flight 1 with f1 | f1
  · clear hk hf
    go_enter Try.func44, Try.ntmps44
    go_wp2
    go_ret2
    exact ⟨rfl, unhide M0⟩
  · have f2 : c.flight > 20 := by omega
    have f1' : ¬ c.flight < 1 := by omega
    clear hk hf
    go_enter Try.func44, Try.ntmps44
    go_wp2
    go_ret2
    exact ⟨rfl, unhide M0⟩

theorem klook_twice (kb b : Nat) (c : Cmd) (hk : c.kind = 1) (hf : 1 ≤ c.flight ∧ c.flight ≤ 20) (w : World)
    (hF : ∀ W, Mod No w W → Calls Try.prog 40 #[.pointer (some ⟨kb, 0, none⟩), .int .i64 c.flight] W fun e w' => e = .returned (.pointer (some ⟨b, 0, none⟩)) ∧ w' = W) :
    Calls Try.prog 44 #[.pointer (some ⟨kb, 0, none⟩), .agg (cmdCells c)] w fun e w' => e = .returned (refuse 3) ∧ Mod No w w' := by
  have HF := hide hF
  have M0 := hide ((Mod.refl No w).alloc (.cells (cmdCells c) 37))
  have B0 := hide (Has.new w (cmdCells c) 37)
  unfold cmdCells at M0 B0 ⊢
  rw [hk] at M0 B0 ⊢
  have f1 : ¬ c.flight < 1 := by omega
  have f2 : ¬ c.flight > 20 := by omega
  clear hF hk hf
  go_enter Try.func44, Try.ntmps44
  go_wp2_with fail
  refine ((unhide HF) _ (unhide M0)).mono ?_
  rintro e w1 ⟨rfl, rfl⟩
  go_wp2
  go_ret2
  exact ⟨rfl, unhide M0⟩

theorem klook_add (kb : Nat) (c : Cmd) (x y : Value) (hk : c.kind = 1) (hf : 1 ≤ c.flight ∧ c.flight ≤ 20) (w : World)
    (hF : ∀ W, Mod No w W → Calls Try.prog 40 #[.pointer (some ⟨kb, 0, none⟩), .int .i64 c.flight] W fun e w' => e = .returned (.pointer none) ∧ w' = W)
    (hA : ∀ W, Calls Try.prog 51 #[plaV c.pla] W fun e w' => e = .returned (.tuple #[x, y]) ∧ Mod No W w') :
    Calls Try.prog 44 #[.pointer (some ⟨kb, 0, none⟩), .agg (cmdCells c)] w fun e w' => e = .returned (.tuple #[x, y]) ∧ Mod No w w' := by
  have HF := hide hF
  have HA := hide hA
  have M0 := hide ((Mod.refl No w).alloc (.cells (cmdCells c) 37))
  have B0 := hide (Has.new w (cmdCells c) 37)
  unfold cmdCells at M0 B0 ⊢
  unfold plaV at HA
  rw [hk] at M0 B0 ⊢
  have f1 : ¬ c.flight < 1 := by omega
  have f2 : ¬ c.flight > 20 := by omega
  clear hF hk hf hA
  go_enter Try.func44, Try.ntmps44
  go_wp2_with fail
  refine ((unhide HF) _ (unhide M0)).mono ?_
  rintro e w1 ⟨rfl, rfl⟩
  go_wp2_with fail
  refine ((unhide HA) _).mono ?_
  rintro e w1 ⟨rfl, m1⟩
  have M1 := hide ((unhide M0).trans m1)
  clear m1
  go_wp2
  go_ret2
  exact ⟨rfl, unhide M1⟩

theorem klook_miss (kb : Nat) (c : Cmd) (hk : 2 ≤ c.kind ∧ c.kind ≤ 9 ∧ c.kind ≠ 8) (hf : 1 ≤ c.flight ∧ c.flight ≤ 20) (w : World)
    (hF : ∀ W, Mod No w W → Calls Try.prog 40 #[.pointer (some ⟨kb, 0, none⟩), .int .i64 c.flight] W fun e w' => e = .returned (.pointer none) ∧ w' = W) :
    Calls Try.prog 44 #[.pointer (some ⟨kb, 0, none⟩), .agg (cmdCells c)] w fun e w' => e = .returned (refuse 2) ∧ Mod No w w' := by
  have HF := hide hF
  have M0 := hide ((Mod.refl No w).alloc (.cells (cmdCells c) 37))
  unfold cmdCells at M0 ⊢
  have h1 : ¬ c.kind < 1 := by omega
  have h2 : ¬ c.kind > 9 := by omega
  have h3 : (c.kind == 8) = false := by simp [hk.2.2]
  have h4 : (c.kind == 1) = false := by simp; omega
  have f1 : ¬ c.flight < 1 := by omega
  have f2 : ¬ c.flight > 20 := by omega
  clear hF hk hf
  go_enter Try.func44, Try.ntmps44
  go_wp2_with fail
  refine ((unhide HF) _ (unhide M0)).mono ?_
  rintro e w1 ⟨rfl, rfl⟩
  go_wp2
  go_ret2
  exact ⟨rfl, unhide M0⟩

theorem klook_fl (kb b : Nat) (c : Cmd) (now : Int) (x y : Value) (cs : Array Value) (hk : 2 ≤ c.kind ∧ c.kind ≤ 9 ∧ c.kind ≠ 8) (hf : 1 ≤ c.flight ∧ c.flight ≤ 20) (w : World) (h : Has w kb cs 108) (h0 : cs[0]? = some (.int .i64 now))
    (hF : ∀ W, Mod No w W → Calls Try.prog 40 #[.pointer (some ⟨kb, 0, none⟩), .int .i64 c.flight] W fun e w' => e = .returned (.pointer (some ⟨b, 0, none⟩)) ∧ w' = W)
    (hL : ∀ W, Mod No w W → Calls Try.prog 52 #[.pointer (some ⟨b, 0, none⟩), .agg (cmdCells c), .int .i64 now] W fun e w' => e = .returned (.tuple #[x, y]) ∧ Mod No W w') :
    Calls Try.prog 44 #[.pointer (some ⟨kb, 0, none⟩), .agg (cmdCells c)] w fun e w' => e = .returned (.tuple #[x, y]) ∧ Mod No w w' := by
  have HF := hide hF
  have HL := hide hL
  have c0 := h.cell 0
  rw [h0] at c0
  have hlt := h.lt
  have M0 := hide ((Mod.refl No w).alloc (.cells (cmdCells c) 37))
  unfold cmdCells at M0 HL ⊢
  have h1 : ¬ c.kind < 1 := by omega
  have h2 : ¬ c.kind > 9 := by omega
  have h3 : (c.kind == 8) = false := by simp [hk.2.2]
  have h4 : (c.kind == 1) = false := by simp; omega
  have f1 : ¬ c.flight < 1 := by omega
  have f2 : ¬ c.flight > 20 := by omega
  have HH := hide h
  clear hF hL hk hf h
  go_enter Try.func44, Try.ntmps44
  go_wp2_with fail
  refine ((unhide HF) _ (unhide M0)).mono ?_
  rintro e w1 ⟨rfl, rfl⟩
  go_wp2_with fail
  go_region_with (go_at_call 52; refine ((unhide HL) _ ((unhide M0).drew)).mono ?_; rintro e w3 ⟨rfl, hm3⟩; have c03 := (((unhide M0).drew.trans hm3).has (unhide HH) (fun x => x)).cell 0; rw [h0] at c03)
  all_goals go_wp2
  all_goals go_ret2
  all_goals exact ⟨rfl, (unhide M0).drew.trans hm3⟩
end Go.Proofs.Ytlcbemcamdafjaa
/- A change is done to a keeper. -/
namespace Go.Proofs.Ytlcbemcamdafjaa
open Go.RowKit
open Go.ChangeMaps (setBlock)
open M
set_option linter.unusedVariables false
set_option linter.unusedSimpArgs false
set_option maxRecDepth 100000
set_option maxHeartbeats 2000000

theorem ta127 (v : Value) (w : World) : (Instr.typeAssert (.iface 126 v) 111 126 true).run Try.prog w = .ok (.tuple #[v, .bool true]) w := by kernel_rfl
theorem ta154 (v : Value) (w : World) : (Instr.typeAssert (.iface 139 v) 111 126 true).run Try.prog w = .ok (.tuple #[.agg #[.int .i64 0], .bool false]) w := by kernel_rfl
theorem ta173 (v : Value) (w : World) : (Instr.typeAssert (.iface 149 v) 111 126 true).run Try.prog w = .ok (.tuple #[.agg #[.int .i64 0], .bool false]) w := by kernel_rfl
theorem ta175 (v : Value) (w : World) : (Instr.typeAssert (.iface 151 v) 111 126 true).run Try.prog w = .ok (.tuple #[.agg #[.int .i64 0], .bool false]) w := by kernel_rfl
theorem ta177 (v : Value) (w : World) : (Instr.typeAssert (.iface 153 v) 111 126 true).run Try.prog w = .ok (.tuple #[.agg #[.int .i64 0], .bool false]) w := by kernel_rfl
theorem ta125 (v : Value) (w : World) : (Instr.typeAssert (.iface 147 v) 111 126 true).run Try.prog w = .ok (.tuple #[.agg #[.int .i64 0], .bool false]) w := by kernel_rfl
theorem nilAhead125 (v : Value) (w : World) : (nilAhead 280 147 v "Do").run Try.prog w = .ok (some false) w := by kernel_rfl
theorem method125 (v : Value) (w : World) : (method 280 147 v "Do").run Try.prog w = .ok (96, v) w := by kernel_rfl
attribute [local go_sem] ta125 nilAhead125 method125
theorem nilAhead154 (v : Value) (w : World) : (nilAhead 280 139 v "Do").run Try.prog w = .ok (some false) w := by kernel_rfl
theorem nilAhead173 (v : Value) (w : World) : (nilAhead 280 149 v "Do").run Try.prog w = .ok (some false) w := by kernel_rfl
theorem nilAhead175 (v : Value) (w : World) : (nilAhead 280 151 v "Do").run Try.prog w = .ok (some false) w := by kernel_rfl
theorem nilAhead177 (v : Value) (w : World) : (nilAhead 280 153 v "Do").run Try.prog w = .ok (some false) w := by kernel_rfl
attribute [local go_sem] nilAhead154 nilAhead173 nilAhead175 nilAhead177
theorem method154 (v : Value) (w : World) : (method 280 139 v "Do").run Try.prog w = .ok (94, v) w := by kernel_rfl
theorem method173 (v : Value) (w : World) : (method 280 149 v "Do").run Try.prog w = .ok (99, v) w := by kernel_rfl
theorem method175 (v : Value) (w : World) : (method 280 151 v "Do").run Try.prog w = .ok (100, v) w := by kernel_rfl
theorem method177 (v : Value) (w : World) : (method 280 153 v "Do").run Try.prog w = .ok (101, v) w := by kernel_rfl
attribute [local go_sem] method154 method173 method175 method177
attribute [local go_sem] ta127 ta154 ta173 ta175 ta177

theorem apply_pass (kb : Nat) (n nw : Int) (w : World) (P : World → Prop)
    (hC : ∀ W, Mod No w W → Calls Try.prog 53 #[.pointer (some ⟨kb, 0, none⟩), .agg #[.int .i64 nw]] W fun e w' => e = .returned (.tuple #[]) ∧ P w') :
    Calls Try.prog 45 #[.pointer (some ⟨kb, 0, none⟩), .int .i64 n, passV nw] w fun e w' => e = .returned (.tuple #[]) ∧ P w' := by
  have HC := hide hC
  have M0 := hide ((Mod.refl No w).alloc (.cells #[.int .i64 nw] 126))
  unfold passV
  clear hC
  go_enter Try.func45, Try.ntmps45
  go_wp2_with fail
  refine ((unhide HC) _ (unhide M0)).mono ?_
  rintro e w1 ⟨rfl, p1⟩
  go_wp2
  refine bodyPost_ret (results_none rfl _ _ _) rfl ?_
  exact ⟨rfl, p1⟩

theorem apply_fill (kb b n : Nat) (hn : 1 ≤ n ∧ n ≤ 20) (x0 x1 x2 x3 x4 x5 : Value) (cs : Array Value) (w : World) (P : World → Prop) (h : Has w kb cs 108) (hc : cs[1 + n]? = some (.pointer (some ⟨b, 0, none⟩)))
    (hC : ∀ W, Mod No w W → Calls Try.prog 99 #[.agg #[x0, x1, x2, x3, x4, x5], .pointer (some ⟨b, 0, none⟩)] W fun e w' => e = .returned (.tuple #[]) ∧ P w') :
    Calls Try.prog 45 #[.pointer (some ⟨kb, 0, none⟩), .int .i64 n, .iface 149 (.agg #[x0, x1, x2, x3, x4, x5])] w fun e w' => e = .returned (.tuple #[]) ∧ P w' := by
  have HC := hide hC
  have M0 := hide ((Mod.refl No w).alloc (.cells #[.int .i64 0] 126))
  have c := h.cell (1 + n)
  rw [hc] at c
  have hlt := h.lt
  have h3 : (n : Int) < 21 := by omega
  have h4 : (0 : Int) ≤ n := by omega
  clear h hc hC
  go_enter Try.func45, Try.ntmps45
  go_wp2_with fail
  go_region_with (go_at_call 99; refine ((unhide HC) _ (unhide M0).drew).mono ?_; rintro e w1 ⟨rfl, p1⟩)
  all_goals go_wp2
  all_goals go_end0
  all_goals exact ⟨rfl, p1⟩

theorem apply_empty (kb b n : Nat) (hn : 1 ≤ n ∧ n ≤ 20) (x0 x1 : Value) (cs : Array Value) (w : World) (P : World → Prop) (h : Has w kb cs 108) (hc : cs[1 + n]? = some (.pointer (some ⟨b, 0, none⟩)))
    (hC : ∀ W, Mod No w W → Calls Try.prog 100 #[.agg #[x0, x1], .pointer (some ⟨b, 0, none⟩)] W fun e w' => e = .returned (.tuple #[]) ∧ P w') :
    Calls Try.prog 45 #[.pointer (some ⟨kb, 0, none⟩), .int .i64 n, .iface 151 (.agg #[x0, x1])] w fun e w' => e = .returned (.tuple #[]) ∧ P w' := by
  have HC := hide hC
  have M0 := hide ((Mod.refl No w).alloc (.cells #[.int .i64 0] 126))
  have c := h.cell (1 + n)
  rw [hc] at c
  have hlt := h.lt
  have h3 : (n : Int) < 21 := by omega
  have h4 : (0 : Int) ≤ n := by omega
  clear h hc hC
  go_enter Try.func45, Try.ntmps45
  go_wp2_with fail
  go_region_with (go_at_call 100; refine ((unhide HC) _ (unhide M0).drew).mono ?_; rintro e w1 ⟨rfl, p1⟩)
  all_goals go_wp2
  all_goals go_end0
  all_goals exact ⟨rfl, p1⟩

theorem apply_shift (kb b n : Nat) (hn : 1 ≤ n ∧ n ≤ 20) (x0 x1 x2 x3 : Value) (cs : Array Value) (w : World) (P : World → Prop) (h : Has w kb cs 108) (hc : cs[1 + n]? = some (.pointer (some ⟨b, 0, none⟩)))
    (hC : ∀ W, Mod No w W → Calls Try.prog 101 #[.agg #[x0, x1, x2, x3], .pointer (some ⟨b, 0, none⟩)] W fun e w' => e = .returned (.tuple #[]) ∧ P w') :
    Calls Try.prog 45 #[.pointer (some ⟨kb, 0, none⟩), .int .i64 n, .iface 153 (.agg #[x0, x1, x2, x3])] w fun e w' => e = .returned (.tuple #[]) ∧ P w' := by
  have HC := hide hC
  have M0 := hide ((Mod.refl No w).alloc (.cells #[.int .i64 0] 126))
  have c := h.cell (1 + n)
  rw [hc] at c
  have hlt := h.lt
  have h3 : (n : Int) < 21 := by omega
  have h4 : (0 : Int) ≤ n := by omega
  clear h hc hC
  go_enter Try.func45, Try.ntmps45
  go_wp2_with fail
  go_region_with (go_at_call 101; refine ((unhide HC) _ (unhide M0).drew).mono ?_; rintro e w1 ⟨rfl, p1⟩)
  all_goals go_wp2
  all_goals go_end0
  all_goals exact ⟨rfl, p1⟩

theorem apply_refit (kb b n : Nat) (hn : 1 ≤ n ∧ n ≤ 20) (x0 x1 x2 : Value) (cs : Array Value) (w : World) (P : World → Prop) (h : Has w kb cs 108) (hc : cs[1 + n]? = some (.pointer (some ⟨b, 0, none⟩)))
    (hC : ∀ W, Mod No w W → Calls Try.prog 96 #[.agg #[x0, x1, x2], .pointer (some ⟨b, 0, none⟩)] W fun e w' => e = .returned (.tuple #[]) ∧ P w') :
    Calls Try.prog 45 #[.pointer (some ⟨kb, 0, none⟩), .int .i64 n, .iface 147 (.agg #[x0, x1, x2])] w fun e w' => e = .returned (.tuple #[]) ∧ P w' := by
  have HC := hide hC
  have M0 := hide ((Mod.refl No w).alloc (.cells #[.int .i64 0] 126))
  have c := h.cell (1 + n)
  rw [hc] at c
  have hlt := h.lt
  have h3 : (n : Int) < 21 := by omega
  have h4 : (0 : Int) ≤ n := by omega
  clear h hc hC
  go_enter Try.func45, Try.ntmps45
  go_wp2_with fail
  go_region_with (go_at_call 96; refine ((unhide HC) _ (unhide M0).drew).mono ?_; rintro e w1 ⟨rfl, p1⟩)
  all_goals go_wp2
  all_goals go_end0
  all_goals exact ⟨rfl, p1⟩

theorem apply_new (kb n : Nat) (hn : 1 ≤ n ∧ n ≤ 20) (now : Int) (pt : Nat → Option Nat) (p : Pla) (w : World) (P : World → Prop) (h : Has w kb (keepCells now pt) 108) (hc : pt n = none)
    (hC : ∀ W, Mod (fun k => k = kb) w W → Has W kb (keepCells now (updP pt n (w.heap.size + 1))) 108 → Has W (w.heap.size + 1) (fcs 0 0 0 0 0 0 0 (.map none) 0 0 0 0 0 0 0 0 0 0 0 0 0 0 0 0 0) 121 →
      Calls Try.prog 94 #[plaV p, .pointer (some ⟨w.heap.size + 1, 0, none⟩)] W fun e w' => e = .returned (.tuple #[]) ∧ P w') :
    Calls Try.prog 45 #[.pointer (some ⟨kb, 0, none⟩), .int .i64 n, startV p] w fun e w' => e = .returned (.tuple #[]) ∧ P w' := by
  have HC := hide hC
  have c := h.cell (1 + n)
  rw [keep_at now pt n (by omega), hc, show pv none = .pointer none from rfl] at c
  have hlt := h.lt
  have fz := h.frozen (1 + n)
  have H := hide h
  have h3 : (n : Int) < 21 := by omega
  have h4 : (0 : Int) ≤ n := by omega
  unfold startV plaV at *
  clear h hc hC
  go_enter Try.func45, Try.ntmps45
  go_upto_region 5 with fail
  have m5 : Mod (fun k => k = kb) w (((w.setCell ⟨kb, 1 + n, none⟩ (.pointer (some ⟨w.heap.size + 1, 0, none⟩))).alloc (.cells #[.int .i64 0] 126)).alloc (.cells #[.int .i64 0, .int .i64 0, .int .i64 0, .int .i64 0, .int .i64 0, .int .i64 0, .int .i64 0, .map none, .int .i64 0, .int .i64 0, .int .i64 0, .int .i64 0, .int .i64 0, .int .i64 0, .int .i64 0, .int .i64 0, .int .i64 0, .int .i64 0, .int .i64 0, .int .i64 0, .int .i64 0, .int .i64 0, .int .i64 0, .int .i64 0, .int .i64 0] 121)) := (((Mod.refl _ w).at (1 + n) _).alloc _).alloc _
  have k5 : Has (((w.setCell ⟨kb, 1 + n, none⟩ (.pointer (some ⟨w.heap.size + 1, 0, none⟩))).alloc (.cells #[.int .i64 0] 126)).alloc (.cells #[.int .i64 0, .int .i64 0, .int .i64 0, .int .i64 0, .int .i64 0, .int .i64 0, .int .i64 0, .map none, .int .i64 0, .int .i64 0, .int .i64 0, .int .i64 0, .int .i64 0, .int .i64 0, .int .i64 0, .int .i64 0, .int .i64 0, .int .i64 0, .int .i64 0, .int .i64 0, .int .i64 0, .int .i64 0, .int .i64 0, .int .i64 0, .int .i64 0] 121)) kb (keepCells now (updP pt n (w.heap.size + 1))) 108 := by
    have := (((unhide H).set (1 + n) (pv (some (w.heap.size + 1)))).alloc (.cells #[.int .i64 0] 126)).alloc (.cells #[.int .i64 0, .int .i64 0, .int .i64 0, .int .i64 0, .int .i64 0, .int .i64 0, .int .i64 0, .map none, .int .i64 0, .int .i64 0, .int .i64 0, .int .i64 0, .int .i64 0, .int .i64 0, .int .i64 0, .int .i64 0, .int .i64 0, .int .i64 0, .int .i64 0, .int .i64 0, .int .i64 0, .int .i64 0, .int .i64 0, .int .i64 0, .int .i64 0] 121)
    rw [keep_set now pt n _ (by omega)] at this
    exact this
  have b5 : Has (((w.setCell ⟨kb, 1 + n, none⟩ (.pointer (some ⟨w.heap.size + 1, 0, none⟩))).alloc (.cells #[.int .i64 0] 126)).alloc (.cells #[.int .i64 0, .int .i64 0, .int .i64 0, .int .i64 0, .int .i64 0, .int .i64 0, .int .i64 0, .map none, .int .i64 0, .int .i64 0, .int .i64 0, .int .i64 0, .int .i64 0, .int .i64 0, .int .i64 0, .int .i64 0, .int .i64 0, .int .i64 0, .int .i64 0, .int .i64 0, .int .i64 0, .int .i64 0, .int .i64 0, .int .i64 0, .int .i64 0] 121)) (w.heap.size + 1) #[.int .i64 0, .int .i64 0, .int .i64 0, .int .i64 0, .int .i64 0, .int .i64 0, .int .i64 0, .map none, .int .i64 0, .int .i64 0, .int .i64 0, .int .i64 0, .int .i64 0, .int .i64 0, .int .i64 0, .int .i64 0, .int .i64 0, .int .i64 0, .int .i64 0, .int .i64 0, .int .i64 0, .int .i64 0, .int .i64 0, .int .i64 0, .int .i64 0] 121 := by
    have := Has.new ((w.setCell ⟨kb, 1 + n, none⟩ (.pointer (some ⟨w.heap.size + 1, 0, none⟩))).alloc (.cells #[.int .i64 0] 126)) #[.int .i64 0, .int .i64 0, .int .i64 0, .int .i64 0, .int .i64 0, .int .i64 0, .int .i64 0, .map none, .int .i64 0, .int .i64 0, .int .i64 0, .int .i64 0, .int .i64 0, .int .i64 0, .int .i64 0, .int .i64 0, .int .i64 0, .int .i64 0, .int .i64 0, .int .i64 0, .int .i64 0, .int .i64 0, .int .i64 0, .int .i64 0, .int .i64 0] 121
    rw [World.size_alloc, World.size_setCell] at this
    exact this
  have M5 := hide m5
  have K5 := hide k5
  have B5 := hide b5
  have c5 := k5.cell (1 + n)
  rw [keep_at now _ n (by omega), show pv (updP pt n (w.heap.size + 1) n) = .pointer (some ⟨w.heap.size + 1, 0, none⟩) by simp [updP, pv]] at c5
  have l5 := k5.lt
  clear m5 k5 b5 c H fz hlt
  generalize (((w.setCell ⟨kb, 1 + n, none⟩ (.pointer (some ⟨w.heap.size + 1, 0, none⟩))).alloc (.cells #[.int .i64 0] 126)).alloc (.cells #[.int .i64 0, .int .i64 0, .int .i64 0, .int .i64 0, .int .i64 0, .int .i64 0, .int .i64 0, .map none, .int .i64 0, .int .i64 0, .int .i64 0, .int .i64 0, .int .i64 0, .int .i64 0, .int .i64 0, .int .i64 0, .int .i64 0, .int .i64 0, .int .i64 0, .int .i64 0, .int .i64 0, .int .i64 0, .int .i64 0, .int .i64 0, .int .i64 0] 121)) = w5 at *
  go_region_with (go_at_call 94; refine ((unhide HC) _ (unhide M5).drew (unhide K5).drew (unhide B5).drew).mono ?_; rintro e w1 ⟨rfl, p1⟩)
  all_goals go_wp2
  all_goals go_end0
  all_goals exact ⟨rfl, p1⟩
end Go.Proofs.Ytlcbemcamdafjaa
