import Derived.Test.YtlcbemcamdafjaaCbackKeep1Keep3
import Derived.Test.YtlcbemcamdafjaaCbackKeep2
/- A change is done to a keeper. -/
namespace Go.Proofs.Ytlcbemcamdafjaa
open Go.RowKit
open Go.ChangeMaps (setBlock)
open M
set_option linter.unusedVariables false
set_option linter.unusedSimpArgs false
set_option maxRecDepth 100000
set_option maxHeartbeats 2000000

theorem ta127 (v : Value) (w : World) : (Instr.typeAssert (.iface 126 v) 111 126 true).run Try.prog w = .ok (.tuple #[v, .bool true]) w := by kernel_rfl
theorem ta154 (v : Value) (w : World) : (Instr.typeAssert (.iface 139 v) 111 126 true).run Try.prog w = .ok (.tuple #[.agg #[.int .i64 0], .bool false]) w := by kernel_rfl
theorem ta173 (v : Value) (w : World) : (Instr.typeAssert (.iface 149 v) 111 126 true).run Try.prog w = .ok (.tuple #[.agg #[.int .i64 0], .bool false]) w := by kernel_rfl
theorem ta175 (v : Value) (w : World) : (Instr.typeAssert (.iface 151 v) 111 126 true).run Try.prog w = .ok (.tuple #[.agg #[.int .i64 0], .bool false]) w := by kernel_rfl
theorem ta177 (v : Value) (w : World) : (Instr.typeAssert (.iface 153 v) 111 126 true).run Try.prog w = .ok (.tuple #[.agg #[.int .i64 0], .bool false]) w := by kernel_rfl
theorem ta125 (v : Value) (w : World) : (Instr.typeAssert (.iface 147 v) 111 126 true).run Try.prog w = .ok (.tuple #[.agg #[.int .i64 0], .bool false]) w := by kernel_rfl
theorem nilAhead125 (v : Value) (w : World) : (nilAhead 280 147 v "Do").run Try.prog w = .ok (some false) w := by kernel_rfl
theorem method125 (v : Value) (w : World) : (method 280 147 v "Do").run Try.prog w = .ok (96, v) w := by kernel_rfl
attribute [local go_sem] ta125 nilAhead125 method125
theorem nilAhead154 (v : Value) (w : World) : (nilAhead 280 139 v "Do").run Try.prog w = .ok (some false) w := by kernel_rfl
theorem nilAhead173 (v : Value) (w : World) : (nilAhead 280 149 v "Do").run Try.prog w = .ok (some false) w := by kernel_rfl
theorem nilAhead175 (v : Value) (w : World) : (nilAhead 280 151 v "Do").run Try.prog w = .ok (some false) w := by kernel_rfl
theorem nilAhead177 (v : Value) (w : World) : (nilAhead 280 153 v "Do").run Try.prog w = .ok (some false) w := by kernel_rfl
attribute [local go_sem] nilAhead154 nilAhead173 nilAhead175 nilAhead177
theorem method154 (v : Value) (w : World) : (method 280 139 v "Do").run Try.prog w = .ok (94, v) w := by kernel_rfl
theorem method173 (v : Value) (w : World) : (method 280 149 v "Do").run Try.prog w = .ok (99, v) w := by kernel_rfl
theorem method175 (v : Value) (w : World) : (method 280 151 v "Do").run Try.prog w = .ok (100, v) w := by kernel_rfl
theorem method177 (v : Value) (w : World) : (method 280 153 v "Do").run Try.prog w = .ok (101, v) w := by kernel_rfl
attribute [local go_sem] method154 method173 method175 method177
attribute [local go_sem] ta127 ta154 ta173 ta175 ta177

theorem apply_pass (kb : Nat) (n nw : Int) (w : World) (P : World → Prop)
    (hC : ∀ W, Mod No w W → Calls Try.prog 53 #[.pointer (some ⟨kb, 0, none⟩), .agg #[.int .i64 nw]] W fun e w' => e = .returned (.tuple #[]) ∧ P w') :
    Calls Try.prog 45 #[.pointer (some ⟨kb, 0, none⟩), .int .i64 n, passV nw] w fun e w' => e = .returned (.tuple #[]) ∧ P w' := by
  have HC := hide hC
  have M0 := hide ((Mod.refl No w).alloc (.cells #[.int .i64 nw] 126))
  unfold passV
  clear hC
  go_enter Try.func45, Try.ntmps45
  go_wp2_with fail
  refine ((unhide HC) _ (unhide M0)).mono ?_
  rintro e w1 ⟨rfl, p1⟩
  go_wp2
  refine bodyPost_ret (results_none rfl _ _ _) rfl ?_
  exact ⟨rfl, p1⟩

theorem apply_fill (kb b n : Nat) (hn : 1 ≤ n ∧ n ≤ 20) (x0 x1 x2 x3 x4 x5 : Value) (cs : Array Value) (w : World) (P : World → Prop) (h : Has w kb cs 108) (hc : cs[1 + n]? = some (.pointer (some ⟨b, 0, none⟩)))
    (hC : ∀ W, Mod No w W → Calls Try.prog 99 #[.agg #[x0, x1, x2, x3, x4, x5], .pointer (some ⟨b, 0, none⟩)] W fun e w' => e = .returned (.tuple #[]) ∧ P w') :
    Calls Try.prog 45 #[.pointer (some ⟨kb, 0, none⟩), .int .i64 n, .iface 149 (.agg #[x0, x1, x2, x3, x4, x5])] w fun e w' => e = .returned (.tuple #[]) ∧ P w' := by
  have HC := hide hC
  have M0 := hide ((Mod.refl No w).alloc (.cells #[.int .i64 0] 126))
  have c := h.cell (1 + n)
  rw [hc] at c
  have hlt := h.lt
  have h3 : (n : Int) < 21 := by omega
  have h4 : (0 : Int) ≤ n := by omega
  clear h hc hC
  go_enter Try.func45, Try.ntmps45
  go_wp2_with fail
  go_region_with (go_at_call 99; refine ((unhide HC) _ (unhide M0).drew).mono ?_; rintro e w1 ⟨rfl, p1⟩)
  all_goals go_wp2
  all_goals go_end0
  all_goals exact ⟨rfl, p1⟩

theorem apply_empty (kb b n : Nat) (hn : 1 ≤ n ∧ n ≤ 20) (x0 x1 : Value) (cs : Array Value) (w : World) (P : World → Prop) (h : Has w kb cs 108) (hc : cs[1 + n]? = some (.pointer (some ⟨b, 0, none⟩)))
    (hC : ∀ W, Mod No w W → Calls Try.prog 100 #[.agg #[x0, x1], .pointer (some ⟨b, 0, none⟩)] W fun e w' => e = .returned (.tuple #[]) ∧ P w') :
    Calls Try.prog 45 #[.pointer (some ⟨kb, 0, none⟩), .int .i64 n, .iface 151 (.agg #[x0, x1])] w fun e w' => e = .returned (.tuple #[]) ∧ P w' := by
  have HC := hide hC
  have M0 := hide ((Mod.refl No w).alloc (.cells #[.int .i64 0] 126))
  have c := h.cell (1 + n)
  rw [hc] at c
  have hlt := h.lt
  have h3 : (n : Int) < 21 := by omega
  have h4 : (0 : Int) ≤ n := by omega
  clear h hc hC
  go_enter Try.func45, Try.ntmps45
  go_wp2_with fail
  go_region_with (go_at_call 100; refine ((unhide HC) _ (unhide M0).drew).mono ?_; rintro e w1 ⟨rfl, p1⟩)
  all_goals go_wp2
  all_goals go_end0
  all_goals exact ⟨rfl, p1⟩

theorem apply_shift (kb b n : Nat) (hn : 1 ≤ n ∧ n ≤ 20) (x0 x1 x2 x3 : Value) (cs : Array Value) (w : World) (P : World → Prop) (h : Has w kb cs 108) (hc : cs[1 + n]? = some (.pointer (some ⟨b, 0, none⟩)))
    (hC : ∀ W, Mod No w W → Calls Try.prog 101 #[.agg #[x0, x1, x2, x3], .pointer (some ⟨b, 0, none⟩)] W fun e w' => e = .returned (.tuple #[]) ∧ P w') :
    Calls Try.prog 45 #[.pointer (some ⟨kb, 0, none⟩), .int .i64 n, .iface 153 (.agg #[x0, x1, x2, x3])] w fun e w' => e = .returned (.tuple #[]) ∧ P w' := by
  have HC := hide hC
  have M0 := hide ((Mod.refl No w).alloc (.cells #[.int .i64 0] 126))
  have c := h.cell (1 + n)
  rw [hc] at c
  have hlt := h.lt
  have h3 : (n : Int) < 21 := by omega
  have h4 : (0 : Int) ≤ n := by omega
  clear h hc hC
  go_enter Try.func45, Try.ntmps45
  go_wp2_with fail
  go_region_with (go_at_call 101; refine ((unhide HC) _ (unhide M0).drew).mono ?_; rintro e w1 ⟨rfl, p1⟩)
  all_goals go_wp2
  all_goals go_end0
  all_goals exact ⟨rfl, p1⟩

theorem apply_refit (kb b n : Nat) (hn : 1 ≤ n ∧ n ≤ 20) (x0 x1 x2 : Value) (cs : Array Value) (w : World) (P : World → Prop) (h : Has w kb cs 108) (hc : cs[1 + n]? = some (.pointer (some ⟨b, 0, none⟩)))
    (hC : ∀ W, Mod No w W → Calls Try.prog 96 #[.agg #[x0, x1, x2], .pointer (some ⟨b, 0, none⟩)] W fun e w' => e = .returned (.tuple #[]) ∧ P w') :
    Calls Try.prog 45 #[.pointer (some ⟨kb, 0, none⟩), .int .i64 n, .iface 147 (.agg #[x0, x1, x2])] w fun e w' => e = .returned (.tuple #[]) ∧ P w' := by
  have HC := hide hC
  have M0 := hide ((Mod.refl No w).alloc (.cells #[.int .i64 0] 126))
  have c := h.cell (1 + n)
  rw [hc] at c
  have hlt := h.lt
  have h3 : (n : Int) < 21 := by omega
  have h4 : (0 : Int) ≤ n := by omega
  clear h hc hC
  go_enter Try.func45, Try.ntmps45
  go_wp2_with fail
  go_region_with (go_at_call 96; refine ((unhide HC) _ (unhide M0).drew).mono ?_; rintro e w1 ⟨rfl, p1⟩)
  all_goals go_wp2
  all_goals go_end0
  all_goals exact ⟨rfl, p1⟩

theorem apply_new (kb n : Nat) (hn : 1 ≤ n ∧ n ≤ 20) (now : Int) (pt : Nat → Option Nat) (p : Pla) (w : World) (P : World → Prop) (h : Has w kb (keepCells now pt) 108) (hc : pt n = none)
    (hC : ∀ W, Mod (fun k => k = kb) w W → Has W kb (keepCells now (updP pt n (w.heap.size + 1))) 108 → Has W (w.heap.size + 1) (fcs 0 0 0 0 0 0 0 (.map none) 0 0 0 0 0 0 0 0 0 0 0 0 0 0 0 0 0) 121 →
      Calls Try.prog 94 #[plaV p, .pointer (some ⟨w.heap.size + 1, 0, none⟩)] W fun e w' => e = .returned (.tuple #[]) ∧ P w') :
    Calls Try.prog 45 #[.pointer (some ⟨kb, 0, none⟩), .int .i64 n, startV p] w fun e w' => e = .returned (.tuple #[]) ∧ P w' := by
  have HC := hide hC
  have c := h.cell (1 + n)
  rw [keep_at now pt n (by omega), hc, show pv none = .pointer none from rfl] at c
  have hlt := h.lt
  have fz := h.frozen (1 + n)
  have H := hide h
  have h3 : (n : Int) < 21 := by omega
  have h4 : (0 : Int) ≤ n := by omega
  unfold startV plaV at *
  clear h hc hC
  go_enter Try.func45, Try.ntmps45
  go_upto_region 5 with fail
  have m5 : Mod (fun k => k = kb) w (((w.setCell ⟨kb, 1 + n, none⟩ (.pointer (some ⟨w.heap.size + 1, 0, none⟩))).alloc (.cells #[.int .i64 0] 126)).alloc (.cells #[.int .i64 0, .int .i64 0, .int .i64 0, .int .i64 0, .int .i64 0, .int .i64 0, .int .i64 0, .map none, .int .i64 0, .int .i64 0, .int .i64 0, .int .i64 0, .int .i64 0, .int .i64 0, .int .i64 0, .int .i64 0, .int .i64 0, .int .i64 0, .int .i64 0, .int .i64 0, .int .i64 0, .int .i64 0, .int .i64 0, .int .i64 0, .int .i64 0] 121)) := (((Mod.refl _ w).at (1 + n) _).alloc _).alloc _
  have k5 : Has (((w.setCell ⟨kb, 1 + n, none⟩ (.pointer (some ⟨w.heap.size + 1, 0, none⟩))).alloc (.cells #[.int .i64 0] 126)).alloc (.cells #[.int .i64 0, .int .i64 0, .int .i64 0, .int .i64 0, .int .i64 0, .int .i64 0, .int .i64 0, .map none, .int .i64 0, .int .i64 0, .int .i64 0, .int .i64 0, .int .i64 0, .int .i64 0, .int .i64 0, .int .i64 0, .int .i64 0, .int .i64 0, .int .i64 0, .int .i64 0, .int .i64 0, .int .i64 0, .int .i64 0, .int .i64 0, .int .i64 0] 121)) kb (keepCells now (updP pt n (w.heap.size + 1))) 108 := by
    have := (((unhide H).set (1 + n) (pv (some (w.heap.size + 1)))).alloc (.cells #[.int .i64 0] 126)).alloc (.cells #[.int .i64 0, .int .i64 0, .int .i64 0, .int .i64 0, .int .i64 0, .int .i64 0, .int .i64 0, .map none, .int .i64 0, .int .i64 0, .int .i64 0, .int .i64 0, .int .i64 0, .int .i64 0, .int .i64 0, .int .i64 0, .int .i64 0, .int .i64 0, .int .i64 0, .int .i64 0, .int .i64 0, .int .i64 0, .int .i64 0, .int .i64 0, .int .i64 0] 121)
    rw [keep_set now pt n _ (by omega)] at this
    exact this
  have b5 : Has (((w.setCell ⟨kb, 1 + n, none⟩ (.pointer (some ⟨w.heap.size + 1, 0, none⟩))).alloc (.cells #[.int .i64 0] 126)).alloc (.cells #[.int .i64 0, .int .i64 0, .int .i64 0, .int .i64 0, .int .i64 0, .int .i64 0, .int .i64 0, .map none, .int .i64 0, .int .i64 0, .int .i64 0, .int .i64 0, .int .i64 0, .int .i64 0, .int .i64 0, .int .i64 0, .int .i64 0, .int .i64 0, .int .i64 0, .int .i64 0, .int .i64 0, .int .i64 0, .int .i64 0, .int .i64 0, .int .i64 0] 121)) (w.heap.size + 1) #[.int .i64 0, .int .i64 0, .int .i64 0, .int .i64 0, .int .i64 0, .int .i64 0, .int .i64 0, .map none, .int .i64 0, .int .i64 0, .int .i64 0, .int .i64 0, .int .i64 0, .int .i64 0, .int .i64 0, .int .i64 0, .int .i64 0, .int .i64 0, .int .i64 0, .int .i64 0, .int .i64 0, .int .i64 0, .int .i64 0, .int .i64 0, .int .i64 0] 121 := by
    have := Has.new ((w.setCell ⟨kb, 1 + n, none⟩ (.pointer (some ⟨w.heap.size + 1, 0, none⟩))).alloc (.cells #[.int .i64 0] 126)) #[.int .i64 0, .int .i64 0, .int .i64 0, .int .i64 0, .int .i64 0, .int .i64 0, .int .i64 0, .map none, .int .i64 0, .int .i64 0, .int .i64 0, .int .i64 0, .int .i64 0, .int .i64 0, .int .i64 0, .int .i64 0, .int .i64 0, .int .i64 0, .int .i64 0, .int .i64 0, .int .i64 0, .int .i64 0, .int .i64 0, .int .i64 0, .int .i64 0] 121
    rw [World.size_alloc, World.size_setCell] at this
    exact this
  have M5 := hide m5
  have K5 := hide k5
  have B5 := hide b5
  have c5 := k5.cell (1 + n)
  rw [keep_at now _ n (by omega), show pv (updP pt n (w.heap.size + 1) n) = .pointer (some ⟨w.heap.size + 1, 0, none⟩) by simp [updP, pv]] at c5
  have l5 := k5.lt
  clear m5 k5 b5 c H fz hlt
  generalize (((w.setCell ⟨kb, 1 + n, none⟩ (.pointer (some ⟨w.heap.size + 1, 0, none⟩))).alloc (.cells #[.int .i64 0] 126)).alloc (.cells #[.int .i64 0, .int .i64 0, .int .i64 0, .int .i64 0, .int .i64 0, .int .i64 0, .int .i64 0, .map none, .int .i64 0, .int .i64 0, .int .i64 0, .int .i64 0, .int .i64 0, .int .i64 0, .int .i64 0, .int .i64 0, .int .i64 0, .int .i64 0, .int .i64 0, .int .i64 0, .int .i64 0, .int .i64 0, .int .i64 0, .int .i64 0, .int .i64 0] 121)) = w5 at *
  go_region_with (go_at_call 94; refine ((unhide HC) _ (unhide M5).drew (unhide K5).drew (unhide B5).drew).mono ?_; rintro e w1 ⟨rfl, p1⟩)
  all_goals go_wp2
  all_goals go_end0
  all_goals exact ⟨rfl, p1⟩
end Go.Proofs.Ytlcbemcamdafjaa
