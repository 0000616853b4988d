import Derived.Test.YthhibagcpjeihaaGLook8ToKeep2
import Derived.Test.YthhibagcpjeihaaGPg1ToSwap3
import Derived.Test.YthhibagcpjeihaaGModelToMaps
import Derived.Test.YthhibagcpjeihaaGPass2ToLook3
import Derived.Deep.DeepCutAuto
/- A change is done to a keeper. -/
namespace Go.Proofs.Ythhibagcpjeihaa
open Go.RowKit
open Go.ChangeMaps (setBlock)
open M
set_option linter.unusedVariables false
set_option linter.unusedSimpArgs false
set_option maxRecDepth 100000
set_option maxHeartbeats 2000000

theorem ta127 (v : Value) (w : World) : (Instr.typeAssert (.iface 144 v) 120 144 true).run Try.prog w = .ok (.tuple #[v, .bool true]) w := by kernel_rfl
theorem ta154 (v : Value) (w : World) : (Instr.typeAssert (.iface 163 v) 120 144 true).run Try.prog w = .ok (.tuple #[.agg #[.int .i64 0], .bool false]) w := by kernel_rfl
theorem ta173 (v : Value) (w : World) : (Instr.typeAssert (.iface 180 v) 120 144 true).run Try.prog w = .ok (.tuple #[.agg #[.int .i64 0], .bool false]) w := by kernel_rfl
theorem ta175 (v : Value) (w : World) : (Instr.typeAssert (.iface 184 v) 120 144 true).run Try.prog w = .ok (.tuple #[.agg #[.int .i64 0], .bool false]) w := by kernel_rfl
theorem ta177 (v : Value) (w : World) : (Instr.typeAssert (.iface 186 v) 120 144 true).run Try.prog w = .ok (.tuple #[.agg #[.int .i64 0], .bool false]) w := by kernel_rfl
theorem ta125 (v : Value) (w : World) : (Instr.typeAssert (.iface 182 v) 120 144 true).run Try.prog w = .ok (.tuple #[.agg #[.int .i64 0], .bool false]) w := by kernel_rfl
theorem nilAhead125 (v : Value) (w : World) : (nilAhead 331 182 v "Do").run Try.prog w = .ok (some false) w := by kernel_rfl
theorem method125 (v : Value) (w : World) : (method 331 182 v "Do").run Try.prog w = .ok (134, v) w := by kernel_rfl
attribute [local go_sem] ta125 nilAhead125 method125
theorem nilAhead154 (v : Value) (w : World) : (nilAhead 331 163 v "Do").run Try.prog w = .ok (some false) w := by kernel_rfl
theorem nilAhead173 (v : Value) (w : World) : (nilAhead 331 180 v "Do").run Try.prog w = .ok (some false) w := by kernel_rfl
theorem nilAhead175 (v : Value) (w : World) : (nilAhead 331 184 v "Do").run Try.prog w = .ok (some false) w := by kernel_rfl
theorem nilAhead177 (v : Value) (w : World) : (nilAhead 331 186 v "Do").run Try.prog w = .ok (some false) w := by kernel_rfl
attribute [local go_sem] nilAhead154 nilAhead173 nilAhead175 nilAhead177
theorem method154 (v : Value) (w : World) : (method 331 163 v "Do").run Try.prog w = .ok (130, v) w := by kernel_rfl
theorem method173 (v : Value) (w : World) : (method 331 180 v "Do").run Try.prog w = .ok (133, v) w := by kernel_rfl
theorem method175 (v : Value) (w : World) : (method 331 184 v "Do").run Try.prog w = .ok (137, v) w := by kernel_rfl
theorem method177 (v : Value) (w : World) : (method 331 186 v "Do").run Try.prog w = .ok (138, v) w := by kernel_rfl
attribute [local go_sem] method154 method173 method175 method177
attribute [local go_sem] ta127 ta154 ta173 ta175 ta177

theorem apply_pass (kb : Nat) (n nw : Int) (w : World) (P : World → Prop)
    (hC : ∀ W, Mod No w W → Calls Try.prog 65 #[.pointer (some ⟨kb, 0, none⟩), .agg #[.int .i64 nw]] W fun e w' => e = .returned (.tuple #[]) ∧ P w') :
    Calls Try.prog 50 #[.pointer (some ⟨kb, 0, none⟩), .agg #[.int .i64 n, passV nw]] w fun e w' => e = .returned (.tuple #[]) ∧ P w' := by
  have HC := hide hC
  have M0 := hide (((Mod.refl No w).alloc (.cells #[.int .i64 n, passV nw] 124)).alloc (.cells #[.int .i64 nw] 144))
  unfold passV at *
  clear hC
  go_enter Try.func50, Try.ntmps50
  go_wp2_with fail
  refine ((unhide HC) _ (unhide M0)).mono ?_
  rintro e w1 ⟨rfl, p1⟩
  go_wp2
  refine bodyPost_ret (results_none rfl _ _ _) rfl ?_
  exact ⟨rfl, p1⟩

theorem apply_fill (kb b n : Nat) (hn : 1 ≤ n ∧ n ≤ 20) (x0 x1 x2 x3 x4 x5 : Value) (cs : Array Value) (w : World) (P : World → Prop) (h : Has w kb cs 117) (hc : cs[1 + n]? = some (.pointer (some ⟨b, 0, none⟩)))
    (hC : ∀ W, Mod No w W → Calls Try.prog 133 #[.agg #[x0, x1, x2, x3, x4, x5], .pointer (some ⟨b, 0, none⟩)] W fun e w' => e = .returned (.tuple #[]) ∧ P w') :
    Calls Try.prog 50 #[.pointer (some ⟨kb, 0, none⟩), .agg #[.int .i64 n, .iface 180 (.agg #[x0, x1, x2, x3, x4, x5])]] w fun e w' => e = .returned (.tuple #[]) ∧ P w' := by
  have HC := hide hC
  have M0 := hide (((Mod.refl No w).alloc (.cells #[.int .i64 n, .iface 180 (.agg #[x0, x1, x2, x3, x4, x5])] 124)).alloc (.cells #[.int .i64 0] 144))
  have c := h.cell (1 + n)
  rw [hc] at c
  have hlt := h.lt
  have h3 : (n : Int) < 21 := by omega
  have h4 : (0 : Int) ≤ n := by omega
  clear h hc hC
  go_enter Try.func50, Try.ntmps50
  go_wp2_with fail
  go_quiet (fail)
  go_wp2_with fail
  go_region_with (go_at_call 133; refine ((unhide HC) _ ((unhide M0).drewN _).drew).mono ?_; rintro e w1 ⟨rfl, p1⟩)
  all_goals go_wp2
  all_goals go_end0
  all_goals exact ⟨rfl, p1⟩

theorem apply_empty (kb b n : Nat) (hn : 1 ≤ n ∧ n ≤ 20) (x0 x1 : Value) (cs : Array Value) (w : World) (P : World → Prop) (h : Has w kb cs 117) (hc : cs[1 + n]? = some (.pointer (some ⟨b, 0, none⟩)))
    (hC : ∀ W, Mod No w W → Calls Try.prog 137 #[.agg #[x0, x1], .pointer (some ⟨b, 0, none⟩)] W fun e w' => e = .returned (.tuple #[]) ∧ P w') :
    Calls Try.prog 50 #[.pointer (some ⟨kb, 0, none⟩), .agg #[.int .i64 n, .iface 184 (.agg #[x0, x1])]] w fun e w' => e = .returned (.tuple #[]) ∧ P w' := by
  have HC := hide hC
  have M0 := hide (((Mod.refl No w).alloc (.cells #[.int .i64 n, .iface 184 (.agg #[x0, x1])] 124)).alloc (.cells #[.int .i64 0] 144))
  have c := h.cell (1 + n)
  rw [hc] at c
  have hlt := h.lt
  have h3 : (n : Int) < 21 := by omega
  have h4 : (0 : Int) ≤ n := by omega
  clear h hc hC
  go_enter Try.func50, Try.ntmps50
  go_wp2_with fail
  go_quiet (fail)
  go_wp2_with fail
  go_region_with (go_at_call 137; refine ((unhide HC) _ ((unhide M0).drewN _).drew).mono ?_; rintro e w1 ⟨rfl, p1⟩)
  all_goals go_wp2
  all_goals go_end0
  all_goals exact ⟨rfl, p1⟩

theorem apply_shift (kb b n : Nat) (hn : 1 ≤ n ∧ n ≤ 20) (x0 x1 x2 x3 : Value) (cs : Array Value) (w : World) (P : World → Prop) (h : Has w kb cs 117) (hc : cs[1 + n]? = some (.pointer (some ⟨b, 0, none⟩)))
    (hC : ∀ W, Mod No w W → Calls Try.prog 138 #[.agg #[x0, x1, x2, x3], .pointer (some ⟨b, 0, none⟩)] W fun e w' => e = .returned (.tuple #[]) ∧ P w') :
    Calls Try.prog 50 #[.pointer (some ⟨kb, 0, none⟩), .agg #[.int .i64 n, .iface 186 (.agg #[x0, x1, x2, x3])]] w fun e w' => e = .returned (.tuple #[]) ∧ P w' := by
  have HC := hide hC
  have M0 := hide (((Mod.refl No w).alloc (.cells #[.int .i64 n, .iface 186 (.agg #[x0, x1, x2, x3])] 124)).alloc (.cells #[.int .i64 0] 144))
  have c := h.cell (1 + n)
  rw [hc] at c
  have hlt := h.lt
  have h3 : (n : Int) < 21 := by omega
  have h4 : (0 : Int) ≤ n := by omega
  clear h hc hC
  go_enter Try.func50, Try.ntmps50
  go_wp2_with fail
  go_quiet (fail)
  go_wp2_with fail
  go_region_with (go_at_call 138; refine ((unhide HC) _ ((unhide M0).drewN _).drew).mono ?_; rintro e w1 ⟨rfl, p1⟩)
  all_goals go_wp2
  all_goals go_end0
  all_goals exact ⟨rfl, p1⟩

theorem apply_refit (kb b n : Nat) (hn : 1 ≤ n ∧ n ≤ 20) (x0 x1 x2 : Value) (cs : Array Value) (w : World) (P : World → Prop) (h : Has w kb cs 117) (hc : cs[1 + n]? = some (.pointer (some ⟨b, 0, none⟩)))
    (hC : ∀ W, Mod No w W → Calls Try.prog 134 #[.agg #[x0, x1, x2], .pointer (some ⟨b, 0, none⟩)] W fun e w' => e = .returned (.tuple #[]) ∧ P w') :
    Calls Try.prog 50 #[.pointer (some ⟨kb, 0, none⟩), .agg #[.int .i64 n, .iface 182 (.agg #[x0, x1, x2])]] w fun e w' => e = .returned (.tuple #[]) ∧ P w' := by
  have HC := hide hC
  have M0 := hide (((Mod.refl No w).alloc (.cells #[.int .i64 n, .iface 182 (.agg #[x0, x1, x2])] 124)).alloc (.cells #[.int .i64 0] 144))
  have c := h.cell (1 + n)
  rw [hc] at c
  have hlt := h.lt
  have h3 : (n : Int) < 21 := by omega
  have h4 : (0 : Int) ≤ n := by omega
  clear h hc hC
  go_enter Try.func50, Try.ntmps50
  go_wp2_with fail
  go_quiet (fail)
  go_wp2_with fail
  go_region_with (go_at_call 134; refine ((unhide HC) _ ((unhide M0).drewN _).drew).mono ?_; rintro e w1 ⟨rfl, p1⟩)
  all_goals go_wp2
  all_goals go_end0
  all_goals exact ⟨rfl, p1⟩

def flight0 : Array Value := #[.int .i64 0, .int .i64 0, .int .i64 0, .int .i64 0, .int .i64 0, .int .i64 0, .int .i64 0, .map none, .int .i64 0, .int .i64 0, .int .i64 0, .int .i64 0, .int .i64 0, .int .i64 0, .int .i64 0, .int .i64 0, .int .i64 0, .int .i64 0, .int .i64 0, .int .i64 0, .int .i64 0, .int .i64 0, .int .i64 0, .int .i64 0, .int .i64 0]

/-- What stands once a new flight has been laid. -/
structure NewF4 (w w5 : World) (kb n : Nat) (now : Int) (pt : Nat → Option Nat) : Prop where
  keep : Has w5 kb (keepCells now (updP pt n (w.heap.size + 2))) 117
  fli : Has w5 (w.heap.size + 2) flight0 138
  mod : Mod (fun k => k = kb) w w5

theorem newF4 {w w0 : World} {kb n : Nat} {now : Int} {pt : Nat → Option Nat} (hn : 1 ≤ n ∧ n ≤ 20) (h : Has w0 kb (keepCells now pt) 117) (hm : Mod No w w0) (hs : w0.heap.size = w.heap.size + 2) :
    NewF4 w ((w0.setCell ⟨kb, 1 + n, none⟩ (.pointer (some ⟨w.heap.size + 2, 0, none⟩))).alloc (.cells flight0 138)) kb n now pt := by
  refine ⟨?_, ?_, (hm.mono (fun _ _ x => x.elim)).trans (((Mod.refl _ w0).at (1 + n) _).alloc _)⟩
  · have := (h.set (1 + n) (pv (some (w.heap.size + 2)))).alloc (.cells flight0 138)
    rw [keep_set now pt n _ (by omega)] at this
    exact this
  · have := Has.new (w0.setCell ⟨kb, 1 + n, none⟩ (.pointer (some ⟨w.heap.size + 2, 0, none⟩))) flight0 138
    rw [World.size_setCell, hs] at this
    exact this

theorem apply_new (kb n : Nat) (hn : 1 ≤ n ∧ n ≤ 20) (now : Int) (pt : Nat → Option Nat) (p : Pla) (w : World) (P : World → Prop) (h : Has w kb (keepCells now pt) 117) (hc : pt n = none)
    (hC : ∀ W, Mod (fun k => k = kb) w W → Has W kb (keepCells now (updP pt n (w.heap.size + 2))) 117 → Has W (w.heap.size + 2) (fcs 0 0 0 0 0 0 0 (.map none) 0 0 0 0 0 0 0 0 0 0 0 0 0 0 0 0 0) 138 →
      Calls Try.prog 130 #[plaV p, .pointer (some ⟨w.heap.size + 2, 0, none⟩)] W fun e w' => e = .returned (.tuple #[]) ∧ P w') :
    Calls Try.prog 50 #[.pointer (some ⟨kb, 0, none⟩), .agg #[.int .i64 n, startV p]] w fun e w' => e = .returned (.tuple #[]) ∧ P w' := by
  have HC := hide hC
  have m0 : Mod No w ((w.alloc (.cells #[.int .i64 n, startV p] 124)).alloc (.cells #[.int .i64 0] 144)) := ((Mod.refl _ w).alloc _).alloc _
  have h0 := m0.has h (fun x => x)
  have b0 : Has ((w.alloc (.cells #[.int .i64 n, startV p] 124)).alloc (.cells #[.int .i64 0] 144)) w.heap.size #[.int .i64 n, startV p] 124 := (Has.new w _ _).alloc _
  have H0 := hide h0
  have M0 := hide m0
  have B0 := hide b0
  have S0 := hide (show ((w.alloc (.cells #[.int .i64 n, startV p] 124)).alloc (.cells #[.int .i64 0] 144)).heap.size = w.heap.size + 2 by simp)
  have h3 : (n : Int) < 21 := by omega
  have h4 : (0 : Int) ≤ n := by omega
  have HH := hide h
  have HCC := hide hc
  unfold startV plaV at *
  clear h hc hC m0 h0 b0
  go_enter Try.func50, Try.ntmps50
  go_upto_region 4 with fail
  generalize (w.alloc (.cells #[.int .i64 n, .iface 163 (.agg #[.int .i64 p.rows, .int .i64 p.cols, .int .i64 p.front, .int .i64 p.l0, .int .i64 p.l1, .int .i64 p.l2, .int .i64 p.l3])] 124)).alloc (.cells #[.int .i64 0] 144) = w0 at *
  have c := (unhide H0).cell (1 + n)
  rw [keep_at now pt n (by omega), unhide HCC, show pv none = .pointer none from rfl] at c
  have e0 : w0.cell? ⟨w.heap.size, 0, none⟩ = some (.int .i64 n) := (unhide B0).cell 0
  have e1 : w0.cell? ⟨w.heap.size, 1, none⟩ = some (.iface 163 (.agg #[.int .i64 p.rows, .int .i64 p.cols, .int .i64 p.front, .int .i64 p.l0, .int .i64 p.l1, .int .i64 p.l2, .int .i64 p.l3])) := (unhide B0).cell 1
  have lk := (unhide H0).lt
  have lb := (unhide B0).lt
  have fz := (unhide H0).frozen (1 + n)
  have S1 := unhide S0
  rw [S1] at lk lb
  have NE := hide (show w.heap.size ≠ kb from fun e => by have := (unhide HH).lt; omega)
  go_quiet (fail)
  go_wp2_with fail
  go_region
  have nx := newF4 (w0 := w0.drewN (nq + 1)) hn ((unhide H0).drewN _) ((unhide M0).drewN _) S1
  have bx : Has (((w0.drewN (nq + 1)).setCell ⟨kb, 1 + n, none⟩ (.pointer (some ⟨w.heap.size + 2, 0, none⟩))).alloc (.cells flight0 138)) w.heap.size _ _ := (((unhide B0).drewN (nq + 1)).set_ne (a := ⟨kb, 1 + n, none⟩) (unhide NE) _).alloc _
  have NX := hide nx
  have BX := hide bx
  clear nx bx c e0 e1 lk lb fz S1 H0 M0 B0 S0
  unfold flight0 at NX BX
  generalize ((w0.drewN (nq + 1)).setCell ⟨kb, 1 + n, none⟩ (.pointer (some ⟨w.heap.size + 2, 0, none⟩))).alloc (.cells #[.int .i64 0, .int .i64 0, .int .i64 0, .int .i64 0, .int .i64 0, .int .i64 0, .int .i64 0, .map none, .int .i64 0, .int .i64 0, .int .i64 0, .int .i64 0, .int .i64 0, .int .i64 0, .int .i64 0, .int .i64 0, .int .i64 0, .int .i64 0, .int .i64 0, .int .i64 0, .int .i64 0, .int .i64 0, .int .i64 0, .int .i64 0, .int .i64 0] 138) = w5 at *
  have c5 := (unhide NX).keep.cell (1 + n)
  rw [keep_at now _ n (by omega), show pv (updP pt n (w.heap.size + 2) n) = .pointer (some ⟨w.heap.size + 2, 0, none⟩) by simp [updP, pv]] at c5
  have e0 : w5.cell? ⟨w.heap.size, 0, none⟩ = some (.int .i64 n) := (unhide BX).cell 0
  have e1 : w5.cell? ⟨w.heap.size, 1, none⟩ = some (.iface 163 (.agg #[.int .i64 p.rows, .int .i64 p.cols, .int .i64 p.front, .int .i64 p.l0, .int .i64 p.l1, .int .i64 p.l2, .int .i64 p.l3])) := (unhide BX).cell 1
  have l5 := (unhide NX).keep.lt
  have lb5 := (unhide BX).lt
  go_wp2_with fail
  go_region_with (go_at_call 130; refine ((unhide HC) _ (unhide NX).mod.drew (unhide NX).keep.drew (unhide NX).fli.drew).mono ?_; rintro e w1 ⟨rfl, p1⟩)
  all_goals go_wp2
  all_goals go_end0
  all_goals exact ⟨rfl, p1⟩
end Go.Proofs.Ythhibagcpjeihaa
/- A keeper does a command. -/
namespace Go.Proofs.Ythhibagcpjeihaa
open Go.RowKit
open Go.ChangeMaps (setBlock)
open M
set_option linter.unusedVariables false
set_option linter.unusedSimpArgs false
set_option maxRecDepth 100000
set_option maxHeartbeats 2000000

theorem do_refuse (kb : Nat) (c : Cmd) (x : Int) (hx : x ≠ 0) (w : World)
    (hL : ∀ W, Mod No w W → Calls Try.prog 48 #[.pointer (some ⟨kb, 0, none⟩), .agg (cmdCells c)] W fun e w' => e = .returned (refuse x) ∧ Mod No W w') :
    Calls Try.prog 26 #[.pointer (some ⟨kb, 0, none⟩), .agg (cmdCells c)] w fun e w' => e = .returned (.int .i64 x) ∧ Mod No w w' := by
  have HL := hide hL
  have M0 := hide ((Mod.refl No w).alloc (.cells (cmdCells c) 37))
  have B0 := hide (Has.new w (cmdCells c) 37)
  have hd : (x != 0) = true := by simp [hx]
  unfold cmdCells refuse at *
  clear hL hx
  go_enter Try.func26, Try.ntmps26
  go_wp2_with fail
  refine ((unhide HL) _ (unhide M0)).mono ?_
  rintro e w1 ⟨rfl, m1⟩
  go_wp2
  go_ret
  exact ⟨rfl, (unhide M0).trans m1⟩

theorem do_stop (kb : Nat) (c : Cmd) (t : TypeId) (u : Value) (x : Int) (hx : x ≠ 0) (w : World) (R : World → Prop)
    (hL : ∀ W, Mod No w W → Calls Try.prog 48 #[.pointer (some ⟨kb, 0, none⟩), .agg (cmdCells c)] W fun e w' => e = .returned (grant (.iface t u)) ∧ Mod No W w')
    (hS : ∀ W, Mod No w W → Calls Try.prog 49 #[.pointer (some ⟨kb, 0, none⟩), .agg #[.int .i64 c.flight, .iface t u]] W fun e w' => e = .returned (.int .i64 x) ∧ R w') :
    Calls Try.prog 26 #[.pointer (some ⟨kb, 0, none⟩), .agg (cmdCells c)] w fun e w' => e = .returned (.int .i64 x) ∧ R w' := by
  have HL := hide hL
  have HS := hide hS
  have M0 := hide ((Mod.refl No w).alloc (.cells (cmdCells c) 37))
  have B0 := hide (Has.new w (cmdCells c) 37)
  have hd : (x != 0) = true := by simp [hx]
  unfold cmdCells grant at *
  clear hL hS hx
  go_enter Try.func26, Try.ntmps26
  go_wp2_with fail
  refine ((unhide HL) _ (unhide M0)).mono ?_
  rintro e w1 ⟨rfl, m1⟩
  have cb := (m1.has (unhide B0) (fun x => x)).cell
  have lb := (m1.has (unhide B0) (fun x => x)).lt
  have M1 := hide ((unhide M0).trans m1)
  clear m1
  have M2 := hide ((unhide M1).alloc (.cells #[.int .i64 c.flight, .iface t u] 124))
  go_wp2_with fail
  refine ((unhide HS) _ (unhide M2)).mono ?_
  rintro e w2 ⟨rfl, p2⟩
  clear cb
  go_wp2
  go_ret
  exact ⟨rfl, p2⟩

theorem do_grant (kb : Nat) (c : Cmd) (t : TypeId) (u : Value) (w : World) (R P : World → Prop)
    (hL : ∀ W, Mod No w W → Calls Try.prog 48 #[.pointer (some ⟨kb, 0, none⟩), .agg (cmdCells c)] W fun e w' => e = .returned (grant (.iface t u)) ∧ Mod No W w')
    (hS : ∀ W b, Mod No w W → w.heap.size ≤ b → Has W b #[.int .i64 c.flight, .iface t u] 124 → Calls Try.prog 49 #[.pointer (some ⟨kb, 0, none⟩), .agg #[.int .i64 c.flight, .iface t u]] W fun e w' => e = .returned (.int .i64 0) ∧ R w' ∧ Has w' b #[.int .i64 c.flight, .iface t u] 124)
    (hA : ∀ W, R W → Calls Try.prog 50 #[.pointer (some ⟨kb, 0, none⟩), .agg #[.int .i64 c.flight, .iface t u]] W fun e w' => e = .returned (.tuple #[]) ∧ P w') :
    Calls Try.prog 26 #[.pointer (some ⟨kb, 0, none⟩), .agg (cmdCells c)] w fun e w' => e = .returned (.int .i64 0) ∧ P w' := by
  have HL := hide hL
  have HS := hide hS
  have HA := hide hA
  have M0 := hide ((Mod.refl No w).alloc (.cells (cmdCells c) 37))
  have B0 := hide (Has.new w (cmdCells c) 37)
  unfold cmdCells grant at *
  clear hL hS hA
  go_enter Try.func26, Try.ntmps26
  go_wp2_with fail
  refine ((unhide HL) _ (unhide M0)).mono ?_
  rintro e w1 ⟨rfl, m1⟩
  have cb := (m1.has (unhide B0) (fun x => x)).cell
  have lb := (m1.has (unhide B0) (fun x => x)).lt
  have M1 := hide ((unhide M0).trans m1)
  clear m1
  have M2 := hide ((unhide M1).alloc (.cells #[.int .i64 c.flight, .iface t u] 124))
  have B2 := hide (Has.new w1 #[.int .i64 c.flight, .iface t u] 124)
  have HSZ := hide (unhide M1).size
  go_wp2_with fail
  refine ((unhide HS) _ _ (unhide M2) (unhide HSZ) (unhide B2)).mono ?_
  rintro e w2 ⟨rfl, p2, hb2⟩
  have e0 : w2.cell? ⟨w1.heap.size, 0, none⟩ = some (.int .i64 c.flight) := hb2.cell 0
  have e1 : w2.cell? ⟨w1.heap.size, 1, none⟩ = some (.iface t u) := hb2.cell 1
  have le := hb2.lt
  have HA2 := hide ((unhide HA) _ p2)
  clear cb hb2 p2 HS HL
  go_wp2_with fail
  refine (unhide HA2).mono ?_
  rintro e w3 ⟨rfl, p3⟩
  have P3 := hide p3
  clear p3
  go_wp2
  go_ret
  exact ⟨rfl, unhide P3⟩

theorem seatErr_zero {p : Pla} {l : List Sea} {c : Cmd} {now : Int} (h : seatErr p l c now = 0) (h9 : c.kind ≠ 9) :
    c.kind ≠ 9 ∧ p.has c.ar c.ac = true ∧ (c.kind = 5 → p.has c.tr c.tc = true ∧ ownerN (seatAt p l c.ar c.ac).st (seatAt p l c.ar c.ac).pa c.party = 0 ∧ (seatAt p l c.tr c.tc).st = 0) ∧
      (c.kind = 2 → buyer c = 0 ∧ now < c.time ∧ c.time ≤ now + 100) ∧ (c.kind = 3 → buyer c = 0) := by
  unfold seatErr at h
  rw [if_neg h9] at h
  by_cases hor : p.has c.ar c.ac = false ∨ (c.kind = 5 ∧ p.has c.tr c.tc = false)
  · rw [if_pos hor] at h; exact absurd h (by omega)
  rw [if_neg hor] at h
  have hat : p.has c.ar c.ac = true := by
    cases hb : p.has c.ar c.ac with
    | true => rfl
    | false => exact absurd (.inl hb) hor
  refine ⟨h9, hat, fun h5 => ?_, fun h2 => ?_, fun h3 => ?_⟩
  · have hto : p.has c.tr c.tc = true := by
      cases hb : p.has c.tr c.tc with
      | true => rfl
      | false => exact absurd (.inr ⟨h5, hb⟩) hor
    rw [if_neg (by omega), if_neg (by omega), if_neg (by omega), if_pos h5] at h
    by_cases ho : ownerN (seatAt p l c.ar c.ac).st (seatAt p l c.ar c.ac).pa c.party = 0
    · rw [if_neg (by simpa using ho)] at h
      by_cases hs : (seatAt p l c.tr c.tc).st = 0
      · exact ⟨hto, ho, hs⟩
      · rw [if_pos hs] at h; exact absurd h (by omega)
    · rw [if_pos ho] at h; exact absurd h ho
  · rw [if_pos h2] at h
    by_cases hb : buyer c = 0
    · rw [if_neg (by simpa using hb)] at h
      by_cases ht : c.time ≤ now ∨ c.time > now + 100
      · rw [if_pos ht] at h; exact absurd h (by omega)
      · exact ⟨hb, by omega, by omega⟩
    · rw [if_pos hb] at h; exact absurd h hb
  · rw [if_neg (by omega), if_pos h3] at h
    by_cases hb : buyer c = 0
    · exact hb
    · rw [if_pos hb] at h; exact absurd h hb

theorem owner_zero {st pa party : Int} (h : ownerN st pa party = 0) : st = 1 ∨ st = 2 := by
  unfold ownerN at h
  by_cases hs : st = 1 ∨ st = 2
  · exact hs
  · rw [if_pos hs] at h; exact absurd h (by omega)

theorem seatNew_wf {p : Pla} {l : List Sea} (hwf : Wf p l) {c : Cmd} {now : Int} (hn : 0 ≤ now ∧ now ≤ 4611686018427387000) (h : seatErr p l c now = 0) (h9 : c.kind ≠ 9) : Wf p (seatNew p l c) := by
  obtain ⟨h9, hat, h5, h2, h3⟩ := seatErr_zero h h9
  obtain ⟨hi, he, her, hec⟩ := seatAt_eq hwf hat
  have hswf : (seatAt p l c.ar c.ac).wf := by rw [he]; exact hwf.seat _ (List.getElem_mem hi)
  unfold seatNew
  rw [if_neg h9]
  by_cases k2 : c.kind = 2
  · rw [if_pos k2]
    have hb := buyer_ok (h2 k2).1
    have ht := h2 k2
    exact hwf.set hi ⟨by simp, by simp, by simp; omega, by simp; omega, by simp, by simp; omega, by simp; omega, by simp⟩ her.symm hec.symm
  rw [if_neg k2]
  by_cases k3 : c.kind = 3
  · rw [if_pos k3]
    have hb := buyer_ok (h3 k3)
    exact hwf.set hi ⟨by simp, by simp, by simp; omega, by simp; omega, by simp, by simp; omega, by simp, by simp⟩ her.symm hec.symm
  rw [if_neg k3]
  by_cases k5 : c.kind = 5
  · rw [if_pos k5]
    obtain ⟨hto, ho, hs⟩ := h5 k5
    obtain ⟨hj, hje, hjr, hjc⟩ := seatAt_eq hwf hto
    have h1 : Wf p (l.set (p.idx c.ar c.ac) (seatAt p l c.ar c.ac).freed) := hwf.set hi (freed_wf _) (by rw [he]; rfl) (by rw [he]; rfl)
    have hj' : p.idx c.tr c.tc < (l.set (p.idx c.ar c.ac) (seatAt p l c.ar c.ac).freed).length := by simpa using hj
    obtain ⟨hj2, hje2, hjr2, hjc2⟩ := seatAt_eq h1 hto
    exact h1.set hj2 ⟨hswf.s0, hswf.s1, hswf.c0, hswf.c1, hswf.bare, hswf.pa, hswf.un, hswf.bk⟩ hjr2.symm hjc2.symm
  rw [if_neg k5]
  by_cases k6 : c.kind = 6
  · rw [if_pos k6]
    exact hwf.set hi ⟨by simp, by simp, by simp, by simp, by simp, by simp, by simp, by simp⟩ her.symm hec.symm
  rw [if_neg k6]
  exact hwf.set hi (freed_wf _) (by rw [he]; rfl) (by rw [he]; rfl)

theorem apply_seat {w : World} {ow : Nat → Nat} {kb : Nat} {now : Int} {pt : Nat → Option Nat} {fl : Nat → Option (Pla × List Sea)} (h : KeepX w ow kb now pt fl) (n : Nat) (hn : 1 ≤ n ∧ n ≤ 20) {p : Pla} {l : List Sea} (hfl : fl n = some (p, l))
    (hnow : 0 ≤ now ∧ now ≤ 4611686018427387000) (c : Cmd) (hk : 2 ≤ c.kind ∧ c.kind ≤ 9 ∧ c.kind ≠ 8) (he : seatErr p l c now = 0) (h9 : c.kind ≠ 9) :
    Calls Try.prog 50 #[.pointer (some ⟨kb, 0, none⟩), .agg #[.int .i64 n, changeV c]] w fun e w' =>
      e = .returned (.tuple #[]) ∧ KeepX w' ow kb now pt (fun j => if j = n then some (p.next, seatNew p l c) else fl j) ∧ Mod (fun k => ow k ≠ 0 ∧ ow k < 30) w w' := by
  obtain ⟨b, hp, hwf, hf⟩ := h.here n p l (by omega) hfl
  have hc : (keepCells now pt)[1 + n]? = some (.pointer (some ⟨b, 0, none⟩)) := by rw [keep_at now pt n (by omega), hp]; rfl
  have hw2 := (seatNew_wf hwf hnow he h9).next
  have hfin : ∀ W w', Mod No w W → FlH w' (fun k => ow k = n + 2) b p.next (seatNew p l c) → Mod (fun k => ow k = n + 2) W w' → KeepX w' ow kb now pt (fun j => if j = n then some (p.next, seatNew p l c) else fl j) ∧ Mod (fun k => ow k ≠ 0 ∧ ow k < 30) w w' := fun W w' hW h1 h2 =>
    ⟨(h.mod hW (fun _ _ x => x)).flight h2 hp hw2 h1, (hW.mono (fun _ _ x => x.elim)).trans (h2.mono (fun _ _ (e : ow _ = n + 2) => by show ow _ ≠ 0 ∧ ow _ < 30; omega))⟩
  obtain ⟨h9, hat, h5, h2, h3⟩ := seatErr_zero he h9
  obtain ⟨hi, hse, her, hec⟩ := seatAt_eq hwf hat
  unfold changeV seatNew at *
  rw [if_neg h9] at hfin hw2 ⊢
  rw [if_neg h9]
  by_cases k2 : c.kind = 2
  · rw [if_pos k2] at hfin hw2 ⊢
    rw [if_pos k2]
    have hb := buyer_ok (h2 k2).1
    have ht := h2 k2
    have hs : (⟨c.ar, c.ac, 1, c.party, c.cls, c.time⟩ : Sea).wf := ⟨by simp, by simp, by simp; omega, by simp; omega, by simp, by simp; omega, by simp; omega, by simp⟩
    exact apply_fill kb b n hn _ _ _ _ _ _ _ w _ h.has hc (fun W hW => (fill_any (hf.mod0 hW) hwf _ hi ⟨c.ar, c.ac, 1, c.party, c.cls, c.time⟩ hs her.symm hec.symm).mono (fun e w' ⟨r, q1, q2⟩ => ⟨r, hfin W w' hW q1 q2⟩))
  rw [if_neg k2] at hfin hw2 ⊢
  rw [if_neg k2]
  by_cases k3 : c.kind = 3
  · rw [if_pos k3] at hfin hw2 ⊢
    rw [if_pos k3]
    have hb := buyer_ok (h3 k3)
    have hs : (⟨c.ar, c.ac, 2, c.party, c.cls, 0⟩ : Sea).wf := ⟨by simp, by simp, by simp; omega, by simp; omega, by simp, by simp; omega, by simp, by simp⟩
    exact apply_fill kb b n hn _ _ _ _ _ _ _ w _ h.has hc (fun W hW => (fill_any (hf.mod0 hW) hwf _ hi ⟨c.ar, c.ac, 2, c.party, c.cls, 0⟩ hs her.symm hec.symm).mono (fun e w' ⟨r, q1, q2⟩ => ⟨r, hfin W w' hW q1 q2⟩))
  rw [if_neg k3] at hfin hw2 ⊢
  rw [if_neg k3]
  by_cases k5 : c.kind = 5
  · rw [if_pos k5] at hfin hw2 ⊢
    rw [if_pos k5]
    obtain ⟨hto, ho, hs⟩ := h5 k5
    obtain ⟨hj, hje, hjr, hjc⟩ := seatAt_eq hwf hto
    have hij : p.idx c.ar c.ac ≠ p.idx c.tr c.tc := by
      intro e
      have h1 := owner_zero ho
      rw [hse] at h1
      rw [hje] at hs
      simp only [e] at h1
      omega
    rw [hse] at hfin ⊢
    refine apply_shift kb b n hn _ _ _ _ _ w _ h.has hc (fun W hW => ?_)
    have := shift_any (hf.mod0 hW) hwf _ hi _ hj hij
    rw [her, hec, hjr, hjc] at this
    exact this.mono (fun e w' ⟨r, q1, q2⟩ => ⟨r, hfin W w' hW q1 q2⟩)
  rw [if_neg k5] at hfin hw2 ⊢
  rw [if_neg k5]
  by_cases k6 : c.kind = 6
  · rw [if_pos k6] at hfin hw2 ⊢
    rw [if_pos k6]
    have hs : (⟨c.ar, c.ac, 3, 0, 0, 0⟩ : Sea).wf := ⟨by simp, by simp, by simp, by simp, by simp, by simp, by simp, by simp⟩
    exact apply_fill kb b n hn _ _ _ _ _ _ _ w _ h.has hc (fun W hW => (fill_any (hf.mod0 hW) hwf _ hi ⟨c.ar, c.ac, 3, 0, 0, 0⟩ hs her.symm hec.symm).mono (fun e w' ⟨r, q1, q2⟩ => ⟨r, hfin W w' hW q1 q2⟩))
  rw [if_neg k6] at hfin hw2 ⊢
  rw [if_neg k6]
  rw [hse] at hfin ⊢
  refine apply_empty kb b n hn _ _ _ w _ h.has hc (fun W hW => ?_)
  have := empty_any (hf.mod0 hW) hwf _ hi
  rw [her, hec] at this
  exact this.mono (fun e w' ⟨r, q1, q2⟩ => ⟨r, hfin W w' hW q1 q2⟩)
end Go.Proofs.Ythhibagcpjeihaa
/- Another plane: the walk of the homeless. -/
namespace Go.Proofs.Ythhibagcpjeihaa
open Go.RowKit Go.WideMaps
open Go.ChangeMaps (setBlock)
open M
set_option linter.unusedVariables false
set_option linter.unusedSimpArgs false
set_option maxRecDepth 100000
set_option maxHeartbeats 4000000
attribute [local go_sem] field171

/-- The seats that find a place, so far. -/
def accN (acc0 hs : List Sea) (n : Nat) : List Sea := (hs.take n).foldl reseatStep acc0

theorem reseat_walk (b m' g cp : Nat) (Q : Pla) (acc0 hs : List Sea) (a : Option Addr) (w : World) (h0 : ReI w w b m' Q acc0 hs 0 0) (hw : ∀ s ∈ hs, s.wf ∧ s.st ≠ 0) (hrow : 0 < hs.length → a = some ⟨g, 0, none⟩ ∧ RowE w g hs ∧ g ≠ b ∧ g ≠ m')
    (hl : hs.length ≤ 120) :
    Calls Try.prog 135 #[.pointer (some ⟨b, 0, none⟩), .slice a hs.length cp] w fun e w' => e = .returned (.tuple #[]) ∧ ∃ k, ReI w w' b m' Q acc0 hs hs.length k := by
  have HW := hide hw
  have HROW := hide hrow
  have H0 := hide h0
  have hbl : b < w.heap.size ∧ m' < w.heap.size := by
    obtain ⟨es', clock', hf⟩ := h0.fl
    exact ⟨hf.has.lt, (Array.getElem?_eq_some_iff.1 hf.map).1⟩
  obtain ⟨hlt, hlm⟩ := hbl
  -- what a look at the next seat tells
  have HLEN := hide fun (wr : World) (n k : Nat) (hR : ReI w wr b m' Q acc0 hs n k) => (show (accN acc0 hs n).length ≤ 120 from Fli.wf.len_le hR.re.wf)
  have HLOOK := hide fun (wr : World) (n k : Nat) (hR : ReI w wr b m' Q acc0 hs n k) (hk : k < (accN acc0 hs n).length) =>
    (show ∃ r c st pa cl un : Int, (∀ W, Mod No wr W → Calls Try.prog 68 #[.pointer (some ⟨b, 0, none⟩), .int .i64 (k : Int)] W fun e w' => e = .returned (.agg #[.int .i64 r, .int .i64 c]) ∧ Mod No W w') ∧
      (∀ W, Mod No wr W → (Instr.lookup 136 (.map (some m')) (.agg #[.int .i64 r, .int .i64 c]) false).run Try.prog W = .ok (.agg #[.int .i64 st, .int .i64 pa, .int .i64 cl, .int .i64 un]) W) ∧
      (∀ W, Mod No wr W → W.cell? ⟨b, 7, none⟩ = some (.map (some m'))) ∧
      (st ≠ 0 → ReI w wr b m' Q acc0 hs n (k + 1)) ∧
      (st = 0 → ∀ (hn : n < hs.length) W, Mod No wr W → Calls Try.prog 102 #[.pointer (some ⟨b, 0, none⟩), .agg #[.int .i64 r, .int .i64 c], .agg #[.int .i64 hs[n].st, .int .i64 hs[n].pa, .int .i64 hs[n].cl, .int .i64 hs[n].un]] W fun e w' =>
        e = .returned (.tuple #[]) ∧ ReI w w' b m' Q acc0 hs (n + 1) k ∧ Mod (fun k => k = b ∨ k = m') W w') from by
    obtain ⟨es', clock', hf⟩ := hR.fl
    have hwf := hR.re.wf
    have hB := hwf.bounds
    simp only at hB
    obtain ⟨C, hC⟩ : ∃ C : Nat, Q.cols = (C : Int) := ⟨Q.cols.toNat, by omega⟩
    have hl120 := Fli.wf.len_le hwf
    simp only at hl120
    have hk' : k < ((hs.take n).foldl reseatStep acc0).length := hk
    refine ⟨((hs.take n).foldl reseatStep acc0)[k].row, ((hs.take n).foldl reseatStep acc0)[k].col, ((hs.take n).foldl reseatStep acc0)[k].st, ((hs.take n).foldl reseatStep acc0)[k].pa, ((hs.take n).foldl reseatStep acc0)[k].cl, ((hs.take n).foldl reseatStep acc0)[k].un, fun W hW => ?_, fun W hW => seesX hf hwf k hk' W hW, fun W hW => ?_, fun h => hR.on hk' h, fun h hn W hW => (hR.still hW).put hw hn hk' h⟩
    · have := placeAt_walk b _ _ C k W (hW.has hf.has (fun x => x)) (by rw [← hC]; rfl) (by omega) (by omega)
      have hp := hwf.place k hk'
      simp only at hp
      rw [hp.1, hp.2, hC]
      exact this
    · rw [(hW.has hf.has (fun x => x)).cell]; rfl)
  have HLT := hide fun (wr : World) (n k : Nat) (hR : ReI w wr b m' Q acc0 hs n k) (hn : n < hs.length) (hk : k ≤ (accN acc0 hs n).length) => (show k < (accN acc0 hs n).length from hR.lt hn hk)
  have HNEXT := hide fun (n : Nat) (hn : n < hs.length) => (show (accN acc0 hs (n + 1)).length = (accN acc0 hs n).length from by
    unfold accN; rw [fold_take hn]; unfold reseatStep; rw [List.length_set])
  clear h0 hw hrow
  go_enter Try.func135, Try.ntmps135
  go_wp2_with fail
  go_loopw [4, 9] (fun s4 s9 wr => ∃ n k : Nat, s9 = .int .i64 (n : Int) ∧ n ≤ hs.length ∧ s4 = .int .i64 (k : Int) ∧ k ≤ (accN acc0 hs n).length ∧ Hid (ReI w wr b m' Q acc0 hs n k)) (fun _ s9 _ => hs.length - (intOf s9).toNat)
  case atStart => exact ⟨0, 0, rfl, by omega, rfl, by omega, H0⟩
  case round =>
    obtain ⟨n, k, rfl, hn, rfl, hk, R1⟩ := hrel
    by_cases h1 : n < hs.length
    · have h1i : (n : Int) < (hs.length : Int) := by omega
      have hw3 : IntKind.i64.wrap ((n : Int) + 1) = ((n + 1 : Nat) : Int) := by rw [wrap_id _ (by omega) (by omega)]; rfl
      obtain ⟨rfl, hrw, hgb, hgm⟩ := (unhide HROW) (by omega)
      have hrw2 := hrw.mod (unhide R1).mod (by rintro (e | e); exact hgb e; exact hgm e)
      obtain ⟨cs, hg, hcs⟩ := hrw2.cur
      obtain ⟨c0, c1, c2, c3⟩ := hcs n h1
      have hgl := hg.lt
      rw [← hg.cell] at c0 c1 c2 c3
      have HG := hide hg
      obtain ⟨sn, hsn⟩ : ∃ s, hs[n] = s := ⟨_, rfl⟩
      rw [hsn] at c0 c1 c2 c3
      obtain ⟨sr, sc, st0, pa0, cl0, un0⟩ := sn
      simp only at c0 c1 c2 c3
      have LK := hide fun (wr : World) (k : Nat) (hR : ReI w wr b m' Q acc0 hs n k) (hk : k < (accN acc0 hs n).length) =>
        (show ∃ r c st pa cl un : Int, (∀ W, Mod No wr W → Calls Try.prog 68 #[.pointer (some ⟨b, 0, none⟩), .int .i64 (k : Int)] W fun e w' => e = .returned (.agg #[.int .i64 r, .int .i64 c]) ∧ Mod No W w') ∧
          (∀ W, Mod No wr W → (Instr.lookup 136 (.map (some m')) (.agg #[.int .i64 r, .int .i64 c]) false).run Try.prog W = .ok (.agg #[.int .i64 st, .int .i64 pa, .int .i64 cl, .int .i64 un]) W) ∧
          (∀ W, Mod No wr W → W.cell? ⟨b, 7, none⟩ = some (.map (some m'))) ∧
          (st ≠ 0 → ReI w wr b m' Q acc0 hs n (k + 1)) ∧
          (st = 0 → ∀ W, Mod No wr W → Calls Try.prog 102 #[.pointer (some ⟨b, 0, none⟩), .agg #[.int .i64 r, .int .i64 c], .agg #[.int .i64 st0, .int .i64 pa0, .int .i64 cl0, .int .i64 un0]] W fun e w' =>
            e = .returned (.tuple #[]) ∧ ReI w w' b m' Q acc0 hs (n + 1) k ∧ Mod (fun k => k = b ∨ k = m') W w') from by
        obtain ⟨r, c, st, pa, cl, un, q1, q2, q3, q4, q5⟩ := (unhide HLOOK) wr n k hR hk
        refine ⟨r, c, st, pa, cl, un, q1, q2, q3, q4, fun h W hW => ?_⟩
        have := q5 h h1 W hW
        rw [hsn] at this
        exact this)
      have LT := hide fun (wr : World) (k : Nat) (hR : ReI w wr b m' Q acc0 hs n k) (hk : k ≤ (accN acc0 hs n).length) => (unhide HLT) wr n k hR h1 hk
      have LN := hide ((unhide HNEXT) n h1)
      have LL := hide ((unhide HLEN) _ _ _ (unhide R1))
      have HH1 := hide h1
      have HG := hide hg
      have HN := hide hn
      have HGB := hide (And.intro hgb hgm)
      clear hrw hrw2 hcs hg hgb hgm hsn HLOOK HLT HNEXT HLEN hn
      clear h1
      go_wp2_with fail
      have R2 := hide ((unhide R1).still ((Mod.refl No wr).alloc (.cells #[.int .i64 st0, .int .i64 pa0, .int .i64 cl0, .int .i64 un0] 170)))
      have B2 := hide (Has.new wr #[.int .i64 st0, .int .i64 pa0, .int .i64 cl0, .int .i64 un0] 170)
      have hbw : b ≠ wr.heap.size ∧ m' ≠ wr.heap.size := by have := (unhide R1).mod.size; omega
      have HBW := hide hbw
      clear hbw c0 c1 c2 c3
      generalize hwx0 : wr.alloc (.cells #[.int .i64 st0, .int .i64 pa0, .int .i64 cl0, .int .i64 un0] 170) = wx0 at *
      clear hwx0
      generalize hgb : wr.heap.size = sb at *
      clear hgb
      go_loopw [4] (fun s4 wx => ∃ k : Nat, s4 = .int .i64 (k : Int) ∧ k ≤ (accN acc0 hs n).length ∧ Hid (ReI w wx b m' Q acc0 hs n k) ∧ Hid (Has wx sb #[.int .i64 st0, .int .i64 pa0, .int .i64 cl0, .int .i64 un0] 170)) (fun s4 _ => (accN acc0 hs n).length - (intOf s4).toNat)
      case atStart => exact ⟨k, rfl, hk, R2, B2⟩
      case round =>
        obtain ⟨k, rfl, hk, R3, B3⟩ := hrel
        have hk2 := (unhide LT) _ k (unhide R3) hk
        obtain ⟨r, c, st, pa, cl, un, q1, q2, q3, q4, q5⟩ := (unhide LK) _ k (unhide R3) hk2
        have Q1 := hide q1
        have Q5 := hide q5
        have Q4 := hide q4
        have hL : ∀ x : Wd wr, (Instr.lookup 136 (.map (some m')) (.agg #[.int .i64 r, .int .i64 c]) false).run Try.prog x.W = .ok (.agg #[.int .i64 st, .int .i64 pa, .int .i64 cl, .int .i64 un]) x.W := fun x => q2 _ x.h
        have h7 : ∀ x : Wd wr, x.W.cell? ⟨b, 7, none⟩ = some (.map (some m')) := fun x => q3 _ x.h
        have hne := wd_ne wr
        have HK2 := hide hk2
        have LL2 := unhide LL
        clear q1 q2 q3 q4 q5 hk2
        by_cases h0 : st = 0
        · have HZ := hide h0
          subst h0
          go_wp2_with fail
          refine wp_region_wd (w0 := wr) (by kernel_rfl) (by kernel_rfl) (Mod.refl _ _) ?_
          repeat (go_big_quiet_step ((go_at_call 68; exact Calls.wd _ ((unhide Q1) _ (Wd.h _)))))
          refine wpQuiet_nil ?_
          rintro w3 ⟨⟨_, hm3⟩, rfl⟩
          have R4 := hide ((unhide R3).still hm3)
          have B4 := hide (hm3.has (unhide B3) (fun x => x))
          have M3 := hide hm3
          clear hm3 hL h7 hne R2 B2
          go_wp2_with fail
          have b4 := (unhide B4).cell
          have l4 := (unhide B4).lt
          have GP := hide fun W (hW : Mod No w3 W) => (unhide Q1) W ((unhide M3).trans hW)
          have GU := hide fun W (hW : Mod No w3 W) => (unhide Q5) (by trivial) W ((unhide M3).trans hW)
          have M0 := hide (Mod.refl No w3)
          go_region_with (first
              | (go_at_call 68; refine ((unhide GP) _ (unhide M0).drew).mono ?_; rintro e w5 ⟨rfl, hm5⟩; have b5 := (hm5.has (unhide B4).drew (fun x => x)).cell; have l5 := (hm5.has (unhide B4).drew (fun x => x)).lt)
              | (go_at_call 102; refine ((unhide GU) _ ((unhide M0).drew.trans hm5)).mono ?_; rintro e w6 ⟨rfl, hr6, hm6⟩))
          all_goals go_wp2
          all_goals exact ⟨⟨n + 1, k, by trivial, by have := unhide HH1; omega, by trivial, by rw [unhide LN]; exact hk, hr6⟩, by simp [intOf]; have := unhide HH1; omega⟩
        · have HZ := hide h0
          have hnz : (st != 0) = true := by simp [h0]
          have hw4 : IntKind.i64.wrap ((k : Int) + 1) = ((k + 1 : Nat) : Int) := by rw [wrap_id _ (by omega) (by omega)]; rfl
          clear h0
          go_wp2_with fail
          refine wp_region_wd (w0 := wr) (by kernel_rfl) (by kernel_rfl) (Mod.refl _ _) ?_
          repeat (go_big_quiet_step ((go_at_call 68; exact Calls.wd _ ((unhide Q1) _ (Wd.h _)))))
          refine wpQuiet_nil ?_
          rintro w3 ⟨⟨_, hm3⟩, rfl⟩
          have R4 := hide (((unhide Q4) (unhide HZ)).still hm3)
          have B4 := hide (hm3.has (unhide B3) (fun x => x))
          clear hm3 hL h7 hne R2 B2 R3 B3
          go_wp2
          exact ⟨⟨k + 1, rfl, by have := unhide HK2; omega, R4, B4⟩, by simp [intOf]; have := unhide HK2; omega⟩
    · have hii : n = hs.length := by omega
      subst hii
      have h1i : ¬ ((hs.length : Nat) : Int) < (hs.length : Int) := by omega
      go_wp2
      go_end0
      exact ⟨rfl, k, unhide R1⟩
end Go.Proofs.Ythhibagcpjeihaa
