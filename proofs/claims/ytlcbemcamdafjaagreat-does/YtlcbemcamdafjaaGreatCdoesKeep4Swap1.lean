import Derived.Test.YtlcbemcamdafjaaGreatCdoesKeep3Ref15
import Derived.Test.YtlcbemcamdafjaaGreatCdoesRef16Keep2
import Derived.Test.YtlcbemcamdafjaaGreatCdoesLook7Swap0
import Derived.BigQuiet
import Derived.Handy
import Derived.Deep.QuietTactic
/- A change is done to a keeper. -/
namespace Go.Proofs.YtlcbemcamdafjaaGreat
open Go.RowKit
open Go.ChangeMaps (setBlock)
open M
set_option linter.unusedVariables false
set_option linter.unusedSimpArgs false
set_option maxRecDepth 100000
set_option maxHeartbeats 2000000

theorem ta127 (v : Value) (w : World) : (Instr.typeAssert (.iface 149 v) 121 149 true).run Tryz.prog w = .ok (.tuple #[v, .bool true]) w := by kernel_rfl
theorem ta154 (v : Value) (w : World) : (Instr.typeAssert (.iface 169 v) 121 149 true).run Tryz.prog w = .ok (.tuple #[.agg #[.int .i64 0], .bool false]) w := by kernel_rfl
theorem ta173 (v : Value) (w : World) : (Instr.typeAssert (.iface 181 v) 121 149 true).run Tryz.prog w = .ok (.tuple #[.agg #[.int .i64 0], .bool false]) w := by kernel_rfl
theorem ta175 (v : Value) (w : World) : (Instr.typeAssert (.iface 183 v) 121 149 true).run Tryz.prog w = .ok (.tuple #[.agg #[.int .i64 0], .bool false]) w := by kernel_rfl
theorem ta177 (v : Value) (w : World) : (Instr.typeAssert (.iface 185 v) 121 149 true).run Tryz.prog w = .ok (.tuple #[.agg #[.int .i64 0], .bool false]) w := by kernel_rfl
theorem ta125 (v : Value) (w : World) : (Instr.typeAssert (.iface 177 v) 121 149 true).run Tryz.prog w = .ok (.tuple #[.agg #[.int .i64 0], .bool false]) w := by kernel_rfl
theorem nilAhead125 (v : Value) (w : World) : (nilAhead 312 177 v "Do").run Tryz.prog w = .ok (some false) w := by kernel_rfl
theorem method125 (v : Value) (w : World) : (method 312 177 v "Do").run Tryz.prog w = .ok (123, v) w := by kernel_rfl
attribute [local go_sem] ta125 nilAhead125 method125
theorem nilAhead154 (v : Value) (w : World) : (nilAhead 312 169 v "Do").run Tryz.prog w = .ok (some false) w := by kernel_rfl
theorem nilAhead173 (v : Value) (w : World) : (nilAhead 312 181 v "Do").run Tryz.prog w = .ok (some false) w := by kernel_rfl
theorem nilAhead175 (v : Value) (w : World) : (nilAhead 312 183 v "Do").run Tryz.prog w = .ok (some false) w := by kernel_rfl
theorem nilAhead177 (v : Value) (w : World) : (nilAhead 312 185 v "Do").run Tryz.prog w = .ok (some false) w := by kernel_rfl
attribute [local go_sem] nilAhead154 nilAhead173 nilAhead175 nilAhead177
theorem method154 (v : Value) (w : World) : (method 312 169 v "Do").run Tryz.prog w = .ok (121, v) w := by kernel_rfl
theorem method173 (v : Value) (w : World) : (method 312 181 v "Do").run Tryz.prog w = .ok (126, v) w := by kernel_rfl
theorem method175 (v : Value) (w : World) : (method 312 183 v "Do").run Tryz.prog w = .ok (127, v) w := by kernel_rfl
theorem method177 (v : Value) (w : World) : (method 312 185 v "Do").run Tryz.prog w = .ok (128, v) w := by kernel_rfl
attribute [local go_sem] method154 method173 method175 method177
attribute [local go_sem] ta127 ta154 ta173 ta175 ta177

theorem apply_pass (kb : Nat) (n nw : Int) (w : World) (P : World → Prop)
    (hC : ∀ W, Mod No w W → Calls Tryz.prog 70 #[.pointer (some ⟨kb, 0, none⟩), .agg #[.int .i64 nw]] W fun e w' => e = .returned (.tuple #[]) ∧ P w') :
    Calls Tryz.prog 48 #[.pointer (some ⟨kb, 0, none⟩), .int .i64 n, passV nw] w fun e w' => e = .returned (.tuple #[]) ∧ P w' := by
  have HC := hide hC
  have M0 := hide ((Mod.refl No w).alloc (.cells #[.int .i64 nw] 149))
  unfold passV
  clear hC
  go_enter Tryz.func48, Tryz.ntmps48
  go_wp2_with fail
  refine ((unhide HC) _ (unhide M0)).mono ?_
  rintro e w1 ⟨rfl, p1⟩
  go_wp2
  refine bodyPost_ret (results_none rfl _ _ _) rfl ?_
  exact ⟨rfl, p1⟩

theorem apply_fill (kb b n : Nat) (hn : 1 ≤ n ∧ n ≤ 20) (x0 x1 x2 x3 x4 x5 : Value) (cs : Array Value) (w : World) (P : World → Prop) (h : Has w kb cs 116) (hc : cs[1 + n]? = some (.pointer (some ⟨b, 0, none⟩)))
    (hC : ∀ W, Mod No w W → Calls Tryz.prog 126 #[.agg #[x0, x1, x2, x3, x4, x5], .pointer (some ⟨b, 0, none⟩)] W fun e w' => e = .returned (.tuple #[]) ∧ P w') :
    Calls Tryz.prog 48 #[.pointer (some ⟨kb, 0, none⟩), .int .i64 n, .iface 181 (.agg #[x0, x1, x2, x3, x4, x5])] w fun e w' => e = .returned (.tuple #[]) ∧ P w' := by
  have HC := hide hC
  have M0 := hide ((Mod.refl No w).alloc (.cells #[.int .i64 0] 149))
  have c := h.cell (1 + n)
  rw [hc] at c
  have hlt := h.lt
  have h3 : (n : Int) < 21 := by omega
  have h4 : (0 : Int) ≤ n := by omega
  clear h hc hC
  go_enter Tryz.func48, Tryz.ntmps48
  go_wp2_with fail
  go_region_with (go_at_call 126; refine ((unhide HC) _ (unhide M0).drew).mono ?_; rintro e w1 ⟨rfl, p1⟩)
  all_goals go_wp2
  all_goals go_end0
  all_goals exact ⟨rfl, p1⟩

theorem apply_empty (kb b n : Nat) (hn : 1 ≤ n ∧ n ≤ 20) (x0 x1 : Value) (cs : Array Value) (w : World) (P : World → Prop) (h : Has w kb cs 116) (hc : cs[1 + n]? = some (.pointer (some ⟨b, 0, none⟩)))
    (hC : ∀ W, Mod No w W → Calls Tryz.prog 127 #[.agg #[x0, x1], .pointer (some ⟨b, 0, none⟩)] W fun e w' => e = .returned (.tuple #[]) ∧ P w') :
    Calls Tryz.prog 48 #[.pointer (some ⟨kb, 0, none⟩), .int .i64 n, .iface 183 (.agg #[x0, x1])] w fun e w' => e = .returned (.tuple #[]) ∧ P w' := by
  have HC := hide hC
  have M0 := hide ((Mod.refl No w).alloc (.cells #[.int .i64 0] 149))
  have c := h.cell (1 + n)
  rw [hc] at c
  have hlt := h.lt
  have h3 : (n : Int) < 21 := by omega
  have h4 : (0 : Int) ≤ n := by omega
  clear h hc hC
  go_enter Tryz.func48, Tryz.ntmps48
  go_wp2_with fail
  go_region_with (go_at_call 127; refine ((unhide HC) _ (unhide M0).drew).mono ?_; rintro e w1 ⟨rfl, p1⟩)
  all_goals go_wp2
  all_goals go_end0
  all_goals exact ⟨rfl, p1⟩

theorem apply_shift (kb b n : Nat) (hn : 1 ≤ n ∧ n ≤ 20) (x0 x1 x2 x3 : Value) (cs : Array Value) (w : World) (P : World → Prop) (h : Has w kb cs 116) (hc : cs[1 + n]? = some (.pointer (some ⟨b, 0, none⟩)))
    (hC : ∀ W, Mod No w W → Calls Tryz.prog 128 #[.agg #[x0, x1, x2, x3], .pointer (some ⟨b, 0, none⟩)] W fun e w' => e = .returned (.tuple #[]) ∧ P w') :
    Calls Tryz.prog 48 #[.pointer (some ⟨kb, 0, none⟩), .int .i64 n, .iface 185 (.agg #[x0, x1, x2, x3])] w fun e w' => e = .returned (.tuple #[]) ∧ P w' := by
  have HC := hide hC
  have M0 := hide ((Mod.refl No w).alloc (.cells #[.int .i64 0] 149))
  have c := h.cell (1 + n)
  rw [hc] at c
  have hlt := h.lt
  have h3 : (n : Int) < 21 := by omega
  have h4 : (0 : Int) ≤ n := by omega
  clear h hc hC
  go_enter Tryz.func48, Tryz.ntmps48
  go_wp2_with fail
  go_region_with (go_at_call 128; refine ((unhide HC) _ (unhide M0).drew).mono ?_; rintro e w1 ⟨rfl, p1⟩)
  all_goals go_wp2
  all_goals go_end0
  all_goals exact ⟨rfl, p1⟩

theorem apply_refit (kb b n : Nat) (hn : 1 ≤ n ∧ n ≤ 20) (x0 x1 x2 : Value) (cs : Array Value) (w : World) (P : World → Prop) (h : Has w kb cs 116) (hc : cs[1 + n]? = some (.pointer (some ⟨b, 0, none⟩)))
    (hC : ∀ W, Mod No w W → Calls Tryz.prog 123 #[.agg #[x0, x1, x2], .pointer (some ⟨b, 0, none⟩)] W fun e w' => e = .returned (.tuple #[]) ∧ P w') :
    Calls Tryz.prog 48 #[.pointer (some ⟨kb, 0, none⟩), .int .i64 n, .iface 177 (.agg #[x0, x1, x2])] w fun e w' => e = .returned (.tuple #[]) ∧ P w' := by
  have HC := hide hC
  have M0 := hide ((Mod.refl No w).alloc (.cells #[.int .i64 0] 149))
  have c := h.cell (1 + n)
  rw [hc] at c
  have hlt := h.lt
  have h3 : (n : Int) < 21 := by omega
  have h4 : (0 : Int) ≤ n := by omega
  clear h hc hC
  go_enter Tryz.func48, Tryz.ntmps48
  go_wp2_with fail
  go_region_with (go_at_call 123; refine ((unhide HC) _ (unhide M0).drew).mono ?_; rintro e w1 ⟨rfl, p1⟩)
  all_goals go_wp2
  all_goals go_end0
  all_goals exact ⟨rfl, p1⟩

theorem apply_new (kb n : Nat) (hn : 1 ≤ n ∧ n ≤ 20) (now : Int) (pt : Nat → Option Nat) (p : Pla) (w : World) (P : World → Prop) (h : Has w kb (keepCells now pt) 116) (hc : pt n = none)
    (hC : ∀ W, Mod (fun k => k = kb) w W → Has W kb (keepCells now (updP pt n (w.heap.size + 1))) 116 → Has W (w.heap.size + 1) (fcs 0 0 0 0 0 0 0 (.map none) 0 0 0 0 0 0 0 0 0 0 0 0 0 0 0 0 0) 154 →
      Calls Tryz.prog 121 #[plaV p, .pointer (some ⟨w.heap.size + 1, 0, none⟩)] W fun e w' => e = .returned (.tuple #[]) ∧ P w') :
    Calls Tryz.prog 48 #[.pointer (some ⟨kb, 0, none⟩), .int .i64 n, startV p] w fun e w' => e = .returned (.tuple #[]) ∧ P w' := by
  have HC := hide hC
  have c := h.cell (1 + n)
  rw [keep_at now pt n (by omega), hc, show pv none = .pointer none from rfl] at c
  have hlt := h.lt
  have fz := h.frozen (1 + n)
  have H := hide h
  have h3 : (n : Int) < 21 := by omega
  have h4 : (0 : Int) ≤ n := by omega
  unfold startV plaV at *
  clear h hc hC
  go_enter Tryz.func48, Tryz.ntmps48
  go_upto_region 5 with fail
  have m5 : Mod (fun k => k = kb) w (((w.setCell ⟨kb, 1 + n, none⟩ (.pointer (some ⟨w.heap.size + 1, 0, none⟩))).alloc (.cells #[.int .i64 0] 149)).alloc (.cells #[.int .i64 0, .int .i64 0, .int .i64 0, .int .i64 0, .int .i64 0, .int .i64 0, .int .i64 0, .map none, .int .i64 0, .int .i64 0, .int .i64 0, .int .i64 0, .int .i64 0, .int .i64 0, .int .i64 0, .int .i64 0, .int .i64 0, .int .i64 0, .int .i64 0, .int .i64 0, .int .i64 0, .int .i64 0, .int .i64 0, .int .i64 0, .int .i64 0] 154)) := (((Mod.refl _ w).at (1 + n) _).alloc _).alloc _
  have k5 : Has (((w.setCell ⟨kb, 1 + n, none⟩ (.pointer (some ⟨w.heap.size + 1, 0, none⟩))).alloc (.cells #[.int .i64 0] 149)).alloc (.cells #[.int .i64 0, .int .i64 0, .int .i64 0, .int .i64 0, .int .i64 0, .int .i64 0, .int .i64 0, .map none, .int .i64 0, .int .i64 0, .int .i64 0, .int .i64 0, .int .i64 0, .int .i64 0, .int .i64 0, .int .i64 0, .int .i64 0, .int .i64 0, .int .i64 0, .int .i64 0, .int .i64 0, .int .i64 0, .int .i64 0, .int .i64 0, .int .i64 0] 154)) kb (keepCells now (updP pt n (w.heap.size + 1))) 116 := by
    have := (((unhide H).set (1 + n) (pv (some (w.heap.size + 1)))).alloc (.cells #[.int .i64 0] 149)).alloc (.cells #[.int .i64 0, .int .i64 0, .int .i64 0, .int .i64 0, .int .i64 0, .int .i64 0, .int .i64 0, .map none, .int .i64 0, .int .i64 0, .int .i64 0, .int .i64 0, .int .i64 0, .int .i64 0, .int .i64 0, .int .i64 0, .int .i64 0, .int .i64 0, .int .i64 0, .int .i64 0, .int .i64 0, .int .i64 0, .int .i64 0, .int .i64 0, .int .i64 0] 154)
    rw [keep_set now pt n _ (by omega)] at this
    exact this
  have b5 : Has (((w.setCell ⟨kb, 1 + n, none⟩ (.pointer (some ⟨w.heap.size + 1, 0, none⟩))).alloc (.cells #[.int .i64 0] 149)).alloc (.cells #[.int .i64 0, .int .i64 0, .int .i64 0, .int .i64 0, .int .i64 0, .int .i64 0, .int .i64 0, .map none, .int .i64 0, .int .i64 0, .int .i64 0, .int .i64 0, .int .i64 0, .int .i64 0, .int .i64 0, .int .i64 0, .int .i64 0, .int .i64 0, .int .i64 0, .int .i64 0, .int .i64 0, .int .i64 0, .int .i64 0, .int .i64 0, .int .i64 0] 154)) (w.heap.size + 1) #[.int .i64 0, .int .i64 0, .int .i64 0, .int .i64 0, .int .i64 0, .int .i64 0, .int .i64 0, .map none, .int .i64 0, .int .i64 0, .int .i64 0, .int .i64 0, .int .i64 0, .int .i64 0, .int .i64 0, .int .i64 0, .int .i64 0, .int .i64 0, .int .i64 0, .int .i64 0, .int .i64 0, .int .i64 0, .int .i64 0, .int .i64 0, .int .i64 0] 154 := by
    have := Has.new ((w.setCell ⟨kb, 1 + n, none⟩ (.pointer (some ⟨w.heap.size + 1, 0, none⟩))).alloc (.cells #[.int .i64 0] 149)) #[.int .i64 0, .int .i64 0, .int .i64 0, .int .i64 0, .int .i64 0, .int .i64 0, .int .i64 0, .map none, .int .i64 0, .int .i64 0, .int .i64 0, .int .i64 0, .int .i64 0, .int .i64 0, .int .i64 0, .int .i64 0, .int .i64 0, .int .i64 0, .int .i64 0, .int .i64 0, .int .i64 0, .int .i64 0, .int .i64 0, .int .i64 0, .int .i64 0] 154
    rw [World.size_alloc, World.size_setCell] at this
    exact this
  have M5 := hide m5
  have K5 := hide k5
  have B5 := hide b5
  have c5 := k5.cell (1 + n)
  rw [keep_at now _ n (by omega), show pv (updP pt n (w.heap.size + 1) n) = .pointer (some ⟨w.heap.size + 1, 0, none⟩) by simp [updP, pv]] at c5
  have l5 := k5.lt
  clear m5 k5 b5 c H fz hlt
  generalize (((w.setCell ⟨kb, 1 + n, none⟩ (.pointer (some ⟨w.heap.size + 1, 0, none⟩))).alloc (.cells #[.int .i64 0] 149)).alloc (.cells #[.int .i64 0, .int .i64 0, .int .i64 0, .int .i64 0, .int .i64 0, .int .i64 0, .int .i64 0, .map none, .int .i64 0, .int .i64 0, .int .i64 0, .int .i64 0, .int .i64 0, .int .i64 0, .int .i64 0, .int .i64 0, .int .i64 0, .int .i64 0, .int .i64 0, .int .i64 0, .int .i64 0, .int .i64 0, .int .i64 0, .int .i64 0, .int .i64 0] 154)) = w5 at *
  go_region_with (go_at_call 121; refine ((unhide HC) _ (unhide M5).drew (unhide K5).drew (unhide B5).drew).mono ?_; rintro e w1 ⟨rfl, p1⟩)
  all_goals go_wp2
  all_goals go_end0
  all_goals exact ⟨rfl, p1⟩
end Go.Proofs.YtlcbemcamdafjaaGreat
/- A keeper does a command. -/
namespace Go.Proofs.YtlcbemcamdafjaaGreat
open Go.RowKit
open Go.ChangeMaps (setBlock)
open M
set_option linter.unusedVariables false
set_option linter.unusedSimpArgs false
set_option maxRecDepth 100000
set_option maxHeartbeats 2000000

theorem do_refuse (kb : Nat) (c : Cmd) (x : Int) (hx : x ≠ 0) (w : World)
    (hL : ∀ W, Mod No w W → Calls Tryz.prog 47 #[.pointer (some ⟨kb, 0, none⟩), .agg (cmdCells c)] W fun e w' => e = .returned (refuse x) ∧ Mod No W w') :
    Calls Tryz.prog 25 #[.pointer (some ⟨kb, 0, none⟩), .agg (cmdCells c)] w fun e w' => e = .returned (.int .i64 x) ∧ Mod No w w' := by
  have HL := hide hL
  have M0 := hide ((Mod.refl No w).alloc (.cells (cmdCells c) 41))
  have B0 := hide (Has.new w (cmdCells c) 41)
  have hd : (x != 0) = true := by simp [hx]
  unfold cmdCells refuse at *
  clear hL hx
  go_enter Tryz.func25, Tryz.ntmps25
  go_wp2_with fail
  refine ((unhide HL) _ (unhide M0)).mono ?_
  rintro e w1 ⟨rfl, m1⟩
  go_wp2
  go_ret
  exact ⟨rfl, (unhide M0).trans m1⟩

theorem do_grant (kb : Nat) (c : Cmd) (v : Value) (w : World) (P : World → Prop)
    (hL : ∀ W, Mod No w W → Calls Tryz.prog 47 #[.pointer (some ⟨kb, 0, none⟩), .agg (cmdCells c)] W fun e w' => e = .returned (grant v) ∧ Mod No W w')
    (hA : ∀ W, Mod No w W → Calls Tryz.prog 48 #[.pointer (some ⟨kb, 0, none⟩), .int .i64 c.flight, v] W fun e w' => e = .returned (.tuple #[]) ∧ P w') :
    Calls Tryz.prog 25 #[.pointer (some ⟨kb, 0, none⟩), .agg (cmdCells c)] w fun e w' => e = .returned (.int .i64 0) ∧ P w' := by
  have HL := hide hL
  have HA := hide hA
  have M0 := hide ((Mod.refl No w).alloc (.cells (cmdCells c) 41))
  have B0 := hide (Has.new w (cmdCells c) 41)
  unfold cmdCells grant at *
  clear hL hA
  go_enter Tryz.func25, Tryz.ntmps25
  go_wp2_with fail
  refine ((unhide HL) _ (unhide M0)).mono ?_
  rintro e w1 ⟨rfl, m1⟩
  have cb := (m1.has (unhide B0) (fun x => x)).cell
  have M1 := hide ((unhide M0).trans m1)
  clear m1
  go_wp2_with fail
  refine ((unhide HA) _ (unhide M1)).mono ?_
  rintro e w2 ⟨rfl, p2⟩
  go_wp2
  go_ret
  exact ⟨rfl, p2⟩

theorem seatErr_zero {p : Pla} {l : List Sea} {c : Cmd} {now : Int} (h : seatErr p l c now = 0) (h9 : c.kind ≠ 9) :
    c.kind ≠ 9 ∧ p.has c.ar c.ac = true ∧ (c.kind = 5 → p.has c.tr c.tc = true ∧ ownerN (seatAt p l c.ar c.ac).st (seatAt p l c.ar c.ac).pa c.party = 0 ∧ (seatAt p l c.tr c.tc).st = 0) ∧
      (c.kind = 2 → buyer c = 0 ∧ now < c.time ∧ c.time ≤ now + 100) ∧ (c.kind = 3 → buyer c = 0) := by
  unfold seatErr at h
  rw [if_neg h9] at h
  by_cases hor : p.has c.ar c.ac = false ∨ (c.kind = 5 ∧ p.has c.tr c.tc = false)
  · rw [if_pos hor] at h; exact absurd h (by omega)
  rw [if_neg hor] at h
  have hat : p.has c.ar c.ac = true := by
    cases hb : p.has c.ar c.ac with
    | true => rfl
    | false => exact absurd (.inl hb) hor
  refine ⟨h9, hat, fun h5 => ?_, fun h2 => ?_, fun h3 => ?_⟩
  · have hto : p.has c.tr c.tc = true := by
      cases hb : p.has c.tr c.tc with
      | true => rfl
      | false => exact absurd (.inr ⟨h5, hb⟩) hor
    rw [if_neg (by omega), if_neg (by omega), if_neg (by omega), if_pos h5] at h
    by_cases ho : ownerN (seatAt p l c.ar c.ac).st (seatAt p l c.ar c.ac).pa c.party = 0
    · rw [if_neg (by simpa using ho)] at h
      by_cases hs : (seatAt p l c.tr c.tc).st = 0
      · exact ⟨hto, ho, hs⟩
      · rw [if_pos hs] at h; exact absurd h (by omega)
    · rw [if_pos ho] at h; exact absurd h ho
  · rw [if_pos h2] at h
    by_cases hb : buyer c = 0
    · rw [if_neg (by simpa using hb)] at h
      by_cases ht : c.time ≤ now ∨ c.time > now + 100
      · rw [if_pos ht] at h; exact absurd h (by omega)
      · exact ⟨hb, by omega, by omega⟩
    · rw [if_pos hb] at h; exact absurd h hb
  · rw [if_neg (by omega), if_pos h3] at h
    by_cases hb : buyer c = 0
    · exact hb
    · rw [if_pos hb] at h; exact absurd h hb

theorem owner_zero {st pa party : Int} (h : ownerN st pa party = 0) : st = 1 ∨ st = 2 := by
  unfold ownerN at h
  by_cases hs : st = 1 ∨ st = 2
  · exact hs
  · rw [if_pos hs] at h; exact absurd h (by omega)

theorem seatNew_wf {p : Pla} {l : List Sea} (hwf : Wf p l) {c : Cmd} {now : Int} (hn : 0 ≤ now ∧ now ≤ 4611686018427387000) (h : seatErr p l c now = 0) (h9 : c.kind ≠ 9) : Wf p (seatNew p l c) := by
  obtain ⟨h9, hat, h5, h2, h3⟩ := seatErr_zero h h9
  obtain ⟨hi, he, her, hec⟩ := seatAt_eq hwf hat
  have hswf : (seatAt p l c.ar c.ac).wf := by rw [he]; exact hwf.seat _ (List.getElem_mem hi)
  unfold seatNew
  rw [if_neg h9]
  by_cases k2 : c.kind = 2
  · rw [if_pos k2]
    have hb := buyer_ok (h2 k2).1
    have ht := h2 k2
    exact hwf.set hi ⟨by simp, by simp, by simp; omega, by simp; omega, by simp, by simp; omega, by simp; omega, by simp⟩ her.symm hec.symm
  rw [if_neg k2]
  by_cases k3 : c.kind = 3
  · rw [if_pos k3]
    have hb := buyer_ok (h3 k3)
    exact hwf.set hi ⟨by simp, by simp, by simp; omega, by simp; omega, by simp, by simp; omega, by simp, by simp⟩ her.symm hec.symm
  rw [if_neg k3]
  by_cases k5 : c.kind = 5
  · rw [if_pos k5]
    obtain ⟨hto, ho, hs⟩ := h5 k5
    obtain ⟨hj, hje, hjr, hjc⟩ := seatAt_eq hwf hto
    have h1 : Wf p (l.set (p.idx c.ar c.ac) (seatAt p l c.ar c.ac).freed) := hwf.set hi (freed_wf _) (by rw [he]; rfl) (by rw [he]; rfl)
    have hj' : p.idx c.tr c.tc < (l.set (p.idx c.ar c.ac) (seatAt p l c.ar c.ac).freed).length := by simpa using hj
    obtain ⟨hj2, hje2, hjr2, hjc2⟩ := seatAt_eq h1 hto
    exact h1.set hj2 ⟨hswf.s0, hswf.s1, hswf.c0, hswf.c1, hswf.bare, hswf.pa, hswf.un, hswf.bk⟩ hjr2.symm hjc2.symm
  rw [if_neg k5]
  by_cases k6 : c.kind = 6
  · rw [if_pos k6]
    exact hwf.set hi ⟨by simp, by simp, by simp, by simp, by simp, by simp, by simp, by simp⟩ her.symm hec.symm
  rw [if_neg k6]
  exact hwf.set hi (freed_wf _) (by rw [he]; rfl) (by rw [he]; rfl)

theorem apply_seat {w : World} {ow : Nat → Nat} {kb : Nat} {now : Int} {pt : Nat → Option Nat} {fl : Nat → Option (Pla × List Sea)} (h : KeepX w ow kb now pt fl) (n : Nat) (hn : 1 ≤ n ∧ n ≤ 20) {p : Pla} {l : List Sea} (hfl : fl n = some (p, l))
    (hnow : 0 ≤ now ∧ now ≤ 4611686018427387000) (c : Cmd) (hk : 2 ≤ c.kind ∧ c.kind ≤ 9 ∧ c.kind ≠ 8) (he : seatErr p l c now = 0) (h9 : c.kind ≠ 9) :
    Calls Tryz.prog 48 #[.pointer (some ⟨kb, 0, none⟩), .int .i64 n, changeV c] w fun e w' =>
      e = .returned (.tuple #[]) ∧ KeepX w' ow kb now pt (fun j => if j = n then some (p.next, seatNew p l c) else fl j) ∧ Mod (fun k => ow k ≠ 0) w w' := by
  obtain ⟨b, hp, hwf, hf⟩ := h.here n p l (by omega) hfl
  have hc : (keepCells now pt)[1 + n]? = some (.pointer (some ⟨b, 0, none⟩)) := by rw [keep_at now pt n (by omega), hp]; rfl
  have hw2 := (seatNew_wf hwf hnow he h9).next
  have hfin : ∀ W w', Mod No w W → FlH w' (fun k => ow k = n + 2) b p.next (seatNew p l c) → Mod (fun k => ow k = n + 2) W w' → KeepX w' ow kb now pt (fun j => if j = n then some (p.next, seatNew p l c) else fl j) ∧ Mod (fun k => ow k ≠ 0) w w' := fun W w' hW h1 h2 =>
    ⟨(h.mod hW (fun _ _ x => x)).flight h2 hp hw2 h1, (hW.mono (fun _ _ x => x.elim)).trans (h2.mono (fun _ _ (e : ow _ = n + 2) => by show ow _ ≠ 0; omega))⟩
  obtain ⟨h9, hat, h5, h2, h3⟩ := seatErr_zero he h9
  obtain ⟨hi, hse, her, hec⟩ := seatAt_eq hwf hat
  unfold changeV seatNew at *
  rw [if_neg h9] at hfin hw2 ⊢
  rw [if_neg h9]
  by_cases k2 : c.kind = 2
  · rw [if_pos k2] at hfin hw2 ⊢
    rw [if_pos k2]
    have hb := buyer_ok (h2 k2).1
    have ht := h2 k2
    have hs : (⟨c.ar, c.ac, 1, c.party, c.cls, c.time⟩ : Sea).wf := ⟨by simp, by simp, by simp; omega, by simp; omega, by simp, by simp; omega, by simp; omega, by simp⟩
    exact apply_fill kb b n hn _ _ _ _ _ _ _ w _ h.has hc (fun W hW => (fill_any (hf.mod0 hW) hwf _ hi ⟨c.ar, c.ac, 1, c.party, c.cls, c.time⟩ hs her.symm hec.symm).mono (fun e w' ⟨r, q1, q2⟩ => ⟨r, hfin W w' hW q1 q2⟩))
  rw [if_neg k2] at hfin hw2 ⊢
  rw [if_neg k2]
  by_cases k3 : c.kind = 3
  · rw [if_pos k3] at hfin hw2 ⊢
    rw [if_pos k3]
    have hb := buyer_ok (h3 k3)
    have hs : (⟨c.ar, c.ac, 2, c.party, c.cls, 0⟩ : Sea).wf := ⟨by simp, by simp, by simp; omega, by simp; omega, by simp, by simp; omega, by simp, by simp⟩
    exact apply_fill kb b n hn _ _ _ _ _ _ _ w _ h.has hc (fun W hW => (fill_any (hf.mod0 hW) hwf _ hi ⟨c.ar, c.ac, 2, c.party, c.cls, 0⟩ hs her.symm hec.symm).mono (fun e w' ⟨r, q1, q2⟩ => ⟨r, hfin W w' hW q1 q2⟩))
  rw [if_neg k3] at hfin hw2 ⊢
  rw [if_neg k3]
  by_cases k5 : c.kind = 5
  · rw [if_pos k5] at hfin hw2 ⊢
    rw [if_pos k5]
    obtain ⟨hto, ho, hs⟩ := h5 k5
    obtain ⟨hj, hje, hjr, hjc⟩ := seatAt_eq hwf hto
    have hij : p.idx c.ar c.ac ≠ p.idx c.tr c.tc := by
      intro e
      have h1 := owner_zero ho
      rw [hse] at h1
      rw [hje] at hs
      simp only [e] at h1
      omega
    rw [hse] at hfin ⊢
    refine apply_shift kb b n hn _ _ _ _ _ w _ h.has hc (fun W hW => ?_)
    have := shift_any (hf.mod0 hW) hwf _ hi _ hj hij
    rw [her, hec, hjr, hjc] at this
    exact this.mono (fun e w' ⟨r, q1, q2⟩ => ⟨r, hfin W w' hW q1 q2⟩)
  rw [if_neg k5] at hfin hw2 ⊢
  rw [if_neg k5]
  by_cases k6 : c.kind = 6
  · rw [if_pos k6] at hfin hw2 ⊢
    rw [if_pos k6]
    have hs : (⟨c.ar, c.ac, 3, 0, 0, 0⟩ : Sea).wf := ⟨by simp, by simp, by simp, by simp, by simp, by simp, by simp, by simp⟩
    exact apply_fill kb b n hn _ _ _ _ _ _ _ w _ h.has hc (fun W hW => (fill_any (hf.mod0 hW) hwf _ hi ⟨c.ar, c.ac, 3, 0, 0, 0⟩ hs her.symm hec.symm).mono (fun e w' ⟨r, q1, q2⟩ => ⟨r, hfin W w' hW q1 q2⟩))
  rw [if_neg k6] at hfin hw2 ⊢
  rw [if_neg k6]
  rw [hse] at hfin ⊢
  refine apply_empty kb b n hn _ _ _ w _ h.has hc (fun W hW => ?_)
  have := empty_any (hf.mod0 hW) hwf _ hi
  rw [her, hec] at this
  exact this.mono (fun e w' ⟨r, q1, q2⟩ => ⟨r, hfin W w' hW q1 q2⟩)
end Go.Proofs.YtlcbemcamdafjaaGreat
/- How many seats there are; the place that has so many ahead of it. -/
namespace Go.Proofs.YtlcbemcamdafjaaGreat
open Go.RowKit
open Go.ChangeMaps (setBlock)
open M
set_option linter.unusedVariables false
set_option linter.unusedSimpArgs false
set_option maxRecDepth 100000

theorem size_walk (b : Nat) (cs : Array Value) (T : TypeId) (R C : Int) (w : World) (h : Has w b cs T) (h0 : cs[0]? = some (.int .i64 R)) (h1 : cs[1]? = some (.int .i64 C)) (hw : IntKind.i64.wrap (R * C) = R * C) :
    Calls Tryz.prog 94 #[.pointer (some ⟨b, 0, none⟩)] w fun e w' => e = .returned (.int .i64 (R * C)) ∧ Mod No w w' := by
  have c0 := h.cell 0
  have c1 := h.cell 1
  rw [h0] at c0
  rw [h1] at c1
  have hlt := h.lt
  clear h h0 h1
  go_enter Tryz.func94, Tryz.ntmps94
  go_wp2
  go_quiet (fail)
  go_wp2
  go_ret
  exact ⟨rfl, (Mod.refl _ _).drewN _⟩

theorem placeAt_walk (b : Nat) (cs : Array Value) (T : TypeId) (C a : Nat) (w : World) (h : Has w b cs T) (h1 : cs[1]? = some (.int .i64 (C : Int))) (hC : 1 ≤ C ∧ C ≤ 6) (ha : a ≤ 1000) :
    Calls Tryz.prog 95 #[.pointer (some ⟨b, 0, none⟩), .int .i64 (a : Int)] w fun e w' => e = .returned (.agg #[.int .i64 ((a : Int) / C + 1), .int .i64 ((a : Int) % C + 1)]) ∧ Mod No w w' := by
  have c1 := h.cell 1
  rw [h1] at c1
  have hlt := h.lt
  have d0 : (C : Int) ≠ 0 := by omega
  have t1 : Int.tdiv (a : Int) C = (a : Int) / C := Int.tdiv_eq_ediv_of_nonneg (by omega)
  have t2 : Int.tmod (a : Int) C = (a : Int) % C := Int.tmod_eq_emod_of_nonneg (by omega)
  have b1 : 0 ≤ (a : Int) / C := Int.ediv_nonneg (by omega) (by omega)
  have b2 : (a : Int) / C ≤ a := Int.ediv_le_self _ (by omega)
  have b3 : 0 ≤ (a : Int) % C := Int.emod_nonneg _ d0
  have b4 : (a : Int) % C < C := Int.emod_lt_of_pos _ (by omega)
  have w1 : IntKind.i64.wrap ((a : Int) / C) = (a : Int) / C := wrap_id _ (by omega) (by omega)
  have w2 : IntKind.i64.wrap ((a : Int) % C) = (a : Int) % C := wrap_id _ (by omega) (by omega)
  have w3 : IntKind.i64.wrap ((a : Int) / C + 1) = (a : Int) / C + 1 := wrap_id _ (by omega) (by omega)
  have w4 : IntKind.i64.wrap ((a : Int) % C + 1) = (a : Int) % C + 1 := wrap_id _ (by omega) (by omega)
  clear h h1
  go_enter Tryz.func95, Tryz.ntmps95
  go_wp2
  go_region
  all_goals go_wp2
  all_goals go_returns
  all_goals exact ⟨rfl, ((Mod.refl _ _).alloc _).drew⟩
end Go.Proofs.YtlcbemcamdafjaaGreat
