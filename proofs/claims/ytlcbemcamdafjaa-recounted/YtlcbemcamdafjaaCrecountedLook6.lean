import Derived.Test.YtlcbemcamdafjaaCrecountedLook3Look4
import Derived.Test.YtlcbemcamdafjaaCrecountedLook5Swap0
/- A command to a flight is looked over. -/
namespace Go.Proofs.Ytlcbemcamdafjaa
open Go.RowKit
open Go.ChangeMaps (setBlock)
open M
set_option linter.unusedVariables false
set_option linter.unusedSimpArgs false
set_option maxRecDepth 100000
set_option maxHeartbeats 2000000

theorem look_hold (b : Nat) (c : Cmd) (now : Int) (x y : Value) (hk : c.kind = 2) (w : World)
    (hA : ∀ W, Mod No w W → Calls Try.prog 62 #[.pointer (some ⟨b, 0, none⟩), .agg #[.int .i64 c.ar, .int .i64 c.ac]] W fun e w' => e = .returned (.bool true) ∧ Mod No W w')
    (hC : ∀ W, Mod No w W → Calls Try.prog 63 #[.pointer (some ⟨b, 0, none⟩), .agg (cmdCells c), .int .i64 now] W fun e w' => e = .returned (.tuple #[x, y]) ∧ Mod No W w') :
    Calls Try.prog 52 #[.pointer (some ⟨b, 0, none⟩), .agg (cmdCells c), .int .i64 now] w fun e w' => e = .returned (.tuple #[x, y]) ∧ Mod No w w' := by
  have HA := hide hA
  have HC := hide hC
  have M0 := hide ((Mod.refl No w).alloc (.cells (cmdCells c) 37))
  have B0 := hide (Has.new w (cmdCells c) 37)
  unfold cmdCells at HC M0 B0 ⊢
  rw [hk] at HC M0 B0 ⊢
  clear hA hC hk
  go_enter Try.func52, Try.ntmps52
  go_wp2_with fail
  refine ((unhide HA) _ (unhide M0)).mono ?_
  rintro e w1 ⟨rfl, m1⟩
  have cb := (m1.has (unhide B0) (fun x => x)).cell
  have M1 := hide ((unhide M0).trans m1)
  have B1 := hide (m1.has (unhide B0) (fun x => x))
  clear m1
  go_wp2_with fail
  refine ((unhide HC) _ (unhide M1)).mono ?_
  rintro e w3 ⟨rfl, m3⟩
  have M3 := hide ((unhide M1).trans m3)
  clear m3
  go_wp2
  go_ret2
  exact ⟨rfl, unhide M3⟩

theorem look_book (b : Nat) (c : Cmd) (now : Int) (x y : Value) (hk : c.kind = 3) (w : World)
    (hA : ∀ W, Mod No w W → Calls Try.prog 62 #[.pointer (some ⟨b, 0, none⟩), .agg #[.int .i64 c.ar, .int .i64 c.ac]] W fun e w' => e = .returned (.bool true) ∧ Mod No W w')
    (hC : ∀ W, Mod No w W → Calls Try.prog 64 #[.pointer (some ⟨b, 0, none⟩), .agg (cmdCells c)] W fun e w' => e = .returned (.tuple #[x, y]) ∧ Mod No W w') :
    Calls Try.prog 52 #[.pointer (some ⟨b, 0, none⟩), .agg (cmdCells c), .int .i64 now] w fun e w' => e = .returned (.tuple #[x, y]) ∧ Mod No w w' := by
  have HA := hide hA
  have HC := hide hC
  have M0 := hide ((Mod.refl No w).alloc (.cells (cmdCells c) 37))
  have B0 := hide (Has.new w (cmdCells c) 37)
  unfold cmdCells at HC M0 B0 ⊢
  rw [hk] at HC M0 B0 ⊢
  clear hA hC hk
  go_enter Try.func52, Try.ntmps52
  go_wp2_with fail
  refine ((unhide HA) _ (unhide M0)).mono ?_
  rintro e w1 ⟨rfl, m1⟩
  have cb := (m1.has (unhide B0) (fun x => x)).cell
  have M1 := hide ((unhide M0).trans m1)
  have B1 := hide (m1.has (unhide B0) (fun x => x))
  clear m1
  go_wp2_with fail
  refine ((unhide HC) _ (unhide M1)).mono ?_
  rintro e w3 ⟨rfl, m3⟩
  have M3 := hide ((unhide M1).trans m3)
  clear m3
  go_wp2
  go_ret2
  exact ⟨rfl, unhide M3⟩

theorem look_cancel (b : Nat) (c : Cmd) (now : Int) (x y : Value) (hk : c.kind = 4) (w : World)
    (hA : ∀ W, Mod No w W → Calls Try.prog 62 #[.pointer (some ⟨b, 0, none⟩), .agg #[.int .i64 c.ar, .int .i64 c.ac]] W fun e w' => e = .returned (.bool true) ∧ Mod No W w')
    (hC : ∀ W, Mod No w W → Calls Try.prog 65 #[.pointer (some ⟨b, 0, none⟩), .agg (cmdCells c)] W fun e w' => e = .returned (.tuple #[x, y]) ∧ Mod No W w') :
    Calls Try.prog 52 #[.pointer (some ⟨b, 0, none⟩), .agg (cmdCells c), .int .i64 now] w fun e w' => e = .returned (.tuple #[x, y]) ∧ Mod No w w' := by
  have HA := hide hA
  have HC := hide hC
  have M0 := hide ((Mod.refl No w).alloc (.cells (cmdCells c) 37))
  have B0 := hide (Has.new w (cmdCells c) 37)
  unfold cmdCells at HC M0 B0 ⊢
  rw [hk] at HC M0 B0 ⊢
  clear hA hC hk
  go_enter Try.func52, Try.ntmps52
  go_wp2_with fail
  refine ((unhide HA) _ (unhide M0)).mono ?_
  rintro e w1 ⟨rfl, m1⟩
  have cb := (m1.has (unhide B0) (fun x => x)).cell
  have M1 := hide ((unhide M0).trans m1)
  have B1 := hide (m1.has (unhide B0) (fun x => x))
  clear m1
  go_wp2_with fail
  refine ((unhide HC) _ (unhide M1)).mono ?_
  rintro e w3 ⟨rfl, m3⟩
  have M3 := hide ((unhide M1).trans m3)
  clear m3
  go_wp2
  go_ret2
  exact ⟨rfl, unhide M3⟩

theorem look_move (b : Nat) (c : Cmd) (now : Int) (x y : Value) (hk : c.kind = 5) (w : World)
    (hA : ∀ W, Mod No w W → Calls Try.prog 62 #[.pointer (some ⟨b, 0, none⟩), .agg #[.int .i64 c.ar, .int .i64 c.ac]] W fun e w' => e = .returned (.bool true) ∧ Mod No W w')
    (hB : ∀ W, Mod No w W → Calls Try.prog 62 #[.pointer (some ⟨b, 0, none⟩), .agg #[.int .i64 c.tr, .int .i64 c.tc]] W fun e w' => e = .returned (.bool true) ∧ Mod No W w')
    (hC : ∀ W, Mod No w W → Calls Try.prog 66 #[.pointer (some ⟨b, 0, none⟩), .agg (cmdCells c)] W fun e w' => e = .returned (.tuple #[x, y]) ∧ Mod No W w') :
    Calls Try.prog 52 #[.pointer (some ⟨b, 0, none⟩), .agg (cmdCells c), .int .i64 now] w fun e w' => e = .returned (.tuple #[x, y]) ∧ Mod No w w' := by
  have HA := hide hA
  have HC := hide hC
  have HB := hide hB
  have M0 := hide ((Mod.refl No w).alloc (.cells (cmdCells c) 37))
  have B0 := hide (Has.new w (cmdCells c) 37)
  unfold cmdCells at HC M0 B0 ⊢
  rw [hk] at HC M0 B0 ⊢
  clear hA hC hB hk
  go_enter Try.func52, Try.ntmps52
  go_wp2_with fail
  refine ((unhide HA) _ (unhide M0)).mono ?_
  rintro e w1 ⟨rfl, m1⟩
  have cb := (m1.has (unhide B0) (fun x => x)).cell
  have M1 := hide ((unhide M0).trans m1)
  have B1 := hide (m1.has (unhide B0) (fun x => x))
  clear m1
  go_wp2_with fail
  refine ((unhide HB) _ (unhide M1)).mono ?_
  rintro e w2 ⟨rfl, m2⟩
  have cb2 := (m2.has (unhide B1) (fun x => x)).cell
  have M2 := hide ((unhide M1).trans m2)
  clear m2 cb
  go_wp2_with fail
  refine ((unhide HC) _ (unhide M2)).mono ?_
  rintro e w3 ⟨rfl, m3⟩
  have M3 := hide ((unhide M2).trans m3)
  clear m3
  go_wp2
  go_ret2
  exact ⟨rfl, unhide M3⟩

theorem look_block (b : Nat) (c : Cmd) (now : Int) (x y : Value) (hk : c.kind = 6) (w : World)
    (hA : ∀ W, Mod No w W → Calls Try.prog 62 #[.pointer (some ⟨b, 0, none⟩), .agg #[.int .i64 c.ar, .int .i64 c.ac]] W fun e w' => e = .returned (.bool true) ∧ Mod No W w')
    (hC : ∀ W, Mod No w W → Calls Try.prog 67 #[.pointer (some ⟨b, 0, none⟩), .agg (cmdCells c)] W fun e w' => e = .returned (.tuple #[x, y]) ∧ Mod No W w') :
    Calls Try.prog 52 #[.pointer (some ⟨b, 0, none⟩), .agg (cmdCells c), .int .i64 now] w fun e w' => e = .returned (.tuple #[x, y]) ∧ Mod No w w' := by
  have HA := hide hA
  have HC := hide hC
  have M0 := hide ((Mod.refl No w).alloc (.cells (cmdCells c) 37))
  have B0 := hide (Has.new w (cmdCells c) 37)
  unfold cmdCells at HC M0 B0 ⊢
  rw [hk] at HC M0 B0 ⊢
  clear hA hC hk
  go_enter Try.func52, Try.ntmps52
  go_wp2_with fail
  refine ((unhide HA) _ (unhide M0)).mono ?_
  rintro e w1 ⟨rfl, m1⟩
  have cb := (m1.has (unhide B0) (fun x => x)).cell
  have M1 := hide ((unhide M0).trans m1)
  have B1 := hide (m1.has (unhide B0) (fun x => x))
  clear m1
  go_wp2_with fail
  refine ((unhide HC) _ (unhide M1)).mono ?_
  rintro e w3 ⟨rfl, m3⟩
  have M3 := hide ((unhide M1).trans m3)
  clear m3
  go_wp2
  go_ret2
  exact ⟨rfl, unhide M3⟩

theorem look_unblock (b : Nat) (c : Cmd) (now : Int) (x y : Value) (hk : c.kind = 7) (w : World)
    (hA : ∀ W, Mod No w W → Calls Try.prog 62 #[.pointer (some ⟨b, 0, none⟩), .agg #[.int .i64 c.ar, .int .i64 c.ac]] W fun e w' => e = .returned (.bool true) ∧ Mod No W w')
    (hC : ∀ W, Mod No w W → Calls Try.prog 68 #[.pointer (some ⟨b, 0, none⟩), .agg (cmdCells c)] W fun e w' => e = .returned (.tuple #[x, y]) ∧ Mod No W w') :
    Calls Try.prog 52 #[.pointer (some ⟨b, 0, none⟩), .agg (cmdCells c), .int .i64 now] w fun e w' => e = .returned (.tuple #[x, y]) ∧ Mod No w w' := by
  have HA := hide hA
  have HC := hide hC
  have M0 := hide ((Mod.refl No w).alloc (.cells (cmdCells c) 37))
  have B0 := hide (Has.new w (cmdCells c) 37)
  unfold cmdCells at HC M0 B0 ⊢
  rw [hk] at HC M0 B0 ⊢
  clear hA hC hk
  go_enter Try.func52, Try.ntmps52
  go_wp2_with fail
  refine ((unhide HA) _ (unhide M0)).mono ?_
  rintro e w1 ⟨rfl, m1⟩
  have cb := (m1.has (unhide B0) (fun x => x)).cell
  have M1 := hide ((unhide M0).trans m1)
  have B1 := hide (m1.has (unhide B0) (fun x => x))
  clear m1
  go_wp2_with fail
  refine ((unhide HC) _ (unhide M1)).mono ?_
  rintro e w3 ⟨rfl, m3⟩
  have M3 := hide ((unhide M1).trans m3)
  clear m3
  go_wp2
  go_ret2
  exact ⟨rfl, unhide M3⟩

theorem look_noAt (b : Nat) (c : Cmd) (now : Int) (w : World)
    (hA : ∀ W, Mod No w W → Calls Try.prog 62 #[.pointer (some ⟨b, 0, none⟩), .agg #[.int .i64 c.ar, .int .i64 c.ac]] W fun e w' => e = .returned (.bool false) ∧ Mod No W w') :
    (hk : c.kind ≠ 9) → Calls Try.prog 52 #[.pointer (some ⟨b, 0, none⟩), .agg (cmdCells c), .int .i64 now] w fun e w' => e = .returned (refuse 5) ∧ Mod No w w' := by
  intro hk
  have HA := hide hA
  have hd : (c.kind == 9) = false := by simp [hk]
  have M0 := hide ((Mod.refl No w).alloc (.cells (cmdCells c) 37))
  unfold cmdCells at M0 ⊢
  clear hA hk
  go_enter Try.func52, Try.ntmps52
  go_wp2_with fail
  refine ((unhide HA) _ (unhide M0)).mono ?_
  rintro e w1 ⟨rfl, m1⟩
  have M1 := hide ((unhide M0).trans m1)
  clear m1
  go_wp2
  go_ret2
  exact ⟨rfl, unhide M1⟩

theorem look_noTo (b : Nat) (c : Cmd) (now : Int) (hk : c.kind = 5) (w : World)
    (hA : ∀ W, Mod No w W → Calls Try.prog 62 #[.pointer (some ⟨b, 0, none⟩), .agg #[.int .i64 c.ar, .int .i64 c.ac]] W fun e w' => e = .returned (.bool true) ∧ Mod No W w')
    (hB : ∀ W, Mod No w W → Calls Try.prog 62 #[.pointer (some ⟨b, 0, none⟩), .agg #[.int .i64 c.tr, .int .i64 c.tc]] W fun e w' => e = .returned (.bool false) ∧ Mod No W w') :
    Calls Try.prog 52 #[.pointer (some ⟨b, 0, none⟩), .agg (cmdCells c), .int .i64 now] w fun e w' => e = .returned (refuse 5) ∧ Mod No w w' := by
  have HA := hide hA
  have HB := hide hB
  have M0 := hide ((Mod.refl No w).alloc (.cells (cmdCells c) 37))
  have B0 := hide (Has.new w (cmdCells c) 37)
  unfold cmdCells at M0 B0 ⊢
  rw [hk] at M0 B0 ⊢
  clear hA hB hk
  go_enter Try.func52, Try.ntmps52
  go_wp2_with fail
  refine ((unhide HA) _ (unhide M0)).mono ?_
  rintro e w1 ⟨rfl, m1⟩
  have cb := (m1.has (unhide B0) (fun x => x)).cell
  have M1 := hide ((unhide M0).trans m1)
  clear m1
  go_wp2_with fail
  refine ((unhide HB) _ (unhide M1)).mono ?_
  rintro e w2 ⟨rfl, m2⟩
  have M2 := hide ((unhide M1).trans m2)
  clear m2 cb
  go_wp2
  go_ret2
  exact ⟨rfl, unhide M2⟩

end Go.Proofs.Ytlcbemcamdafjaa
