import Derived.Test.YtgemhmhlcaojcaaLook3
/- A command is looked over: the kinds of commands, further ones. -/
namespace Go.Proofs.Ytgemhmhlcaojcaa
open Go.RowKit
open Go.ChangeMaps (setBlock)
open M
set_option linter.unusedVariables false
set_option linter.unusedSimpArgs false
set_option maxRecDepth 100000
attribute [local go_sem] field171

/-- A seat in the flight's map, whatever has been added beside it. -/
theorem Sees.on {w w' : World} {m : Nat} {r c st pa cl un : Int} (h : Sees w m r c st pa cl un) (hm : Mod No w w') : Sees w' m r c st pa cl un := fun W hW => h W (hm.trans hW)

def cancelV (c : Cmd) (ow : Int) : Value := if ow ≠ 0 then refuse ow else grant (emptyV c.ar c.ac)

theorem cancel_walk (b : Nat) (c : Cmd) (ow : Int) (w : World)
    (hO : ∀ W, Mod No w W → Calls Try.prog 68 #[.pointer (some ⟨b, 0, none⟩), .agg (cmdCells c)] W fun e w' => e = .returned (.int .i64 ow) ∧ Mod No W w') :
    Calls Try.prog 60 #[.pointer (some ⟨b, 0, none⟩), .agg (cmdCells c)] w fun e w' => e = .returned (cancelV c ow) ∧ Mod No w w' := by
  have HO := hide hO
  have M0 := hide ((Mod.refl No w).alloc (.cells (cmdCells c) 37))
  have B0 := hide (Has.new w (cmdCells c) 37)
  unfold cmdCells at HO M0 B0 ⊢
  clear hO
  by_cases h1 : ow = 0
  · have d1 : (ow != 0) = false := by simp [h1]
    have HV := hide (show cancelV c ow = grant (emptyV c.ar c.ac) by unfold cancelV; rw [if_neg (by simpa using h1)])
    clear h1
    go_enter Try.func60, Try.ntmps60
    go_wp2_with fail
    refine ((unhide HO) _ (unhide M0)).mono ?_
    rintro e w1 ⟨rfl, m1⟩
    have cb := (m1.has (unhide B0) (fun x => x)).cell
    have M1 := hide ((unhide M0).trans m1)
    clear m1
    go_wp2
    go_ret2
    exact ⟨by rw [unhide HV]; rfl, unhide M1⟩
  · have d1 : (ow != 0) = true := by simp [h1]
    have HV := hide (show cancelV c ow = refuse ow by unfold cancelV; rw [if_pos h1])
    clear h1
    go_enter Try.func60, Try.ntmps60
    go_wp2_with fail
    refine ((unhide HO) _ (unhide M0)).mono ?_
    rintro e w1 ⟨rfl, m1⟩
    have M1 := hide ((unhide M0).trans m1)
    clear m1
    go_wp2
    go_ret2
    exact ⟨by rw [unhide HV]; rfl, unhide M1⟩

def moveV (c : Cmd) (ow st : Int) : Value := if ow ≠ 0 then refuse ow else if st ≠ 0 then refuse 9 else grant (shiftV c.ar c.ac c.tr c.tc)

theorem move_walk (b m : Nat) (cs : Array Value) (c : Cmd) (ow st pa cl un : Int) (w : World) (h : Has w b cs 104) (h7 : cs[7]? = some (.map (some m))) (hs : ow = 0 → Sees w m c.tr c.tc st pa cl un)
    (hO : ∀ W, Mod No w W → Calls Try.prog 68 #[.pointer (some ⟨b, 0, none⟩), .agg (cmdCells c)] W fun e w' => e = .returned (.int .i64 ow) ∧ Mod No W w') :
    Calls Try.prog 61 #[.pointer (some ⟨b, 0, none⟩), .agg (cmdCells c)] w fun e w' => e = .returned (moveV c ow st) ∧ Mod No w w' := by
  have HO := hide hO
  have HH := hide h
  have HL := hide hs
  have M0 := hide ((Mod.refl No w).alloc (.cells (cmdCells c) 37))
  have B0 := hide (Has.new w (cmdCells c) 37)
  unfold cmdCells at HO M0 B0 ⊢
  clear hO h hs
  by_cases h1 : ow = 0
  · have d1 : (ow != 0) = false := by simp [h1]
    have hs := unhide HL h1
    have HL := hide hs
    have HV := hide (show moveV c ow st = if st ≠ 0 then refuse 9 else grant (shiftV c.ar c.ac c.tr c.tc) by unfold moveV; rw [if_neg (by simpa using h1)])
    clear h1 hs
    go_enter Try.func61, Try.ntmps61
    go_wp2_with fail
    refine ((unhide HO) _ (unhide M0)).mono ?_
    rintro e w1 ⟨rfl, m1⟩
    have cb := (m1.has (unhide B0) (fun x => x)).cell
    have hx := ((unhide M0).trans m1).has (unhide HH) (fun x => x)
    have hlt := hx.lt
    have c7 := hx.cell 7
    rw [h7] at c7
    have hL := fun n => (unhide HL) (w1.drewN n) (((unhide M0).trans m1).drewN n)
    have M1 := hide ((unhide M0).trans m1)
    clear m1 hx
    by_cases h2 : st = 0
    · have d2 : (st != 0) = false := by simp [h2]
      have HV2 := hide (show moveV c ow st = grant (shiftV c.ar c.ac c.tr c.tc) by rw [unhide HV, if_neg (by simpa using h2)])
      clear h2
      go_wp2_with fail
      go_quiet (fail)
      go_wp2
      go_ret2
      exact ⟨by rw [unhide HV2]; rfl, (unhide M1).drewN _⟩
    · have d2 : (st != 0) = true := by simp [h2]
      have HV2 := hide (show moveV c ow st = refuse 9 by rw [unhide HV, if_pos h2])
      clear h2
      go_wp2_with fail
      go_quiet (fail)
      go_wp2
      go_ret2
      exact ⟨by rw [unhide HV2]; rfl, (unhide M1).drewN _⟩
  · have d1 : (ow != 0) = true := by simp [h1]
    have HV := hide (show moveV c ow st = refuse ow by unfold moveV; rw [if_pos h1])
    clear h1
    go_enter Try.func61, Try.ntmps61
    go_wp2_with fail
    refine ((unhide HO) _ (unhide M0)).mono ?_
    rintro e w1 ⟨rfl, m1⟩
    have M1 := hide ((unhide M0).trans m1)
    clear m1
    go_wp2
    go_ret2
    exact ⟨by rw [unhide HV]; rfl, unhide M1⟩

def blockV (c : Cmd) (st : Int) : Value := if st ≠ 0 then refuse 9 else grant (fillV c.ar c.ac 3 0 0 0)
def unblockV (c : Cmd) (st : Int) : Value := if st ≠ 3 then refuse 10 else grant (emptyV c.ar c.ac)

theorem block_walk (b m : Nat) (cs : Array Value) (c : Cmd) (st pa cl un : Int) (w : World) (h : Has w b cs 104) (h7 : cs[7]? = some (.map (some m))) (hs : Sees w m c.ar c.ac st pa cl un) :
    Calls Try.prog 62 #[.pointer (some ⟨b, 0, none⟩), .agg (cmdCells c)] w fun e w' => e = .returned (blockV c st) ∧ Mod No w w' := by
  have hlt := h.lt
  have c7 := h.cell 7
  rw [h7] at c7
  have hL := fun n => hs ((w.alloc (.cells (cmdCells c) 37)).drewN n) (((Mod.refl No w).alloc _).drewN n)
  have M0 := hide ((Mod.refl No w).alloc (.cells (cmdCells c) 37))
  unfold cmdCells at hL M0 ⊢
  clear h hs h7
  by_cases h2 : st = 0
  · have d2 : (st != 0) = false := by simp [h2]
    have HV2 := hide (show blockV c st = grant (fillV c.ar c.ac 3 0 0 0) by unfold blockV; rw [if_neg (by simpa using h2)])
    clear h2
    go_enter Try.func62, Try.ntmps62
    go_wp2_with fail
    go_quiet (fail)
    go_wp2
    go_ret2
    exact ⟨by rw [unhide HV2]; rfl, (unhide M0).drewN _⟩
  · have d2 : (st != 0) = true := by simp [h2]
    have HV2 := hide (show blockV c st = refuse 9 by unfold blockV; rw [if_pos h2])
    clear h2
    go_enter Try.func62, Try.ntmps62
    go_wp2_with fail
    go_quiet (fail)
    go_wp2
    go_ret2
    exact ⟨by rw [unhide HV2]; rfl, (unhide M0).drewN _⟩

theorem unblock_walk (b m : Nat) (cs : Array Value) (c : Cmd) (st pa cl un : Int) (w : World) (h : Has w b cs 104) (h7 : cs[7]? = some (.map (some m))) (hs : Sees w m c.ar c.ac st pa cl un) :
    Calls Try.prog 63 #[.pointer (some ⟨b, 0, none⟩), .agg (cmdCells c)] w fun e w' => e = .returned (unblockV c st) ∧ Mod No w w' := by
  have hlt := h.lt
  have c7 := h.cell 7
  rw [h7] at c7
  have hL := fun n => hs ((w.alloc (.cells (cmdCells c) 37)).drewN n) (((Mod.refl No w).alloc _).drewN n)
  have M0 := hide ((Mod.refl No w).alloc (.cells (cmdCells c) 37))
  unfold cmdCells at hL M0 ⊢
  clear h hs h7
  by_cases h2 : st = 3
  · have d2 : (st != 3) = false := by simp [h2]
    have HV2 := hide (show unblockV c st = grant (emptyV c.ar c.ac) by unfold unblockV; rw [if_neg (by simpa using h2)])
    clear h2
    go_enter Try.func63, Try.ntmps63
    go_wp2_with fail
    go_quiet (fail)
    go_wp2
    go_ret2
    exact ⟨by rw [unhide HV2]; rfl, (unhide M0).drewN _⟩
  · have d2 : (st != 3) = true := by simp [h2]
    have HV2 := hide (show unblockV c st = refuse 10 by unfold unblockV; rw [if_pos h2])
    clear h2
    go_enter Try.func63, Try.ntmps63
    go_wp2_with fail
    go_quiet (fail)
    go_wp2
    go_ret2
    exact ⟨by rw [unhide HV2]; rfl, (unhide M0).drewN _⟩
end Go.Proofs.Ytgemhmhlcaojcaa
