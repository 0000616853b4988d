import Derived.Test.YthhibagcpjeihaaGPass2ToLook3
import Derived.Test.YthhibagcpjeihaaGStartToPass
import Derived.Test.YthhibagcpjeihaaGModelToMaps
import Derived.Test.YthhibagcpjeihaaGBaseToAppend
import Derived.Deep.MidRow
/- A command is looked over: the kinds of commands, further ones. -/
namespace Go.Proofs.Ythhibagcpjeihaa
open Go.RowKit
open Go.ChangeMaps (setBlock)
open M
set_option linter.unusedVariables false
set_option linter.unusedSimpArgs false
set_option maxRecDepth 100000
attribute [local go_sem] field171

/-- A seat in the flight's map, whatever has been added beside it. -/
theorem Sees.on {w w' : World} {m : Nat} {r c st pa cl un : Int} (h : Sees w m r c st pa cl un) (hm : Mod No w w') : Sees w' m r c st pa cl un := fun W hW => h W (hm.trans hW)

def cancelV (c : Cmd) (ow : Int) : Value := if ow ≠ 0 then refuse ow else grant (emptyV c.ar c.ac)

theorem cancel_walk (b : Nat) (c : Cmd) (ow : Int) (w : World)
    (hO : ∀ W, Mod No w W → Calls Try.prog 95 #[.pointer (some ⟨b, 0, none⟩), .agg (cmdCells c)] W fun e w' => e = .returned (.int .i64 ow) ∧ Mod No W w') :
    Calls Try.prog 80 #[.pointer (some ⟨b, 0, none⟩), .agg (cmdCells c)] w fun e w' => e = .returned (cancelV c ow) ∧ Mod No w w' := by
  have HO := hide hO
  have M0 := hide ((Mod.refl No w).alloc (.cells (cmdCells c) 37))
  have B0 := hide (Has.new w (cmdCells c) 37)
  unfold cmdCells at HO M0 B0 ⊢
  clear hO
  by_cases h1 : ow = 0
  · have d1 : (ow != 0) = false := by simp [h1]
    have HV := hide (show cancelV c ow = grant (emptyV c.ar c.ac) by unfold cancelV; rw [if_neg (by simpa using h1)])
    clear h1
    go_enter Try.func80, Try.ntmps80
    go_wp2_with fail
    refine ((unhide HO) _ (unhide M0)).mono ?_
    rintro e w1 ⟨rfl, m1⟩
    have cb := (m1.has (unhide B0) (fun x => x)).cell
    have M1 := hide ((unhide M0).trans m1)
    clear m1
    go_wp2
    go_ret2
    exact ⟨by rw [unhide HV]; rfl, unhide M1⟩
  · have d1 : (ow != 0) = true := by simp [h1]
    have HV := hide (show cancelV c ow = refuse ow by unfold cancelV; rw [if_pos h1])
    clear h1
    go_enter Try.func80, Try.ntmps80
    go_wp2_with fail
    refine ((unhide HO) _ (unhide M0)).mono ?_
    rintro e w1 ⟨rfl, m1⟩
    have M1 := hide ((unhide M0).trans m1)
    clear m1
    go_wp2
    go_ret2
    exact ⟨by rw [unhide HV]; rfl, unhide M1⟩

def moveV (c : Cmd) (ow st : Int) : Value := if ow ≠ 0 then refuse ow else if st ≠ 0 then refuse 9 else grant (shiftV c.ar c.ac c.tr c.tc)

theorem move_walk (b m : Nat) (cs : Array Value) (c : Cmd) (ow st pa cl un : Int) (w : World) (h : Has w b cs 138) (h7 : cs[7]? = some (.map (some m))) (hs : ow = 0 → Sees w m c.tr c.tc st pa cl un)
    (hO : ∀ W, Mod No w W → Calls Try.prog 95 #[.pointer (some ⟨b, 0, none⟩), .agg (cmdCells c)] W fun e w' => e = .returned (.int .i64 ow) ∧ Mod No W w') :
    Calls Try.prog 81 #[.pointer (some ⟨b, 0, none⟩), .agg (cmdCells c)] w fun e w' => e = .returned (moveV c ow st) ∧ Mod No w w' := by
  have HO := hide hO
  have HH := hide h
  have HL := hide hs
  have M0 := hide ((Mod.refl No w).alloc (.cells (cmdCells c) 37))
  have B0 := hide (Has.new w (cmdCells c) 37)
  unfold cmdCells at HO M0 B0 ⊢
  clear hO h hs
  by_cases h1 : ow = 0
  · have d1 : (ow != 0) = false := by simp [h1]
    have hs := unhide HL h1
    have HL := hide hs
    have HV := hide (show moveV c ow st = if st ≠ 0 then refuse 9 else grant (shiftV c.ar c.ac c.tr c.tc) by unfold moveV; rw [if_neg (by simpa using h1)])
    clear h1 hs
    go_enter Try.func81, Try.ntmps81
    go_wp2_with fail
    refine ((unhide HO) _ (unhide M0)).mono ?_
    rintro e w1 ⟨rfl, m1⟩
    have cb := (m1.has (unhide B0) (fun x => x)).cell
    have hx := ((unhide M0).trans m1).has (unhide HH) (fun x => x)
    have hlt := hx.lt
    have c7 := hx.cell 7
    rw [h7] at c7
    have hL := fun n => (unhide HL) (w1.drewN n) (((unhide M0).trans m1).drewN n)
    have M1 := hide ((unhide M0).trans m1)
    clear m1 hx
    by_cases h2 : st = 0
    · have d2 : (st != 0) = false := by simp [h2]
      have HV2 := hide (show moveV c ow st = grant (shiftV c.ar c.ac c.tr c.tc) by rw [unhide HV, if_neg (by simpa using h2)])
      clear h2
      go_wp2_with fail
      go_quiet (fail)
      go_wp2
      go_ret2
      exact ⟨by rw [unhide HV2]; rfl, (unhide M1).drewN _⟩
    · have d2 : (st != 0) = true := by simp [h2]
      have HV2 := hide (show moveV c ow st = refuse 9 by rw [unhide HV, if_pos h2])
      clear h2
      go_wp2_with fail
      go_quiet (fail)
      go_wp2
      go_ret2
      exact ⟨by rw [unhide HV2]; rfl, (unhide M1).drewN _⟩
  · have d1 : (ow != 0) = true := by simp [h1]
    have HV := hide (show moveV c ow st = refuse ow by unfold moveV; rw [if_pos h1])
    clear h1
    go_enter Try.func81, Try.ntmps81
    go_wp2_with fail
    refine ((unhide HO) _ (unhide M0)).mono ?_
    rintro e w1 ⟨rfl, m1⟩
    have M1 := hide ((unhide M0).trans m1)
    clear m1
    go_wp2
    go_ret2
    exact ⟨by rw [unhide HV]; rfl, unhide M1⟩

def blockV (c : Cmd) (st : Int) : Value := if st ≠ 0 then refuse 9 else grant (fillV c.ar c.ac 3 0 0 0)
def unblockV (c : Cmd) (st : Int) : Value := if st ≠ 3 then refuse 10 else grant (emptyV c.ar c.ac)

theorem block_walk (b m : Nat) (cs : Array Value) (c : Cmd) (st pa cl un : Int) (w : World) (h : Has w b cs 138) (h7 : cs[7]? = some (.map (some m))) (hs : Sees w m c.ar c.ac st pa cl un) :
    Calls Try.prog 82 #[.pointer (some ⟨b, 0, none⟩), .agg (cmdCells c)] w fun e w' => e = .returned (blockV c st) ∧ Mod No w w' := by
  have hlt := h.lt
  have c7 := h.cell 7
  rw [h7] at c7
  have hL := fun n => hs ((w.alloc (.cells (cmdCells c) 37)).drewN n) (((Mod.refl No w).alloc _).drewN n)
  have M0 := hide ((Mod.refl No w).alloc (.cells (cmdCells c) 37))
  unfold cmdCells at hL M0 ⊢
  clear h hs h7
  by_cases h2 : st = 0
  · have d2 : (st != 0) = false := by simp [h2]
    have HV2 := hide (show blockV c st = grant (fillV c.ar c.ac 3 0 0 0) by unfold blockV; rw [if_neg (by simpa using h2)])
    clear h2
    go_enter Try.func82, Try.ntmps82
    go_wp2_with fail
    go_quiet (fail)
    go_wp2
    go_ret2
    exact ⟨by rw [unhide HV2]; rfl, (unhide M0).drewN _⟩
  · have d2 : (st != 0) = true := by simp [h2]
    have HV2 := hide (show blockV c st = refuse 9 by unfold blockV; rw [if_pos h2])
    clear h2
    go_enter Try.func82, Try.ntmps82
    go_wp2_with fail
    go_quiet (fail)
    go_wp2
    go_ret2
    exact ⟨by rw [unhide HV2]; rfl, (unhide M0).drewN _⟩

theorem unblock_walk (b m : Nat) (cs : Array Value) (c : Cmd) (st pa cl un : Int) (w : World) (h : Has w b cs 138) (h7 : cs[7]? = some (.map (some m))) (hs : Sees w m c.ar c.ac st pa cl un) :
    Calls Try.prog 83 #[.pointer (some ⟨b, 0, none⟩), .agg (cmdCells c)] w fun e w' => e = .returned (unblockV c st) ∧ Mod No w w' := by
  have hlt := h.lt
  have c7 := h.cell 7
  rw [h7] at c7
  have hL := fun n => hs ((w.alloc (.cells (cmdCells c) 37)).drewN n) (((Mod.refl No w).alloc _).drewN n)
  have M0 := hide ((Mod.refl No w).alloc (.cells (cmdCells c) 37))
  unfold cmdCells at hL M0 ⊢
  clear h hs h7
  by_cases h2 : st = 3
  · have d2 : (st != 3) = false := by simp [h2]
    have HV2 := hide (show unblockV c st = grant (emptyV c.ar c.ac) by unfold unblockV; rw [if_neg (by simpa using h2)])
    clear h2
    go_enter Try.func83, Try.ntmps83
    go_wp2_with fail
    go_quiet (fail)
    go_wp2
    go_ret2
    exact ⟨by rw [unhide HV2]; rfl, (unhide M0).drewN _⟩
  · have d2 : (st != 3) = true := by simp [h2]
    have HV2 := hide (show unblockV c st = refuse 10 by unfold unblockV; rw [if_pos h2])
    clear h2
    go_enter Try.func83, Try.ntmps83
    go_wp2_with fail
    go_quiet (fail)
    go_wp2
    go_ret2
    exact ⟨by rw [unhide HV2]; rfl, (unhide M0).drewN _⟩
end Go.Proofs.Ythhibagcpjeihaa
/- A seat is booked: looked over. -/
namespace Go.Proofs.Ythhibagcpjeihaa
open Go.RowKit
open Go.ChangeMaps (setBlock)
open M
set_option linter.unusedVariables false
set_option linter.unusedSimpArgs false
set_option maxRecDepth 100000
set_option maxHeartbeats 2000000

def bookV (c : Cmd) (bu st pa cl sl : Int) : Value :=
  if bu ≠ 0 then refuse bu else if st = 1 ∧ pa = c.party ∧ cl = c.cls then grant (fillV c.ar c.ac 2 c.party c.cls 0) else if sl ≠ 0 then refuse sl else grant (fillV c.ar c.ac 2 c.party c.cls 0)

theorem book_walk (b m : Nat) (cs : Array Value) (c : Cmd) (bu sl st pa cl un : Int) (w : World) (h : Has w b cs 138) (h7 : cs[7]? = some (.map (some m))) (hs : Sees w m c.ar c.ac st pa cl un)
    (hB : ∀ W, Mod No w W → Calls Try.prog 93 #[.agg (cmdCells c)] W fun e w' => e = .returned (.int .i64 bu) ∧ Mod No W w')
    (hS : bu = 0 → ∀ W, Mod No w W → Calls Try.prog 94 #[.pointer (some ⟨b, 0, none⟩), .agg (cmdCells c)] W fun e w' => e = .returned (.int .i64 sl) ∧ Mod No W w') :
    Calls Try.prog 79 #[.pointer (some ⟨b, 0, none⟩), .agg (cmdCells c)] w fun e w' => e = .returned (bookV c bu st pa cl sl) ∧ Mod No w w' := by
  have HB := hide hB
  have HS := hide hS
  have HH := hide h
  have HL := hide hs
  have M0 := hide ((Mod.refl No w).alloc (.cells (cmdCells c) 37))
  have B0 := hide (Has.new w (cmdCells c) 37)
  unfold cmdCells at HB HS M0 B0 ⊢
  clear hB hS h hs
  by_cases h1 : bu = 0
  · have d1 : (bu != 0) = false := by simp [h1]
    have HBU := hide h1
    have HV := hide (show bookV c bu st pa cl sl = if st = 1 ∧ pa = c.party ∧ cl = c.cls then grant (fillV c.ar c.ac 2 c.party c.cls 0) else if sl ≠ 0 then refuse sl else grant (fillV c.ar c.ac 2 c.party c.cls 0) by unfold bookV; rw [if_neg (by simpa using h1)])
    clear h1
    go_enter Try.func79, Try.ntmps79
    go_wp2_with fail
    refine ((unhide HB) _ (unhide M0)).mono ?_
    rintro e w1 ⟨rfl, m1⟩
    have hb1 := m1.has (unhide B0) (fun x => x)
    have cb := hb1.cell
    have lb := hb1.lt
    have hx := ((unhide M0).trans m1).has (unhide HH) (fun x => x)
    have hlt := hx.lt
    have c7 := hx.cell 7
    rw [h7] at c7
    have hL := (unhide HL) w1.drew ((unhide M0).trans m1).drew
    have hLx := fun X => (unhide HL) (w1.alloc X).drew (((unhide M0).trans m1).alloc X).drew
    have M1 := hide ((unhide M0).trans m1)
    have B1 := hide hb1
    clear m1 hx hb1
    go_wp2_with fail
    go_cut [7] (fun s7 wx => s7 = .pointer (some ⟨w1.heap.size, 0, none⟩) ∧ Hid (Mod No w wx) ∧ Hid (Has wx w.heap.size (cmdCells c) 37) ∧ Hid (Has wx w1.heap.size #[.int .i64 st, .int .i64 pa, .int .i64 cl, .int .i64 un] 170))
    case first =>
      go_region
      all_goals go_wp2
      all_goals go_meet
      all_goals exact ⟨rfl, ((unhide M1).alloc _).drew, ((unhide B1).alloc _).drew, (Has.new w1 _ _).drew⟩
    case rest =>
      obtain ⟨rfl, hm, hb1, hb2⟩ := hcut
      have cb := (unhide hb2).cell
      have lb := (unhide hb2).lt
      have cb1 := (unhide hb1).cell
      unfold cmdCells at cb1
      clear hL hLx c7
      by_cases a1 : st = 1
      · have e1 : (st == 1) = true := by simp [a1]
        by_cases a2 : pa = c.party
        · have e2 : (pa == c.party) = true := by simp [a2]
          by_cases a3 : cl = c.cls
          · have e3 : (cl == c.cls) = true := by simp [a3]
            have HV2 := hide (show bookV c bu st pa cl sl = grant (fillV c.ar c.ac 2 c.party c.cls 0) by rw [unhide HV, if_pos ⟨a1, a2, a3⟩])
            clear a1 a2 a3
            go_wp2
            go_ret2
            exact ⟨by rw [unhide HV2]; rfl, unhide hm⟩
          · have e3 : (cl == c.cls) = false := by simp [a3]
            have HV2 := hide (show bookV c bu st pa cl sl = if sl ≠ 0 then refuse sl else grant (fillV c.ar c.ac 2 c.party c.cls 0) by rw [unhide HV, if_neg (fun h => a3 h.2.2)])
            clear a1 a2 a3
            go_wp2_with fail
            refine ((unhide HS) (unhide HBU) _ (unhide hm)).mono ?_
            rintro e w2 ⟨rfl, m2⟩
            have cb2 := (m2.has (unhide hb1) (fun x => x)).cell
            have M2 := hide ((unhide hm).trans m2)
            clear m2 cb1 cb
            unfold cmdCells at cb2
            by_cases h4 : sl = 0
            · have d4 : (sl != 0) = false := by simp [h4]
              have HV3 := hide (show bookV c bu st pa cl sl = grant (fillV c.ar c.ac 2 c.party c.cls 0) by rw [unhide HV2, if_neg (by simpa using h4)])
              clear h4
              go_wp2
              go_ret2
              exact ⟨by rw [unhide HV3]; rfl, unhide M2⟩
            · have d4 : (sl != 0) = true := by simp [h4]
              have HV3 := hide (show bookV c bu st pa cl sl = refuse sl by rw [unhide HV2, if_pos h4])
              clear h4
              go_wp2
              go_ret2
              exact ⟨by rw [unhide HV3]; rfl, unhide M2⟩
        · have e2 : (pa == c.party) = false := by simp [a2]
          have HV2 := hide (show bookV c bu st pa cl sl = if sl ≠ 0 then refuse sl else grant (fillV c.ar c.ac 2 c.party c.cls 0) by rw [unhide HV, if_neg (fun h => a2 h.2.1)])
          clear a1 a2
          go_wp2_with fail
          refine ((unhide HS) (unhide HBU) _ (unhide hm)).mono ?_
          rintro e w2 ⟨rfl, m2⟩
          have cb2 := (m2.has (unhide hb1) (fun x => x)).cell
          have M2 := hide ((unhide hm).trans m2)
          clear m2 cb1 cb
          unfold cmdCells at cb2
          by_cases h4 : sl = 0
          · have d4 : (sl != 0) = false := by simp [h4]
            have HV3 := hide (show bookV c bu st pa cl sl = grant (fillV c.ar c.ac 2 c.party c.cls 0) by rw [unhide HV2, if_neg (by simpa using h4)])
            clear h4
            go_wp2
            go_ret2
            exact ⟨by rw [unhide HV3]; rfl, unhide M2⟩
          · have d4 : (sl != 0) = true := by simp [h4]
            have HV3 := hide (show bookV c bu st pa cl sl = refuse sl by rw [unhide HV2, if_pos h4])
            clear h4
            go_wp2
            go_ret2
            exact ⟨by rw [unhide HV3]; rfl, unhide M2⟩
      · have e1 : (st == 1) = false := by simp [a1]
        have HV2 := hide (show bookV c bu st pa cl sl = if sl ≠ 0 then refuse sl else grant (fillV c.ar c.ac 2 c.party c.cls 0) by rw [unhide HV, if_neg (fun h => a1 h.1)])
        clear a1
        go_wp2_with fail
        refine ((unhide HS) (unhide HBU) _ (unhide hm)).mono ?_
        rintro e w2 ⟨rfl, m2⟩
        have cb2 := (m2.has (unhide hb1) (fun x => x)).cell
        have M2 := hide ((unhide hm).trans m2)
        clear m2 cb1 cb
        unfold cmdCells at cb2
        by_cases h4 : sl = 0
        · have d4 : (sl != 0) = false := by simp [h4]
          have HV3 := hide (show bookV c bu st pa cl sl = grant (fillV c.ar c.ac 2 c.party c.cls 0) by rw [unhide HV2, if_neg (by simpa using h4)])
          clear h4
          go_wp2
          go_ret2
          exact ⟨by rw [unhide HV3]; rfl, unhide M2⟩
        · have d4 : (sl != 0) = true := by simp [h4]
          have HV3 := hide (show bookV c bu st pa cl sl = refuse sl by rw [unhide HV2, if_pos h4])
          clear h4
          go_wp2
          go_ret2
          exact ⟨by rw [unhide HV3]; rfl, unhide M2⟩
  · have d1 : (bu != 0) = true := by simp [h1]
    have HV := hide (show bookV c bu st pa cl sl = refuse bu by unfold bookV; rw [if_pos h1])
    clear h1
    go_enter Try.func79, Try.ntmps79
    go_wp2_with fail
    refine ((unhide HB) _ (unhide M0)).mono ?_
    rintro e w1 ⟨rfl, m1⟩
    have M1 := hide ((unhide M0).trans m1)
    clear m1
    go_wp2
    go_ret2
    exact ⟨by rw [unhide HV]; rfl, unhide M1⟩
end Go.Proofs.Ythhibagcpjeihaa
/- A flight more: looked over. -/
namespace Go.Proofs.Ythhibagcpjeihaa
open Go.RowKit
open Go.ChangeMaps (setBlock)
open M
set_option linter.unusedVariables false
set_option linter.unusedSimpArgs false
set_option maxRecDepth 100000
set_option maxHeartbeats 2000000

def addV (p : Pla) : Value := if p.sized = true ∧ p.limited = true then grant (startV p) else refuse 4

theorem lookAdd_walk (p : Pla) (w : World) :
    Calls Try.prog 59 #[plaV p] w fun e w' => e = .returned (addV p) ∧ Mod No w w' := by
  have HA := hide fun W => shape_any p W
  have HB := hide fun W => limits_any p.l0 p.l1 p.l2 p.l3 W
  have hl : p.limited = decide (0 ≤ p.l0 ∧ p.l0 ≤ 200 ∧ 0 ≤ p.l1 ∧ p.l1 ≤ p.l0 ∧ 0 ≤ p.l2 ∧ p.l2 ≤ p.l1 ∧ 0 ≤ p.l3 ∧ p.l3 ≤ p.l2) := rfl
  rw [← hl] at HB
  clear hl
  have HV := hide (show ∀ s m, p.sized = s → p.limited = m → addV p = if s = true ∧ m = true then grant (startV p) else refuse 4 by rintro s m rfl rfl; rfl)
  unfold plaV at HA ⊢
  obtain ⟨s, hs⟩ : ∃ s, p.sized = s := ⟨_, rfl⟩
  obtain ⟨m, hm⟩ : ∃ m, p.limited = m := ⟨_, rfl⟩
  rw [hs] at HA
  rw [hm] at HB
  have M0 := hide ((Mod.refl No w).alloc (.cells #[.int .i64 p.rows, .int .i64 p.cols, .int .i64 p.front, .int .i64 p.l0, .int .i64 p.l1, .int .i64 p.l2, .int .i64 p.l3] 35))
  have B0 := hide (Has.new w #[.int .i64 p.rows, .int .i64 p.cols, .int .i64 p.front, .int .i64 p.l0, .int .i64 p.l1, .int .i64 p.l2, .int .i64 p.l3] 35)
  have HV2 := hide ((unhide HV) s m hs hm)
  clear hs hm HV
  cases s with
  | false =>
    go_enter Try.func59, Try.ntmps59
    go_wp2_with fail
    refine ((unhide HA) _).mono ?_
    rintro e w1 ⟨rfl, m1⟩
    have M1 := hide ((unhide M0).trans m1)
    clear m1
    go_wp2
    go_ret2
    exact ⟨by rw [unhide HV2, if_neg (by simp)]; rfl, unhide M1⟩
  | true =>
    go_enter Try.func59, Try.ntmps59
    go_wp2_with fail
    refine ((unhide HA) _).mono ?_
    rintro e w1 ⟨rfl, m1⟩
    have cb := (m1.has (unhide B0) (fun x => x)).cell
    have M1 := hide ((unhide M0).trans m1)
    have B1 := hide (m1.has (unhide B0) (fun x => x))
    clear m1
    go_wp2_with fail
    refine ((unhide HB) _).mono ?_
    rintro e w2 ⟨rfl, m2⟩
    have cb2 := (m2.has (unhide B1) (fun x => x)).cell
    have M2 := hide ((unhide M1).trans m2)
    clear m2 cb
    cases m with
    | true =>
      go_wp2
      go_ret2
      exact ⟨by rw [unhide HV2, if_pos (by simp)]; rfl, unhide M2⟩
    | false =>
      go_wp2
      go_ret2
      exact ⟨by rw [unhide HV2, if_neg (by simp)]; rfl, unhide M2⟩
end Go.Proofs.Ythhibagcpjeihaa
/- Another plane for a flight is looked over. -/
namespace Go.Proofs.Ythhibagcpjeihaa
open Go.RowKit
open Go.ChangeMaps (setBlock)
open M
set_option linter.unusedVariables false
set_option linter.unusedSimpArgs false
set_option maxRecDepth 100000
set_option maxHeartbeats 2000000

def refitV (q : Pla) : Value := .iface 182 (.agg #[.int .i64 q.rows, .int .i64 q.cols, .int .i64 q.front])
def swapV (q : Pla) (n : Nat) : Value := if q.sized = true ∧ ¬ (q.rows * q.cols < (n : Int)) then grant (refitV q) else refuse 4

theorem run_len (w : World) (m clock : Nat) (l : List MEnt) (hm : w.heap[m]? = some (mapObj l clock)) (ty : TypeId) :
    (Builtin.len_ #[136] ty #[.map (some m)]).run Try.prog w = .ok (.int .i64 (l.length : Nat)) w := by
  unfold mapObj at hm
  have hg : (getObj m).run Try.prog w = .ok (.map (l.map MEnt.obj).toArray clock) w := by simp [getObj, Sem.run, hm]
  simp [Builtin.len_, run_underlying Try.underlying136, hg, goInt]

theorem lookSwap_walk (b m : Nat) (cs : Array Value) (q : Pla) (n : Nat) (w : World) (h : Has w b cs 138) (h7 : cs[7]? = some (.map (some m)))
    (hlen : ∀ W, Mod No w W → ∀ ty, (Builtin.len_ #[136] ty #[.map (some m)]).run Try.prog W = .ok (.int .i64 (n : Nat)) W)
    (hrc : q.sized = true → IntKind.i64.wrap (q.rows * q.cols) = q.rows * q.cols) :
    Calls Try.prog 76 #[.pointer (some ⟨b, 0, none⟩), plaV q] w fun e w' => e = .returned (swapV q n) ∧ Mod No w w' := by
  have HA := hide fun W => shape_any q W
  have HV := hide (show ∀ s, q.sized = s → swapV q n = if s = true ∧ ¬ (q.rows * q.cols < (n : Int)) then grant (refitV q) else refuse 4 by rintro s rfl; rfl)
  unfold plaV at HA ⊢
  obtain ⟨s, hs⟩ : ∃ s, q.sized = s := ⟨_, rfl⟩
  rw [hs] at HA hrc
  have HV2 := hide ((unhide HV) s hs)
  have HB := hide h
  have M0 := hide ((Mod.refl No w).alloc (.cells #[.int .i64 q.rows, .int .i64 q.cols, .int .i64 q.front, .int .i64 q.l0, .int .i64 q.l1, .int .i64 q.l2, .int .i64 q.l3] 35))
  have B0 := hide (Has.new w #[.int .i64 q.rows, .int .i64 q.cols, .int .i64 q.front, .int .i64 q.l0, .int .i64 q.l1, .int .i64 q.l2, .int .i64 q.l3] 35)
  have HL := hide hlen
  have hlt := h.lt
  clear hs HV hlen h
  have hb : ∀ (x : Wd (w.alloc (.cells #[.int .i64 q.rows, .int .i64 q.cols, .int .i64 q.front, .int .i64 q.l0, .int .i64 q.l1, .int .i64 q.l2, .int .i64 q.l3] 35))) (o : Nat), x.W.cell? ⟨w.heap.size, o, none⟩ = _ := (unhide B0).wd
  have h7 : ∀ x : Wd (w.alloc (.cells #[.int .i64 q.rows, .int .i64 q.cols, .int .i64 q.front, .int .i64 q.l0, .int .i64 q.l1, .int .i64 q.l2, .int .i64 q.l3] 35)), x.W.cell? ⟨b, 7, none⟩ = some (.map (some m)) := fun x => by
    rw [((unhide M0).has (unhide HB) (fun x => x)).wd x 7, h7]
  have hL : ∀ (x : Wd (w.alloc (.cells #[.int .i64 q.rows, .int .i64 q.cols, .int .i64 q.front, .int .i64 q.l0, .int .i64 q.l1, .int .i64 q.l2, .int .i64 q.l3] 35))) ty, (Builtin.len_ #[136] ty #[.map (some m)]).run Try.prog x.W = .ok (.int .i64 (n : Nat)) x.W := fun x ty => (unhide HL) _ ((unhide M0).trans x.h) ty
  have hne := wd_ne (w.alloc (.cells #[.int .i64 q.rows, .int .i64 q.cols, .int .i64 q.front, .int .i64 q.l0, .int .i64 q.l1, .int .i64 q.l2, .int .i64 q.l3] 35))
  cases s with
  | false =>
    clear hrc h7 hL
    go_enter Try.func76, Try.ntmps76
    go_wp2_with fail
    refine wp_region_wd (w0 := (w.alloc (.cells #[.int .i64 q.rows, .int .i64 q.cols, .int .i64 q.front, .int .i64 q.l0, .int .i64 q.l1, .int .i64 q.l2, .int .i64 q.l3] 35))) (by kernel_rfl) (by kernel_rfl) (Mod.refl _ _) ?_
    repeat (go_big_quiet_step ((go_at_call 74; exact Calls.wd _ ((unhide HA) _))))
    refine wpQuiet_nil ?_
    rintro w3 ⟨⟨_, hm3⟩, rfl⟩
    go_wp2
    go_ret2
    exact ⟨by rw [unhide HV2, if_neg (by simp)]; rfl, (unhide M0).trans hm3⟩
  | true =>
    have hrc := hrc rfl
    by_cases hd : q.rows * q.cols < (n : Int)
    · have HD := hide hd
      go_enter Try.func76, Try.ntmps76
      go_wp2_with fail
      refine wp_region_wd (w0 := (w.alloc (.cells #[.int .i64 q.rows, .int .i64 q.cols, .int .i64 q.front, .int .i64 q.l0, .int .i64 q.l1, .int .i64 q.l2, .int .i64 q.l3] 35))) (by kernel_rfl) (by kernel_rfl) (Mod.refl _ _) ?_
      repeat (go_big_quiet_step ((go_at_call 74; exact Calls.wd _ ((unhide HA) _))))
      refine wpQuiet_nil ?_
      rintro w3 ⟨⟨_, hm3⟩, rfl⟩
      go_wp2
      go_ret2
      exact ⟨by rw [unhide HV2, if_neg (by have := unhide HD; omega)]; rfl, (unhide M0).trans hm3⟩
    · have HD := hide hd
      have BX := hide fun (w3 : World) (hm3 : Mod No (w.alloc (.cells #[.int .i64 q.rows, .int .i64 q.cols, .int .i64 q.front, .int .i64 q.l0, .int .i64 q.l1, .int .i64 q.l2, .int .i64 q.l3] 35)) w3) => (hm3.has (unhide B0) (fun x => x))
      go_enter Try.func76, Try.ntmps76
      go_wp2_with fail
      refine wp_region_wd (w0 := (w.alloc (.cells #[.int .i64 q.rows, .int .i64 q.cols, .int .i64 q.front, .int .i64 q.l0, .int .i64 q.l1, .int .i64 q.l2, .int .i64 q.l3] 35))) (by kernel_rfl) (by kernel_rfl) (Mod.refl _ _) ?_
      repeat (go_big_quiet_step ((go_at_call 74; exact Calls.wd _ ((unhide HA) _))))
      refine wpQuiet_nil ?_
      rintro w3 ⟨⟨_, hm3⟩, rfl⟩
      have cb3 := ((unhide BX) w3 hm3).cell
      go_wp2
      go_ret2
      exact ⟨by rw [unhide HV2, if_pos (by have := unhide HD; simp; omega)]; rfl, (unhide M0).trans hm3⟩

theorem look_swap (b : Nat) (c : Cmd) (now : Int) (x y : Value) (hk : c.kind = 9) (w : World)
    (hS : ∀ W, Mod No w W → Calls Try.prog 76 #[.pointer (some ⟨b, 0, none⟩), plaV c.pla] W fun e w' => e = .returned (.tuple #[x, y]) ∧ Mod No W w') :
    Calls Try.prog 60 #[.pointer (some ⟨b, 0, none⟩), .agg (cmdCells c), .int .i64 now] w fun e w' => e = .returned (.tuple #[x, y]) ∧ Mod No w w' := by
  have HS := hide hS
  have M0 := hide ((Mod.refl No w).alloc (.cells (cmdCells c) 37))
  unfold cmdCells at M0 ⊢
  unfold plaV at HS
  rw [hk] at M0 ⊢
  clear hk hS
  go_enter Try.func60, Try.ntmps60
  go_wp2_with fail
  refine ((unhide HS) _ (unhide M0)).mono ?_
  rintro e w1 ⟨rfl, m1⟩
  have M1 := hide ((unhide M0).trans m1)
  clear m1
  go_wp2
  go_ret2
  exact ⟨rfl, unhide M1⟩
end Go.Proofs.Ythhibagcpjeihaa
/- Another plane: who stays is laid. -/
namespace Go.Proofs.Ythhibagcpjeihaa
open Go.RowKit Go.WideMaps
open Go.ChangeMaps (setBlock)
open M
set_option linter.unusedVariables false
set_option linter.unusedSimpArgs false
set_option maxRecDepth 100000
set_option maxHeartbeats 4000000

theorem run_lookup2 (w : World) (m : Nat) (l : List MEnt) (clock : Nat) (hm : w.heap[m]? = some (mapObj l clock)) (hl : MapOk l clock) (r c : Int) (hr : 0 ≤ r ∧ r ≤ 1000) (hc : 0 ≤ c ∧ c ≤ 1000) :
    (Instr.lookup 136 (.map (some m)) (kv r c) true).run Try.prog w = .ok (.tuple #[sv (lookE l r c).1 (lookE l r c).2.1 (lookE l r c).2.2.1 (lookE l r c).2.2.2, .bool (l.findIdx? (MEnt.is r c)).isSome]) w := by
  obtain ⟨lx, hx⟩ := key30 r c hr hc
  have h1 := fun em => law30.check w em hx
  have h2 := run_find w l clock hl r c hr hc
  unfold mapObj at hm
  have hg : (getObj m).run Try.prog w = .ok (.map (l.map MEnt.obj).toArray clock) w := by simp [getObj, Sem.run, hm]
  have hs : ∀ o, (setObj m o).run Try.prog w = .ok () (setBlock w m o) := fun o => by simp [setObj, Sem.run, hm, setBlock]
  rw [lookE, find?_idx]
  cases hf : l.findIdx? (MEnt.is r c) with
  | none =>
    rw [hf] at h2
    simp [Instr.lookup, run_underlying Try.underlying136, hg, h1, h2, zero171, sv]
  | some j =>
    have hj := (List.findIdx?_eq_some_iff_getElem.1 hf).1
    rw [hf] at h2
    simp [hj] at h2
    simp [Instr.lookup, run_underlying Try.underlying136, hg, h1, h2, zero171, hj]

/-- What a look-up tells of a seat, and whether there is an entry. -/
def Sees2 (w : World) (m : Nat) (r c st pa cl un : Int) : Prop :=
  ∀ W, Mod No w W → (Instr.lookup 136 (.map (some m)) (.agg #[.int .i64 r, .int .i64 c]) true).run Try.prog W = .ok (.tuple #[.agg #[.int .i64 st, .int .i64 pa, .int .i64 cl, .int .i64 un], .bool (st != 0)]) W

theorem sees2 {w : World} {m clock : Nat} {p : Pla} {l : List Sea} {es : List MEnt} (hm : w.heap[m]? = some (mapObj es clock)) (hok : MapOk es clock) (hrel : MapRel es p l) (hwf : Wf p l) (i : Nat) (hi : i < l.length) :
    Sees2 w m l[i].row l[i].col l[i].st l[i].pa l[i].cl l[i].un := fun W hW => by
  have hplace := (hwf.place_has hi).1
  simp only [Pla.has, decide_eq_true_eq] at hplace
  obtain ⟨B1, B2, B3, B4, _⟩ := hwf.bounds
  simp only at B1 B2 B3 B4
  have := run_lookup2 W m es clock (hW.map hm (fun x => x)) hok l[i].row l[i].col (by omega) (by omega)
  rw [hrel.seat i hi, found_iff hrel hi] at this
  exact this

def seL (s : Sea) : List Value := [.int .i64 s.st, .int .i64 s.pa, .int .i64 s.cl, .int .i64 s.un]
theorem seL_len (s : Sea) : (seL s).length = 4 := rfl
theorem infoSe : (Try.prog.info? 170).map (fun i => (i.zero, i.size, i.bytes)) = some (some (.agg #[.int .i64 0, .int .i64 0, .int .i64 0, .int .i64 0]), 4, 32) := by kernel_rfl

/-- What stands while the seats are settled: the first i have been. -/
structure SetI (w wr : World) (b m m' clock : Nat) (p Q : Pla) (l : List Sea) (es : List MEnt) (v : Value) (i : Nat) : Prop where
  fl : ∃ es' clock', FlX wr b Q (stay Q (l.take i)) m' es' clock'
  old : wr.heap[m]? = some (mapObj es clock)
  box : Has wr w.heap.size (fcells p (.map (some m)) l) 138
  row : wr.ownsRow 0 170 4 v (homeless Q (l.take i)).length ((homeless Q (l.take i)).flatMap seL)
  new : ∀ k, v.ownBlock = some k → w.heap.size < k
  mod : Mod (fun k => k = b ∨ k = m') w wr

theorem SetI.still {w wr w2 : World} {b m m' clock : Nat} {p Q : Pla} {l : List Sea} {es : List MEnt} {v : Value} {i : Nat} (h : SetI w wr b m m' clock p Q l es v i) (hm : Mod No wr w2) : SetI w w2 b m m' clock p Q l es v i := by
  obtain ⟨es', clock', hf⟩ := h.fl
  exact ⟨⟨es', clock', hm.has hf.has (fun x => x), hm.map hf.map (fun x => x), hf.ok, hf.rel⟩, hm.map h.old (fun x => x), hm.has h.box (fun x => x), hm.owns h.row (fun _ _ x => x), h.new, h.mod.trans (hm.mono (fun _ _ x => x.elim))⟩

theorem SetI.free {w wr : World} {b m m' clock : Nat} {p Q : Pla} {l : List Sea} {es : List MEnt} {v : Value} {i : Nat} (h : SetI w wr b m m' clock p Q l es v i) (hi : i < l.length) (h0 : l[i].st = 0) : SetI w wr b m m' clock p Q l es v (i + 1) := by
  have e1 : stay Q (l.take (i + 1)) = stay Q (l.take i) := by rw [stay_take Q l i hi]; unfold stayStep; rw [if_neg (by simp [h0])]
  have e2 : homeless Q (l.take (i + 1)) = homeless Q (l.take i) := by rw [homeless_take Q l i hi, if_neg (by simp [h0]), List.append_nil]
  exact ⟨by rw [e1]; exact h.fl, h.old, h.box, by rw [e2]; exact h.row, h.new, h.mod⟩

theorem settle_walk (b m m' clock clock0 : Nat) (p Q : Pla) (l : List Sea) (es es0 : List MEnt) (w : World) (h : FlX w b Q (emptySeats Q) m' es0 clock0) (hm : w.heap[m]? = some (mapObj es clock)) (hok : MapOk es clock) (hrel : MapRel es p l)
    (hwf : Wf p l) (h1 : Q.sized = true) (h2 : Q.limited = true) (hmm : m ≠ m') :
    Calls Try.prog 136 #[.pointer (some ⟨b, 0, none⟩), .agg (fcells p (.map (some m)) l)] w fun e w' =>
      ∃ v, e = .returned v ∧ SetI w w' b m m' clock p Q l es v l.length := by
  have hbm := h.has.map_ne hm
  have hlt := h.has.lt
  have hlm := (Array.getElem?_eq_some_iff.1 hm).1
  have hlm' := (Array.getElem?_eq_some_iff.1 h.map).1
  have hB := hwf.bounds
  simp only at hB
  have hlen := hwf.len
  simp only at hlen
  have hl120 : l.length ≤ 120 := Fli.wf.len_le hwf
  have hwz : IntKind.i64.wrap (p.rows * p.cols) = p.rows * p.cols := wrap_id _ (by omega) (by omega)
  have HS := hide fun W (hW : Has W w.heap.size (fcells p (.map (some m)) l) 138) => size_walk w.heap.size _ _ p.rows p.cols W hW rfl rfl hwz
  rw [← hlen] at HS
  obtain ⟨C, hC⟩ : ∃ C : Nat, p.cols = (C : Int) := ⟨p.cols.toNat, by omega⟩
  have HP := hide fun W (hW : Has W w.heap.size (fcells p (.map (some m)) l) 138) (i : Nat) (hi : i < l.length) => (show Calls Try.prog 68 #[.pointer (some ⟨w.heap.size, 0, none⟩), .int .i64 (i : Int)] W fun e w' => e = .returned (.agg #[.int .i64 l[i].row, .int .i64 l[i].col]) ∧ Mod No W w' from by
    have := placeAt_walk w.heap.size _ _ C i W hW (by rw [← hC]; rfl) (by omega) (by omega)
    have hp := hwf.place i hi
    simp only at hp
    rw [hp.1, hp.2, hC]
    exact this)
  have S0 : SetI w (w.alloc (.cells (fcells p (.map (some m)) l) 138)) b m m' clock p Q l es (.slice none 0 0) 0 := by
    have mA : Mod No w (w.alloc (.cells (fcells p (.map (some m)) l) 138)) := (Mod.refl _ w).alloc _
    refine ⟨⟨es0, clock0, mA.has h.has (fun x => x), mA.map h.map (fun x => x), h.ok, h.rel⟩, mA.map hm (fun x => x), Has.new w _ _, ?_, fun k hk => by simp [Value.ownBlock] at hk, mA.mono (fun _ _ x => x.elim)⟩
    simpa [homeless] using World.ownsRow_nil _ _ _ _
  have S0 := hide S0
  -- a round, but for the walk
  have HSEE := hide fun (wr : World) (v : Value) (i : Nat) (hS : SetI w wr b m m' clock p Q l es v i) (hi : i < l.length) => sees2 hS.old hok hrel hwf i hi
  have HHAS := hide fun (wr : World) (v : Value) (i : Nat) (hS : SetI w wr b m m' clock p Q l es v i) (r c : Int) (W : World) (hW : Mod No wr W) => (show Calls Try.prog 77 #[.pointer (some ⟨b, 0, none⟩), .agg #[.int .i64 r, .int .i64 c]] W fun e w' => e = .returned (.bool (Q.has r c)) ∧ Mod No W w' from by
    obtain ⟨es', clock', hf⟩ := hS.fl
    exact has_walk b r c Q.rows Q.cols _ W (hW.has hf.has (fun x => x)) rfl rfl)
  have HPUT := hide fun (wr : World) (v : Value) (i : Nat) (hS : SetI w wr b m m' clock p Q l es v i) (hi : i < l.length) (h0 : l[i].st ≠ 0) (hh : Q.has l[i].row l[i].col = true) => (show Calls Try.prog 102 #[.pointer (some ⟨b, 0, none⟩), .agg #[.int .i64 l[i].row, .int .i64 l[i].col], .agg #[.int .i64 l[i].st, .int .i64 l[i].pa, .int .i64 l[i].cl, .int .i64 l[i].un]] wr fun e w' => e = .returned (.tuple #[]) ∧ SetI w w' b m m' clock p Q l es v (i + 1) ∧ (homeless Q (l.take (i + 1))).length = (homeless Q (l.take i)).length from by
    obtain ⟨es', clock', hf⟩ := hS.fl
    have hst := stayed_take hwf h1 h2 i (by omega)
    obtain ⟨hj, f0, fr, fc⟩ := hst.free hwf hi hh
    refine (put_exact hf hst.wf _ hj l[i] (hwf.seat _ (List.getElem_mem hi)) fr.symm fc.symm).mono ?_
    rintro e w' ⟨rfl, hf', hm'⟩
    have e1 : stay Q (l.take (i + 1)) = (stay Q (l.take i)).set (Q.idx l[i].row l[i].col) l[i] := by rw [stay_take Q l i hi]; unfold stayStep; rw [if_pos ⟨h0, hh⟩]
    have e2 : homeless Q (l.take (i + 1)) = homeless Q (l.take i) := by rw [homeless_take Q l i hi, if_neg (by simp [hh]), List.append_nil]
    have hml := (Array.getElem?_eq_some_iff.1 hS.old).1
    refine ⟨rfl, ⟨⟨_, _, by rw [e1]; exact hf'⟩, hm'.map hS.old (by rintro (e | e); exact hbm e; exact hmm e), hm'.has hS.box (by rintro (e | e) <;> omega), ?_, hS.new, hS.mod.trans hm'⟩, by rw [e2]⟩
    rw [e2]
    exact hm'.owns hS.row (fun k hk => by have := hS.new k hk; rintro (e | e) <;> omega))
  have HAPP := hide fun (wr w3 : World) (v v' : Value) (i : Nat) (hS : SetI w wr b m m' clock p Q l es v i) (o : Obj) (hi : i < l.length) (h0 : l[i].st ≠ 0) (hh : ¬ Q.has l[i].row l[i].col = true)
      (ho : w3.ownsRow 0 170 4 v' ((homeless Q (l.take i)).length + 1) (((homeless Q (l.take i)).flatMap seL) ++ [.int .i64 l[i].st, .int .i64 l[i].pa, .int .i64 l[i].cl, .int .i64 l[i].un])) (hg : (wr.alloc o).grownBy w3 v.ownBlock) (hst : Stays (wr.alloc o) v v') =>
    (show SetI w w3 b m m' clock p Q l es v' (i + 1) ∧ (homeless Q (l.take (i + 1))).length = (homeless Q (l.take i)).length + 1 from by
      obtain ⟨es', clock', hf⟩ := hS.fl
      have e1 : stay Q (l.take (i + 1)) = stay Q (l.take i) := by rw [stay_take Q l i hi]; unfold stayStep; rw [if_neg (fun x => hh x.2)]
      have e2 : homeless Q (l.take (i + 1)) = homeless Q (l.take i) ++ [l[i]] := by rw [homeless_take Q l i hi, if_pos ⟨h0, hh⟩]
      have hm1 : Mod (fun k => w.heap.size < k) wr w3 := ((Mod.refl _ wr).alloc o).grown hg (fun k hk => .inl (hS.new k hk))
      refine ⟨⟨⟨es', clock', hm1.has (by rw [e1]; exact hf.has) (by omega), hm1.map hf.map (by omega), hf.ok, by rw [e1]; exact hf.rel⟩, hm1.map hS.old (by omega), hm1.has hS.box (by omega), ?_, fun k hk => ?_, hS.mod.trans' hm1 (fun i hi hl => by omega)⟩, by rw [e2]; simp⟩
      · rw [e2, List.length_append, List.flatMap_append]
        simpa [seL] using ho
      · rcases hst k hk with h1 | h1
        · exact hS.new k h1
        · have := hS.box.lt
          simp at h1
          omega)
  have HFREE := hide fun (wr : World) (v : Value) (i : Nat) (hS : SetI w wr b m m' clock p Q l es v i) (hi : i < l.length) (h0 : l[i].st = 0) => (show SetI w wr b m m' clock p Q l es v (i + 1) ∧ (homeless Q (l.take (i + 1))).length = (homeless Q (l.take i)).length from ⟨hS.free hi h0, by rw [homeless_take Q l i hi, if_neg (by simp [h0]), List.append_nil]⟩)
  clear h hm hok hrel hwf hB hC h1 h2 hwz hlen
  obtain ⟨iSe, q0, q1, q2, q3⟩ := info_parts infoSe
  unfold fcells fcf fcs at S0 HS HP ⊢
  go_enter Try.func136, Try.ntmps136
  go_wp2_with fail
  refine ((unhide HS) _ (unhide S0).box).mono ?_
  rintro e w1 ⟨rfl, m1⟩
  have S1 := hide ((unhide S0).still m1)
  clear S0 m1 HS
  go_wp2_with fail
  have HLEN := hide hl120
  go_loopw [5, 11] (fun s5 s11 wr => ∃ (i : Nat) (a : Option Addr) (cp : Nat), s11 = .int .i64 (i : Int) ∧ i ≤ l.length ∧ s5 = .slice a (homeless Q (l.take i)).length cp ∧ Hid (SetI w wr b m m' clock p Q l es (.slice a (homeless Q (l.take i)).length cp) i)) (fun _ s11 _ => l.length - (intOf s11).toNat)
  case atStart => exact ⟨0, none, 0, rfl, by omega, by simp [homeless], by simpa [homeless] using S1⟩
  case round =>
    obtain ⟨i, a, cp, rfl, hi, rfl, E1⟩ := hrel
    clear S1
    by_cases h1 : i < l.length
    · have h1i : (i : Int) < (l.length : Int) := by omega
      have hw3 : IntKind.i64.wrap ((i : Int) + 1) = ((i + 1 : Nat) : Int) := by rw [wrap_id _ (by omega) (by omega)]; rfl
      have hPL := (unhide HP) _ (unhide E1).box i h1
      have hSE := (unhide HSEE) _ _ i (unhide E1) h1
      have hHA := (unhide HHAS) _ _ i (unhide E1)
      have hPU := fun W (hW : Mod No wr W) => (unhide HPUT) W _ i ((unhide E1).still hW) h1
      have hFR := (unhide HFREE)
      have hAP := fun W (hW : Mod No wr W) (w3 : World) v' o => (unhide HAPP) W w3 _ v' i ((unhide E1).still hW) o h1
      have hml : (homeless Q (l.take i)).length ≤ 120 := by
        have : (homeless Q (l.take i)).length ≤ (l.take i).length := List.length_filter_le _ _
        rw [List.length_take] at this
        omega
      have hFR := fun W (hW : Mod No wr W) => (unhide HFREE) W _ i ((unhide E1).still hW) h1
      generalize hs : l[i] = s at *
      obtain ⟨r, c, st, pa, cl, un⟩ := s
      simp only at hPL hSE hHA hPU hAP hFR
      have GP := hide hPL
      have GS := hide hSE
      have GH := hide (hHA r c)
      have GU := hide hPU
      have GA := hide hAP
      have GF := hide hFR
      have HI := hide hi
      have HH1 := hide h1
      clear hPL hSE hHA hPU hAP hFR hs h1 hi hl120
      have bl := (unhide E1).box.lt
      go_wp2_with fail
      refine (unhide GP).mono ?_
      rintro e w1 ⟨rfl, m1⟩
      have M1 := hide m1
      clear m1
      have mA := hide (((unhide M1).alloc (.cells #[.int .i64 r, .int .i64 c] 32)))
      have bx := ((unhide mA).has (unhide E1).box (fun x => x)).cell 7
      rw [show (fcells p (.map (some m)) l)[7]? = some (.map (some m)) from rfl] at bx
      have bl := ((unhide mA).has (unhide E1).box (fun x => x)).lt
      have hlk := (unhide GS) _ (unhide mA)
      have nA := Has.new w1 #[.int .i64 r, .int .i64 c] 32
      have NA := hide nA
      have cA := nA.cell
      clear nA
      have mB := hide (((unhide mA).alloc (.cells #[.int .i64 st, .int .i64 pa, .int .i64 cl, .int .i64 un] 170)))
      by_cases h0 : st = 0
      · have HZ := hide h0
        subst h0
        go_wp2_with fail
        obtain ⟨e9, l9⟩ := (unhide GF) _ (unhide mB) (by trivial)
        exact ⟨⟨i + 1, a, cp, by trivial, by have := unhide HH1; omega, by rw [l9], by rw [l9]; exact e9⟩, by simp [intOf]; have := unhide HH1; omega⟩
      · have HZ := hide h0
        have hnz : (st != 0) = true := by simp [h0]
        rw [hnz] at hlk
        clear h0
        by_cases hq : Q.has r c = true
        · rw [hq] at GH
          have HQ := hide hq
          go_wp2_with fail
          refine ((unhide GH) _ (unhide mB)).mono ?_
          rintro e w2 ⟨rfl, m2⟩
          have cA2 := (m2.has ((unhide NA).alloc (.cells #[.int .i64 st, .int .i64 pa, .int .i64 cl, .int .i64 un] 170)) (fun x => x)).cell
          have nB := Has.new (w1.alloc (.cells #[.int .i64 r, .int .i64 c] 32)) #[.int .i64 st, .int .i64 pa, .int .i64 cl, .int .i64 un] 170
          rw [World.size_alloc] at nB
          have cB2 := (m2.has nB (fun x => x)).cell
          have M2 := hide ((unhide mB).trans m2)
          clear m2 nB cA
          go_wp2_with fail
          refine ((unhide GU) _ (unhide M2) (unhide HZ) (unhide HQ)).mono ?_
          rintro e w3 ⟨rfl, e9, l9⟩
          have E9 := hide e9
          have L9 := hide l9
          clear e9 l9 cA2 cB2
          go_wp2
          exact ⟨⟨i + 1, a, cp, by trivial, by have := unhide HH1; omega, by rw [unhide L9], by rw [unhide L9]; exact unhide E9⟩, by simp [intOf]; have := unhide HH1; omega⟩
        · have HQ := hide hq
          have hq' : Q.has r c = false := by simpa using hq
          rw [hq'] at GH
          clear hq
          go_wp2_with fail
          refine ((unhide GH) _ (unhide mB)).mono ?_
          rintro e w2 ⟨rfl, m2⟩
          have nB := Has.new (w1.alloc (.cells #[.int .i64 r, .int .i64 c] 32)) #[.int .i64 st, .int .i64 pa, .int .i64 cl, .int .i64 un] 170
          rw [World.size_alloc] at nB
          have cB2 := (m2.has nB (fun x => x)).cell
          have M2 := hide ((unhide mB).trans m2)
          clear m2 nB cA
          have hlA := List.length_filter_le (fun s : Sea => s.st != 0 && !Q.has s.row s.col) (l.take i)
          have E2 := (unhide E1).still (unhide M2)
          have HO := hide (((Mod.refl No w2).alloc (.cells #[.int .i64 st, .int .i64 pa, .int .i64 cl, .int .i64 un] 170)).owns E2.row (fun _ _ x => x))
          have HRD := hide (show Reads (w2.alloc (.cells #[.int .i64 st, .int .i64 pa, .int .i64 cl, .int .i64 un] 170)) (.slice (some ⟨w2.heap.size, 0, none⟩) 1 1) 1 [.int .i64 st, .int .i64 pa, .int .i64 cl, .int .i64 un] from
            .inr ⟨⟨w2.heap.size, 0, none⟩, 1, rfl, fun j u hu => by
              rw [Addr.add_mid, Nat.zero_add, (Has.new w2 #[.int .i64 st, .int .i64 pa, .int .i64 cl, .int .i64 un] 170).cell, ← Array.getElem?_toList]
              exact hu⟩)
          have G2 := hide fun w3 v' => (unhide GA) _ (unhide M2) w3 v' (.cells #[.int .i64 st, .int .i64 pa, .int .i64 cl, .int .i64 un] 170) (unhide HZ) (unhide HQ)
          have hml : (homeless Q (l.take i)).length ≤ 120 := Nat.le_trans hlA (by rw [List.length_take]; have := unhide HLEN; omega)
          clear hlA E2
          go_wp2_with (first | (at_builtin; refine wpList_append_row rfl (.tmp 36) (.tmp 38) 228 rfl 170 iSe _ 4 32 Try.underlying228 q0 q1 q2 q3 rfl (by decide) (.slice a (homeless Q (l.take i)).length cp) (homeless Q (l.take i)).length _ (by simp [Act.eval]) (by exact unhide HO) (.slice (some ⟨w2.heap.size, 0, none⟩) 1 1) 1 [.int .i64 st, .int .i64 pa, .int .i64 cl, .int .i64 un] (by simp [Act.eval]) (by exact unhide HRD) rfl (by intro u hu; simp at hu; rcases hu with rfl | rfl | rfl | rfl <;> rfl) (by unfold maxLen; omega) (by omega) ?_; intro v' w3 ho3 hg3 hs3; obtain ⟨a3, c3, rfl⟩ := slice_of_owns ho3))
          obtain ⟨e9, l9⟩ := (unhide G2) _ _ ho3 hg3 hs3
          exact ⟨⟨i + 1, a3, c3, by trivial, by have := unhide HH1; omega, by rw [l9], by rw [l9]; exact e9⟩, by simp [intOf]; have := unhide HH1; omega⟩
    · have hii : i = l.length := by omega
      subst hii
      have h1i : ¬ ((l.length : Nat) : Int) < (l.length : Int) := by omega
      go_wp2
      go_ret
      exact ⟨.slice a (homeless Q l).length cp, rfl, by simpa only [List.take_length] using unhide E1⟩
end Go.Proofs.Ythhibagcpjeihaa
