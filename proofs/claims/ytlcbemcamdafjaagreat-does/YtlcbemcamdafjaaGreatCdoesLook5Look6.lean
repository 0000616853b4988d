import Derived.Test.YtlcbemcamdafjaaGreatCdoesLook3Look4
/- A seat is booked: looked over. -/
namespace Go.Proofs.YtlcbemcamdafjaaGreat
open Go.RowKit
open Go.ChangeMaps (setBlock)
open M
set_option linter.unusedVariables false
set_option linter.unusedSimpArgs false
set_option maxRecDepth 100000
set_option maxHeartbeats 2000000

def bookV (c : Cmd) (bu st pa cl sl : Int) : Value :=
  if bu ≠ 0 then refuse bu else if st = 1 ∧ pa = c.party ∧ cl = c.cls then grant (fillV c.ar c.ac 2 c.party c.cls 0) else if sl ≠ 0 then refuse sl else grant (fillV c.ar c.ac 2 c.party c.cls 0)

theorem book_walk (b m : Nat) (cs : Array Value) (c : Cmd) (bu sl st pa cl un : Int) (w : World) (h : Has w b cs 154) (h7 : cs[7]? = some (.map (some m))) (hs : Sees w m c.ar c.ac st pa cl un)
    (hB : ∀ W, Mod No w W → Calls Tryz.prog 98 #[.agg (cmdCells c)] W fun e w' => e = .returned (.int .i64 bu) ∧ Mod No W w')
    (hS : bu = 0 → ∀ W, Mod No w W → Calls Tryz.prog 99 #[.pointer (some ⟨b, 0, none⟩), .agg (cmdCells c)] W fun e w' => e = .returned (.int .i64 sl) ∧ Mod No W w') :
    Calls Tryz.prog 86 #[.pointer (some ⟨b, 0, none⟩), .agg (cmdCells c)] w fun e w' => e = .returned (bookV c bu st pa cl sl) ∧ Mod No w w' := by
  have HB := hide hB
  have HS := hide hS
  have HH := hide h
  have HL := hide hs
  have M0 := hide ((Mod.refl No w).alloc (.cells (cmdCells c) 41))
  have B0 := hide (Has.new w (cmdCells c) 41)
  unfold cmdCells at HB HS M0 B0 ⊢
  clear hB hS h hs
  by_cases h1 : bu = 0
  · have d1 : (bu != 0) = false := by simp [h1]
    have HBU := hide h1
    have HV := hide (show bookV c bu st pa cl sl = if st = 1 ∧ pa = c.party ∧ cl = c.cls then grant (fillV c.ar c.ac 2 c.party c.cls 0) else if sl ≠ 0 then refuse sl else grant (fillV c.ar c.ac 2 c.party c.cls 0) by unfold bookV; rw [if_neg (by simpa using h1)])
    clear h1
    go_enter Tryz.func86, Tryz.ntmps86
    go_wp2_with fail
    refine ((unhide HB) _ (unhide M0)).mono ?_
    rintro e w1 ⟨rfl, m1⟩
    have hb1 := m1.has (unhide B0) (fun x => x)
    have cb := hb1.cell
    have lb := hb1.lt
    have hx := ((unhide M0).trans m1).has (unhide HH) (fun x => x)
    have hlt := hx.lt
    have c7 := hx.cell 7
    rw [h7] at c7
    have hL := (unhide HL) w1.drew ((unhide M0).trans m1).drew
    have hLx := fun X => (unhide HL) (w1.alloc X).drew (((unhide M0).trans m1).alloc X).drew
    have M1 := hide ((unhide M0).trans m1)
    have B1 := hide hb1
    clear m1 hx hb1
    go_wp2_with fail
    go_cut [7] (fun s7 wx => s7 = .pointer (some ⟨w1.heap.size, 0, none⟩) ∧ Hid (Mod No w wx) ∧ Hid (Has wx w.heap.size (cmdCells c) 41) ∧ Hid (Has wx w1.heap.size #[.int .i64 st, .int .i64 pa, .int .i64 cl, .int .i64 un] 179))
    case first =>
      go_region
      all_goals go_wp2
      all_goals go_meet
      all_goals exact ⟨rfl, ((unhide M1).alloc _).drew, ((unhide B1).alloc _).drew, (Has.new w1 _ _).drew⟩
    case rest =>
      obtain ⟨rfl, hm, hb1, hb2⟩ := hcut
      have cb := (unhide hb2).cell
      have lb := (unhide hb2).lt
      have cb1 := (unhide hb1).cell
      unfold cmdCells at cb1
      clear hL hLx c7
      by_cases a1 : st = 1
      · have e1 : (st == 1) = true := by simp [a1]
        by_cases a2 : pa = c.party
        · have e2 : (pa == c.party) = true := by simp [a2]
          by_cases a3 : cl = c.cls
          · have e3 : (cl == c.cls) = true := by simp [a3]
            have HV2 := hide (show bookV c bu st pa cl sl = grant (fillV c.ar c.ac 2 c.party c.cls 0) by rw [unhide HV, if_pos ⟨a1, a2, a3⟩])
            clear a1 a2 a3
            go_wp2
            go_ret2
            exact ⟨by rw [unhide HV2]; rfl, unhide hm⟩
          · have e3 : (cl == c.cls) = false := by simp [a3]
            have HV2 := hide (show bookV c bu st pa cl sl = if sl ≠ 0 then refuse sl else grant (fillV c.ar c.ac 2 c.party c.cls 0) by rw [unhide HV, if_neg (fun h => a3 h.2.2)])
            clear a1 a2 a3
            go_wp2_with fail
            refine ((unhide HS) (unhide HBU) _ (unhide hm)).mono ?_
            rintro e w2 ⟨rfl, m2⟩
            have cb2 := (m2.has (unhide hb1) (fun x => x)).cell
            have M2 := hide ((unhide hm).trans m2)
            clear m2 cb1 cb
            unfold cmdCells at cb2
            by_cases h4 : sl = 0
            · have d4 : (sl != 0) = false := by simp [h4]
              have HV3 := hide (show bookV c bu st pa cl sl = grant (fillV c.ar c.ac 2 c.party c.cls 0) by rw [unhide HV2, if_neg (by simpa using h4)])
              clear h4
              go_wp2
              go_ret2
              exact ⟨by rw [unhide HV3]; rfl, unhide M2⟩
            · have d4 : (sl != 0) = true := by simp [h4]
              have HV3 := hide (show bookV c bu st pa cl sl = refuse sl by rw [unhide HV2, if_pos h4])
              clear h4
              go_wp2
              go_ret2
              exact ⟨by rw [unhide HV3]; rfl, unhide M2⟩
        · have e2 : (pa == c.party) = false := by simp [a2]
          have HV2 := hide (show bookV c bu st pa cl sl = if sl ≠ 0 then refuse sl else grant (fillV c.ar c.ac 2 c.party c.cls 0) by rw [unhide HV, if_neg (fun h => a2 h.2.1)])
          clear a1 a2
          go_wp2_with fail
          refine ((unhide HS) (unhide HBU) _ (unhide hm)).mono ?_
          rintro e w2 ⟨rfl, m2⟩
          have cb2 := (m2.has (unhide hb1) (fun x => x)).cell
          have M2 := hide ((unhide hm).trans m2)
          clear m2 cb1 cb
          unfold cmdCells at cb2
          by_cases h4 : sl = 0
          · have d4 : (sl != 0) = false := by simp [h4]
            have HV3 := hide (show bookV c bu st pa cl sl = grant (fillV c.ar c.ac 2 c.party c.cls 0) by rw [unhide HV2, if_neg (by simpa using h4)])
            clear h4
            go_wp2
            go_ret2
            exact ⟨by rw [unhide HV3]; rfl, unhide M2⟩
          · have d4 : (sl != 0) = true := by simp [h4]
            have HV3 := hide (show bookV c bu st pa cl sl = refuse sl by rw [unhide HV2, if_pos h4])
            clear h4
            go_wp2
            go_ret2
            exact ⟨by rw [unhide HV3]; rfl, unhide M2⟩
      · have e1 : (st == 1) = false := by simp [a1]
        have HV2 := hide (show bookV c bu st pa cl sl = if sl ≠ 0 then refuse sl else grant (fillV c.ar c.ac 2 c.party c.cls 0) by rw [unhide HV, if_neg (fun h => a1 h.1)])
        clear a1
        go_wp2_with fail
        refine ((unhide HS) (unhide HBU) _ (unhide hm)).mono ?_
        rintro e w2 ⟨rfl, m2⟩
        have cb2 := (m2.has (unhide hb1) (fun x => x)).cell
        have M2 := hide ((unhide hm).trans m2)
        clear m2 cb1 cb
        unfold cmdCells at cb2
        by_cases h4 : sl = 0
        · have d4 : (sl != 0) = false := by simp [h4]
          have HV3 := hide (show bookV c bu st pa cl sl = grant (fillV c.ar c.ac 2 c.party c.cls 0) by rw [unhide HV2, if_neg (by simpa using h4)])
          clear h4
          go_wp2
          go_ret2
          exact ⟨by rw [unhide HV3]; rfl, unhide M2⟩
        · have d4 : (sl != 0) = true := by simp [h4]
          have HV3 := hide (show bookV c bu st pa cl sl = refuse sl by rw [unhide HV2, if_pos h4])
          clear h4
          go_wp2
          go_ret2
          exact ⟨by rw [unhide HV3]; rfl, unhide M2⟩
  · have d1 : (bu != 0) = true := by simp [h1]
    have HV := hide (show bookV c bu st pa cl sl = refuse bu by unfold bookV; rw [if_pos h1])
    clear h1
    go_enter Tryz.func86, Tryz.ntmps86
    go_wp2_with fail
    refine ((unhide HB) _ (unhide M0)).mono ?_
    rintro e w1 ⟨rfl, m1⟩
    have M1 := hide ((unhide M0).trans m1)
    clear m1
    go_wp2
    go_ret2
    exact ⟨by rw [unhide HV]; rfl, unhide M1⟩
end Go.Proofs.YtlcbemcamdafjaaGreat
/- A command to a flight is looked over. -/
namespace Go.Proofs.YtlcbemcamdafjaaGreat
open Go.RowKit
open Go.ChangeMaps (setBlock)
open M
set_option linter.unusedVariables false
set_option linter.unusedSimpArgs false
set_option maxRecDepth 100000
set_option maxHeartbeats 2000000

theorem look_hold (b : Nat) (c : Cmd) (now : Int) (x y : Value) (hk : c.kind = 2) (w : World)
    (hA : ∀ W, Mod No w W → Calls Tryz.prog 84 #[.pointer (some ⟨b, 0, none⟩), .agg #[.int .i64 c.ar, .int .i64 c.ac]] W fun e w' => e = .returned (.bool true) ∧ Mod No W w')
    (hC : ∀ W, Mod No w W → Calls Tryz.prog 85 #[.pointer (some ⟨b, 0, none⟩), .agg (cmdCells c), .int .i64 now] W fun e w' => e = .returned (.tuple #[x, y]) ∧ Mod No W w') :
    Calls Tryz.prog 69 #[.pointer (some ⟨b, 0, none⟩), .agg (cmdCells c), .int .i64 now] w fun e w' => e = .returned (.tuple #[x, y]) ∧ Mod No w w' := by
  have HA := hide hA
  have HC := hide hC
  have M0 := hide ((Mod.refl No w).alloc (.cells (cmdCells c) 41))
  have B0 := hide (Has.new w (cmdCells c) 41)
  unfold cmdCells at HC M0 B0 ⊢
  rw [hk] at HC M0 B0 ⊢
  clear hA hC hk
  go_enter Tryz.func69, Tryz.ntmps69
  go_wp2_with fail
  refine ((unhide HA) _ (unhide M0)).mono ?_
  rintro e w1 ⟨rfl, m1⟩
  have cb := (m1.has (unhide B0) (fun x => x)).cell
  have M1 := hide ((unhide M0).trans m1)
  have B1 := hide (m1.has (unhide B0) (fun x => x))
  clear m1
  go_wp2_with fail
  refine ((unhide HC) _ (unhide M1)).mono ?_
  rintro e w3 ⟨rfl, m3⟩
  have M3 := hide ((unhide M1).trans m3)
  clear m3
  go_wp2
  go_ret2
  exact ⟨rfl, unhide M3⟩

theorem look_book (b : Nat) (c : Cmd) (now : Int) (x y : Value) (hk : c.kind = 3) (w : World)
    (hA : ∀ W, Mod No w W → Calls Tryz.prog 84 #[.pointer (some ⟨b, 0, none⟩), .agg #[.int .i64 c.ar, .int .i64 c.ac]] W fun e w' => e = .returned (.bool true) ∧ Mod No W w')
    (hC : ∀ W, Mod No w W → Calls Tryz.prog 86 #[.pointer (some ⟨b, 0, none⟩), .agg (cmdCells c)] W fun e w' => e = .returned (.tuple #[x, y]) ∧ Mod No W w') :
    Calls Tryz.prog 69 #[.pointer (some ⟨b, 0, none⟩), .agg (cmdCells c), .int .i64 now] w fun e w' => e = .returned (.tuple #[x, y]) ∧ Mod No w w' := by
  have HA := hide hA
  have HC := hide hC
  have M0 := hide ((Mod.refl No w).alloc (.cells (cmdCells c) 41))
  have B0 := hide (Has.new w (cmdCells c) 41)
  unfold cmdCells at HC M0 B0 ⊢
  rw [hk] at HC M0 B0 ⊢
  clear hA hC hk
  go_enter Tryz.func69, Tryz.ntmps69
  go_wp2_with fail
  refine ((unhide HA) _ (unhide M0)).mono ?_
  rintro e w1 ⟨rfl, m1⟩
  have cb := (m1.has (unhide B0) (fun x => x)).cell
  have M1 := hide ((unhide M0).trans m1)
  have B1 := hide (m1.has (unhide B0) (fun x => x))
  clear m1
  go_wp2_with fail
  refine ((unhide HC) _ (unhide M1)).mono ?_
  rintro e w3 ⟨rfl, m3⟩
  have M3 := hide ((unhide M1).trans m3)
  clear m3
  go_wp2
  go_ret2
  exact ⟨rfl, unhide M3⟩

theorem look_cancel (b : Nat) (c : Cmd) (now : Int) (x y : Value) (hk : c.kind = 4) (w : World)
    (hA : ∀ W, Mod No w W → Calls Tryz.prog 84 #[.pointer (some ⟨b, 0, none⟩), .agg #[.int .i64 c.ar, .int .i64 c.ac]] W fun e w' => e = .returned (.bool true) ∧ Mod No W w')
    (hC : ∀ W, Mod No w W → Calls Tryz.prog 87 #[.pointer (some ⟨b, 0, none⟩), .agg (cmdCells c)] W fun e w' => e = .returned (.tuple #[x, y]) ∧ Mod No W w') :
    Calls Tryz.prog 69 #[.pointer (some ⟨b, 0, none⟩), .agg (cmdCells c), .int .i64 now] w fun e w' => e = .returned (.tuple #[x, y]) ∧ Mod No w w' := by
  have HA := hide hA
  have HC := hide hC
  have M0 := hide ((Mod.refl No w).alloc (.cells (cmdCells c) 41))
  have B0 := hide (Has.new w (cmdCells c) 41)
  unfold cmdCells at HC M0 B0 ⊢
  rw [hk] at HC M0 B0 ⊢
  clear hA hC hk
  go_enter Tryz.func69, Tryz.ntmps69
  go_wp2_with fail
  refine ((unhide HA) _ (unhide M0)).mono ?_
  rintro e w1 ⟨rfl, m1⟩
  have cb := (m1.has (unhide B0) (fun x => x)).cell
  have M1 := hide ((unhide M0).trans m1)
  have B1 := hide (m1.has (unhide B0) (fun x => x))
  clear m1
  go_wp2_with fail
  refine ((unhide HC) _ (unhide M1)).mono ?_
  rintro e w3 ⟨rfl, m3⟩
  have M3 := hide ((unhide M1).trans m3)
  clear m3
  go_wp2
  go_ret2
  exact ⟨rfl, unhide M3⟩

theorem look_move (b : Nat) (c : Cmd) (now : Int) (x y : Value) (hk : c.kind = 5) (w : World)
    (hA : ∀ W, Mod No w W → Calls Tryz.prog 84 #[.pointer (some ⟨b, 0, none⟩), .agg #[.int .i64 c.ar, .int .i64 c.ac]] W fun e w' => e = .returned (.bool true) ∧ Mod No W w')
    (hB : ∀ W, Mod No w W → Calls Tryz.prog 84 #[.pointer (some ⟨b, 0, none⟩), .agg #[.int .i64 c.tr, .int .i64 c.tc]] W fun e w' => e = .returned (.bool true) ∧ Mod No W w')
    (hC : ∀ W, Mod No w W → Calls Tryz.prog 88 #[.pointer (some ⟨b, 0, none⟩), .agg (cmdCells c)] W fun e w' => e = .returned (.tuple #[x, y]) ∧ Mod No W w') :
    Calls Tryz.prog 69 #[.pointer (some ⟨b, 0, none⟩), .agg (cmdCells c), .int .i64 now] w fun e w' => e = .returned (.tuple #[x, y]) ∧ Mod No w w' := by
  have HA := hide hA
  have HC := hide hC
  have HB := hide hB
  have M0 := hide ((Mod.refl No w).alloc (.cells (cmdCells c) 41))
  have B0 := hide (Has.new w (cmdCells c) 41)
  unfold cmdCells at HC M0 B0 ⊢
  rw [hk] at HC M0 B0 ⊢
  clear hA hC hB hk
  go_enter Tryz.func69, Tryz.ntmps69
  go_wp2_with fail
  refine ((unhide HA) _ (unhide M0)).mono ?_
  rintro e w1 ⟨rfl, m1⟩
  have cb := (m1.has (unhide B0) (fun x => x)).cell
  have M1 := hide ((unhide M0).trans m1)
  have B1 := hide (m1.has (unhide B0) (fun x => x))
  clear m1
  go_wp2_with fail
  refine ((unhide HB) _ (unhide M1)).mono ?_
  rintro e w2 ⟨rfl, m2⟩
  have cb2 := (m2.has (unhide B1) (fun x => x)).cell
  have M2 := hide ((unhide M1).trans m2)
  clear m2 cb
  go_wp2_with fail
  refine ((unhide HC) _ (unhide M2)).mono ?_
  rintro e w3 ⟨rfl, m3⟩
  have M3 := hide ((unhide M2).trans m3)
  clear m3
  go_wp2
  go_ret2
  exact ⟨rfl, unhide M3⟩

theorem look_block (b : Nat) (c : Cmd) (now : Int) (x y : Value) (hk : c.kind = 6) (w : World)
    (hA : ∀ W, Mod No w W → Calls Tryz.prog 84 #[.pointer (some ⟨b, 0, none⟩), .agg #[.int .i64 c.ar, .int .i64 c.ac]] W fun e w' => e = .returned (.bool true) ∧ Mod No W w')
    (hC : ∀ W, Mod No w W → Calls Tryz.prog 89 #[.pointer (some ⟨b, 0, none⟩), .agg (cmdCells c)] W fun e w' => e = .returned (.tuple #[x, y]) ∧ Mod No W w') :
    Calls Tryz.prog 69 #[.pointer (some ⟨b, 0, none⟩), .agg (cmdCells c), .int .i64 now] w fun e w' => e = .returned (.tuple #[x, y]) ∧ Mod No w w' := by
  have HA := hide hA
  have HC := hide hC
  have M0 := hide ((Mod.refl No w).alloc (.cells (cmdCells c) 41))
  have B0 := hide (Has.new w (cmdCells c) 41)
  unfold cmdCells at HC M0 B0 ⊢
  rw [hk] at HC M0 B0 ⊢
  clear hA hC hk
  go_enter Tryz.func69, Tryz.ntmps69
  go_wp2_with fail
  refine ((unhide HA) _ (unhide M0)).mono ?_
  rintro e w1 ⟨rfl, m1⟩
  have cb := (m1.has (unhide B0) (fun x => x)).cell
  have M1 := hide ((unhide M0).trans m1)
  have B1 := hide (m1.has (unhide B0) (fun x => x))
  clear m1
  go_wp2_with fail
  refine ((unhide HC) _ (unhide M1)).mono ?_
  rintro e w3 ⟨rfl, m3⟩
  have M3 := hide ((unhide M1).trans m3)
  clear m3
  go_wp2
  go_ret2
  exact ⟨rfl, unhide M3⟩

theorem look_unblock (b : Nat) (c : Cmd) (now : Int) (x y : Value) (hk : c.kind = 7) (w : World)
    (hA : ∀ W, Mod No w W → Calls Tryz.prog 84 #[.pointer (some ⟨b, 0, none⟩), .agg #[.int .i64 c.ar, .int .i64 c.ac]] W fun e w' => e = .returned (.bool true) ∧ Mod No W w')
    (hC : ∀ W, Mod No w W → Calls Tryz.prog 90 #[.pointer (some ⟨b, 0, none⟩), .agg (cmdCells c)] W fun e w' => e = .returned (.tuple #[x, y]) ∧ Mod No W w') :
    Calls Tryz.prog 69 #[.pointer (some ⟨b, 0, none⟩), .agg (cmdCells c), .int .i64 now] w fun e w' => e = .returned (.tuple #[x, y]) ∧ Mod No w w' := by
  have HA := hide hA
  have HC := hide hC
  have M0 := hide ((Mod.refl No w).alloc (.cells (cmdCells c) 41))
  have B0 := hide (Has.new w (cmdCells c) 41)
  unfold cmdCells at HC M0 B0 ⊢
  rw [hk] at HC M0 B0 ⊢
  clear hA hC hk
  go_enter Tryz.func69, Tryz.ntmps69
  go_wp2_with fail
  refine ((unhide HA) _ (unhide M0)).mono ?_
  rintro e w1 ⟨rfl, m1⟩
  have cb := (m1.has (unhide B0) (fun x => x)).cell
  have M1 := hide ((unhide M0).trans m1)
  have B1 := hide (m1.has (unhide B0) (fun x => x))
  clear m1
  go_wp2_with fail
  refine ((unhide HC) _ (unhide M1)).mono ?_
  rintro e w3 ⟨rfl, m3⟩
  have M3 := hide ((unhide M1).trans m3)
  clear m3
  go_wp2
  go_ret2
  exact ⟨rfl, unhide M3⟩

theorem look_noAt (b : Nat) (c : Cmd) (now : Int) (w : World)
    (hA : ∀ W, Mod No w W → Calls Tryz.prog 84 #[.pointer (some ⟨b, 0, none⟩), .agg #[.int .i64 c.ar, .int .i64 c.ac]] W fun e w' => e = .returned (.bool false) ∧ Mod No W w') :
    (hk : c.kind ≠ 9) → Calls Tryz.prog 69 #[.pointer (some ⟨b, 0, none⟩), .agg (cmdCells c), .int .i64 now] w fun e w' => e = .returned (refuse 5) ∧ Mod No w w' := by
  intro hk
  have HA := hide hA
  have hd : (c.kind == 9) = false := by simp [hk]
  have M0 := hide ((Mod.refl No w).alloc (.cells (cmdCells c) 41))
  unfold cmdCells at M0 ⊢
  clear hA hk
  go_enter Tryz.func69, Tryz.ntmps69
  go_wp2_with fail
  refine ((unhide HA) _ (unhide M0)).mono ?_
  rintro e w1 ⟨rfl, m1⟩
  have M1 := hide ((unhide M0).trans m1)
  clear m1
  go_wp2
  go_ret2
  exact ⟨rfl, unhide M1⟩

theorem look_noTo (b : Nat) (c : Cmd) (now : Int) (hk : c.kind = 5) (w : World)
    (hA : ∀ W, Mod No w W → Calls Tryz.prog 84 #[.pointer (some ⟨b, 0, none⟩), .agg #[.int .i64 c.ar, .int .i64 c.ac]] W fun e w' => e = .returned (.bool true) ∧ Mod No W w')
    (hB : ∀ W, Mod No w W → Calls Tryz.prog 84 #[.pointer (some ⟨b, 0, none⟩), .agg #[.int .i64 c.tr, .int .i64 c.tc]] W fun e w' => e = .returned (.bool false) ∧ Mod No W w') :
    Calls Tryz.prog 69 #[.pointer (some ⟨b, 0, none⟩), .agg (cmdCells c), .int .i64 now] w fun e w' => e = .returned (refuse 5) ∧ Mod No w w' := by
  have HA := hide hA
  have HB := hide hB
  have M0 := hide ((Mod.refl No w).alloc (.cells (cmdCells c) 41))
  have B0 := hide (Has.new w (cmdCells c) 41)
  unfold cmdCells at M0 B0 ⊢
  rw [hk] at M0 B0 ⊢
  clear hA hB hk
  go_enter Tryz.func69, Tryz.ntmps69
  go_wp2_with fail
  refine ((unhide HA) _ (unhide M0)).mono ?_
  rintro e w1 ⟨rfl, m1⟩
  have cb := (m1.has (unhide B0) (fun x => x)).cell
  have M1 := hide ((unhide M0).trans m1)
  clear m1
  go_wp2_with fail
  refine ((unhide HB) _ (unhide M1)).mono ?_
  rintro e w2 ⟨rfl, m2⟩
  have M2 := hide ((unhide M1).trans m2)
  clear m2 cb
  go_wp2
  go_ret2
  exact ⟨rfl, unhide M2⟩

end Go.Proofs.YtlcbemcamdafjaaGreat
