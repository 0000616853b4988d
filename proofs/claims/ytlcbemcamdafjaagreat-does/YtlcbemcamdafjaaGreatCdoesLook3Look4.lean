import Derived.Test.YtlcbemcamdafjaaGreatCdoesLook1Look2
/- A command is looked over: the kinds of commands. -/
namespace Go.Proofs.YtlcbemcamdafjaaGreat
open Go.RowKit
open Go.ChangeMaps (setBlock)
open M
set_option linter.unusedVariables false
set_option linter.unusedSimpArgs false
set_option maxRecDepth 100000

def refuse (e : Int) : Value := .tuple #[.nilIface, .int .i64 e]
def grant (v : Value) : Value := .tuple #[v, .int .i64 0]
def fillV (r c st pa cl un : Int) : Value := .iface 181 (.agg #[.int .i64 r, .int .i64 c, .int .i64 st, .int .i64 pa, .int .i64 cl, .int .i64 un])
def emptyV (r c : Int) : Value := .iface 183 (.agg #[.int .i64 r, .int .i64 c])
def shiftV (r c r' c' : Int) : Value := .iface 185 (.agg #[.int .i64 r, .int .i64 c, .int .i64 r', .int .i64 c'])
def startV (p : Pla) : Value := .iface 169 (plaV p)
def passV (n : Int) : Value := .iface 149 (.agg #[.int .i64 n])

attribute [local go_sem] field171

theorem has_walk (b : Nat) (r c rows cols : Int) (cs : Array Value) (w : World) (h : Has w b cs 154) (h0 : cs[0]? = some (.int .i64 rows)) (h1 : cs[1]? = some (.int .i64 cols)) :
    Calls Tryz.prog 84 #[.pointer (some ⟨b, 0, none⟩), .agg #[.int .i64 r, .int .i64 c]] w fun e w' => e = .returned (.bool (decide (1 ≤ r ∧ r ≤ rows ∧ 1 ≤ c ∧ c ≤ cols))) ∧ Mod No w w' := by
  have hlt := h.lt
  have c0 := h.cell 0
  rw [h0] at c0
  have c1 := h.cell 1
  rw [h1] at c1
  have MW := hide (fun n => ((Mod.refl No w).alloc (.cells #[.int .i64 r, .int .i64 c] 36)).drewN n)
  clear h h0 h1
  by_cases a1 : r ≥ 1
  · have d1 : decide (r ≥ 1) = true := decide_eq_true a1
    by_cases a2 : r ≤ rows
    · by_cases a3 : c ≥ 1
      · by_cases a4 : c ≤ cols
        · have HS := hide (show decide (1 ≤ r ∧ r ≤ rows ∧ 1 ≤ c ∧ c ≤ cols) = true by simp; omega)
          go_enter Tryz.func84, Tryz.ntmps84
          go_wp2_with fail
          go_quiet (fail)
          go_wp2
          go_ret
          exact ⟨by rw [unhide HS]; rfl, (unhide MW) _⟩
        · have d4 : decide (c ≤ cols) = false := decide_eq_false a4
          have HS := hide (show decide (1 ≤ r ∧ r ≤ rows ∧ 1 ≤ c ∧ c ≤ cols) = false by simp; omega)
          go_enter Tryz.func84, Tryz.ntmps84
          go_wp2_with fail
          go_quiet (fail)
          go_wp2
          go_ret
          exact ⟨by rw [unhide HS]; rfl, (unhide MW) _⟩
      · have d4 : decide (c ≥ 1) = false := decide_eq_false a3
        have d5 : decide (1 ≤ c) = false := decide_eq_false a3
        have HS := hide (show decide (1 ≤ r ∧ r ≤ rows ∧ 1 ≤ c ∧ c ≤ cols) = false by simp; omega)
        go_enter Tryz.func84, Tryz.ntmps84
        go_wp2_with fail
        go_quiet (fail)
        go_wp2
        go_ret
        exact ⟨by rw [unhide HS]; rfl, (unhide MW) _⟩
    · have d4 : decide (r ≤ rows) = false := decide_eq_false a2
      have HS := hide (show decide (1 ≤ r ∧ r ≤ rows ∧ 1 ≤ c ∧ c ≤ cols) = false by simp; omega)
      go_enter Tryz.func84, Tryz.ntmps84
      go_wp2_with fail
      go_quiet (fail)
      go_wp2
      go_ret
      exact ⟨by rw [unhide HS]; rfl, (unhide MW) _⟩
  · have d4 : decide (r ≥ 1) = false := decide_eq_false a1
    have d5 : decide (1 ≤ r) = false := decide_eq_false a1
    have HS := hide (show decide (1 ≤ r ∧ r ≤ rows ∧ 1 ≤ c ∧ c ≤ cols) = false by simp; omega)
    go_enter Tryz.func84, Tryz.ntmps84
    go_wp2_with fail
    go_quiet (fail)
    go_wp2
    go_ret
    exact ⟨by rw [unhide HS]; rfl, (unhide MW) _⟩

def holdV (c : Cmd) (now bu sl : Int) : Value :=
  if bu ≠ 0 then refuse bu else if c.time ≤ now ∨ c.time > now + 100 then refuse 8 else if sl ≠ 0 then refuse sl else grant (fillV c.ar c.ac 1 c.party c.cls c.time)

theorem hold_walk (b : Nat) (c : Cmd) (now bu sl : Int) (hn : 0 ≤ now ∧ now ≤ 4611686018427387000) (w : World)
    (hB : ∀ W, Mod No w W → Calls Tryz.prog 98 #[.agg (cmdCells c)] W fun e w' => e = .returned (.int .i64 bu) ∧ Mod No W w')
    (hS : bu = 0 → ∀ W, Mod No w W → Calls Tryz.prog 99 #[.pointer (some ⟨b, 0, none⟩), .agg (cmdCells c)] W fun e w' => e = .returned (.int .i64 sl) ∧ Mod No W w') :
    Calls Tryz.prog 85 #[.pointer (some ⟨b, 0, none⟩), .agg (cmdCells c), .int .i64 now] w fun e w' => e = .returned (holdV c now bu sl) ∧ Mod No w w' := by
  have hw : IntKind.i64.wrap (now + 100) = now + 100 := wrap_id _ (by omega) (by omega)
  have HB := hide hB
  have HS := hide hS
  have M0 := hide ((Mod.refl No w).alloc (.cells (cmdCells c) 41))
  have B0 := hide (Has.new w (cmdCells c) 41)
  unfold cmdCells at HB HS M0 B0 ⊢
  clear hB hS
  by_cases h1 : bu = 0
  · have d1 : (bu != 0) = false := by simp [h1]
    have HBU := hide h1
    clear h1
    by_cases h2 : c.time ≤ now
    · have HV := hide (show holdV c now bu sl = refuse 8 by unfold holdV; rw [if_neg (by simpa using unhide HBU), if_pos (.inl h2)])
      go_enter Tryz.func85, Tryz.ntmps85
      go_wp2_with fail
      refine ((unhide HB) _ (unhide M0)).mono ?_
      rintro e w1 ⟨rfl, m1⟩
      have cb := (m1.has (unhide B0) (fun x => x)).cell
      have M1 := hide ((unhide M0).trans m1)
      clear m1
      go_wp2
      go_ret2
      exact ⟨by rw [unhide HV]; rfl, unhide M1⟩
    · by_cases h3 : c.time > now + 100
      · have HV := hide (show holdV c now bu sl = refuse 8 by unfold holdV; rw [if_neg (by simpa using unhide HBU), if_pos (.inr h3)])
        go_enter Tryz.func85, Tryz.ntmps85
        go_wp2_with fail
        refine ((unhide HB) _ (unhide M0)).mono ?_
        rintro e w1 ⟨rfl, m1⟩
        have cb := (m1.has (unhide B0) (fun x => x)).cell
        have M1 := hide ((unhide M0).trans m1)
        clear m1
        go_wp2
        go_ret2
        exact ⟨by rw [unhide HV]; rfl, unhide M1⟩
      · have HV := hide (show holdV c now bu sl = if sl ≠ 0 then refuse sl else grant (fillV c.ar c.ac 1 c.party c.cls c.time) by unfold holdV; rw [if_neg (by simpa using unhide HBU), if_neg (by omega)])
        go_enter Tryz.func85, Tryz.ntmps85
        go_wp2_with fail
        refine ((unhide HB) _ (unhide M0)).mono ?_
        rintro e w1 ⟨rfl, m1⟩
        have cb := (m1.has (unhide B0) (fun x => x)).cell
        have M1 := hide ((unhide M0).trans m1)
        have B1 := hide (m1.has (unhide B0) (fun x => x))
        clear m1
        go_wp2_with fail
        refine ((unhide HS) (unhide HBU) _ (unhide M1)).mono ?_
        rintro e w2 ⟨rfl, m2⟩
        have cb2 := (m2.has (unhide B1) (fun x => x)).cell
        have M2 := hide ((unhide M1).trans m2)
        clear m2 cb
        by_cases h4 : sl = 0
        · have d4 : (sl != 0) = false := by simp [h4]
          have HV2 := hide (show holdV c now bu sl = grant (fillV c.ar c.ac 1 c.party c.cls c.time) by rw [unhide HV, if_neg (by simpa using h4)])
          clear h4
          go_wp2
          go_ret2
          exact ⟨by rw [unhide HV2]; rfl, unhide M2⟩
        · have d4 : (sl != 0) = true := by simp [h4]
          have HV2 := hide (show holdV c now bu sl = refuse sl by rw [unhide HV, if_pos h4])
          clear h4
          go_wp2
          go_ret2
          exact ⟨by rw [unhide HV2]; rfl, unhide M2⟩
  · have d1 : (bu != 0) = true := by simp [h1]
    have HV := hide (show holdV c now bu sl = refuse bu by unfold holdV; rw [if_pos h1])
    clear h1
    go_enter Tryz.func85, Tryz.ntmps85
    go_wp2_with fail
    refine ((unhide HB) _ (unhide M0)).mono ?_
    rintro e w1 ⟨rfl, m1⟩
    have M1 := hide ((unhide M0).trans m1)
    clear m1
    go_wp2
    go_ret2
    exact ⟨by rw [unhide HV]; rfl, unhide M1⟩
end Go.Proofs.YtlcbemcamdafjaaGreat
/- A command is looked over: the kinds of commands, further ones. -/
namespace Go.Proofs.YtlcbemcamdafjaaGreat
open Go.RowKit
open Go.ChangeMaps (setBlock)
open M
set_option linter.unusedVariables false
set_option linter.unusedSimpArgs false
set_option maxRecDepth 100000
attribute [local go_sem] field171

/-- A seat in the flight's map, whatever has been added beside it. -/
theorem Sees.on {w w' : World} {m : Nat} {r c st pa cl un : Int} (h : Sees w m r c st pa cl un) (hm : Mod No w w') : Sees w' m r c st pa cl un := fun W hW => h W (hm.trans hW)

def cancelV (c : Cmd) (ow : Int) : Value := if ow ≠ 0 then refuse ow else grant (emptyV c.ar c.ac)

theorem cancel_walk (b : Nat) (c : Cmd) (ow : Int) (w : World)
    (hO : ∀ W, Mod No w W → Calls Tryz.prog 100 #[.pointer (some ⟨b, 0, none⟩), .agg (cmdCells c)] W fun e w' => e = .returned (.int .i64 ow) ∧ Mod No W w') :
    Calls Tryz.prog 87 #[.pointer (some ⟨b, 0, none⟩), .agg (cmdCells c)] w fun e w' => e = .returned (cancelV c ow) ∧ Mod No w w' := by
  have HO := hide hO
  have M0 := hide ((Mod.refl No w).alloc (.cells (cmdCells c) 41))
  have B0 := hide (Has.new w (cmdCells c) 41)
  unfold cmdCells at HO M0 B0 ⊢
  clear hO
  by_cases h1 : ow = 0
  · have d1 : (ow != 0) = false := by simp [h1]
    have HV := hide (show cancelV c ow = grant (emptyV c.ar c.ac) by unfold cancelV; rw [if_neg (by simpa using h1)])
    clear h1
    go_enter Tryz.func87, Tryz.ntmps87
    go_wp2_with fail
    refine ((unhide HO) _ (unhide M0)).mono ?_
    rintro e w1 ⟨rfl, m1⟩
    have cb := (m1.has (unhide B0) (fun x => x)).cell
    have M1 := hide ((unhide M0).trans m1)
    clear m1
    go_wp2
    go_ret2
    exact ⟨by rw [unhide HV]; rfl, unhide M1⟩
  · have d1 : (ow != 0) = true := by simp [h1]
    have HV := hide (show cancelV c ow = refuse ow by unfold cancelV; rw [if_pos h1])
    clear h1
    go_enter Tryz.func87, Tryz.ntmps87
    go_wp2_with fail
    refine ((unhide HO) _ (unhide M0)).mono ?_
    rintro e w1 ⟨rfl, m1⟩
    have M1 := hide ((unhide M0).trans m1)
    clear m1
    go_wp2
    go_ret2
    exact ⟨by rw [unhide HV]; rfl, unhide M1⟩

def moveV (c : Cmd) (ow st : Int) : Value := if ow ≠ 0 then refuse ow else if st ≠ 0 then refuse 9 else grant (shiftV c.ar c.ac c.tr c.tc)

theorem move_walk (b m : Nat) (cs : Array Value) (c : Cmd) (ow st pa cl un : Int) (w : World) (h : Has w b cs 154) (h7 : cs[7]? = some (.map (some m))) (hs : ow = 0 → Sees w m c.tr c.tc st pa cl un)
    (hO : ∀ W, Mod No w W → Calls Tryz.prog 100 #[.pointer (some ⟨b, 0, none⟩), .agg (cmdCells c)] W fun e w' => e = .returned (.int .i64 ow) ∧ Mod No W w') :
    Calls Tryz.prog 88 #[.pointer (some ⟨b, 0, none⟩), .agg (cmdCells c)] w fun e w' => e = .returned (moveV c ow st) ∧ Mod No w w' := by
  have HO := hide hO
  have HH := hide h
  have HL := hide hs
  have M0 := hide ((Mod.refl No w).alloc (.cells (cmdCells c) 41))
  have B0 := hide (Has.new w (cmdCells c) 41)
  unfold cmdCells at HO M0 B0 ⊢
  clear hO h hs
  by_cases h1 : ow = 0
  · have d1 : (ow != 0) = false := by simp [h1]
    have hs := unhide HL h1
    have HL := hide hs
    have HV := hide (show moveV c ow st = if st ≠ 0 then refuse 9 else grant (shiftV c.ar c.ac c.tr c.tc) by unfold moveV; rw [if_neg (by simpa using h1)])
    clear h1 hs
    go_enter Tryz.func88, Tryz.ntmps88
    go_wp2_with fail
    refine ((unhide HO) _ (unhide M0)).mono ?_
    rintro e w1 ⟨rfl, m1⟩
    have cb := (m1.has (unhide B0) (fun x => x)).cell
    have hx := ((unhide M0).trans m1).has (unhide HH) (fun x => x)
    have hlt := hx.lt
    have c7 := hx.cell 7
    rw [h7] at c7
    have hL := fun n => (unhide HL) (w1.drewN n) (((unhide M0).trans m1).drewN n)
    have M1 := hide ((unhide M0).trans m1)
    clear m1 hx
    by_cases h2 : st = 0
    · have d2 : (st != 0) = false := by simp [h2]
      have HV2 := hide (show moveV c ow st = grant (shiftV c.ar c.ac c.tr c.tc) by rw [unhide HV, if_neg (by simpa using h2)])
      clear h2
      go_wp2_with fail
      go_quiet (fail)
      go_wp2
      go_ret2
      exact ⟨by rw [unhide HV2]; rfl, (unhide M1).drewN _⟩
    · have d2 : (st != 0) = true := by simp [h2]
      have HV2 := hide (show moveV c ow st = refuse 9 by rw [unhide HV, if_pos h2])
      clear h2
      go_wp2_with fail
      go_quiet (fail)
      go_wp2
      go_ret2
      exact ⟨by rw [unhide HV2]; rfl, (unhide M1).drewN _⟩
  · have d1 : (ow != 0) = true := by simp [h1]
    have HV := hide (show moveV c ow st = refuse ow by unfold moveV; rw [if_pos h1])
    clear h1
    go_enter Tryz.func88, Tryz.ntmps88
    go_wp2_with fail
    refine ((unhide HO) _ (unhide M0)).mono ?_
    rintro e w1 ⟨rfl, m1⟩
    have M1 := hide ((unhide M0).trans m1)
    clear m1
    go_wp2
    go_ret2
    exact ⟨by rw [unhide HV]; rfl, unhide M1⟩

def blockV (c : Cmd) (st : Int) : Value := if st ≠ 0 then refuse 9 else grant (fillV c.ar c.ac 3 0 0 0)
def unblockV (c : Cmd) (st : Int) : Value := if st ≠ 3 then refuse 10 else grant (emptyV c.ar c.ac)

theorem block_walk (b m : Nat) (cs : Array Value) (c : Cmd) (st pa cl un : Int) (w : World) (h : Has w b cs 154) (h7 : cs[7]? = some (.map (some m))) (hs : Sees w m c.ar c.ac st pa cl un) :
    Calls Tryz.prog 89 #[.pointer (some ⟨b, 0, none⟩), .agg (cmdCells c)] w fun e w' => e = .returned (blockV c st) ∧ Mod No w w' := by
  have hlt := h.lt
  have c7 := h.cell 7
  rw [h7] at c7
  have hL := fun n => hs ((w.alloc (.cells (cmdCells c) 41)).drewN n) (((Mod.refl No w).alloc _).drewN n)
  have M0 := hide ((Mod.refl No w).alloc (.cells (cmdCells c) 41))
  unfold cmdCells at hL M0 ⊢
  clear h hs h7
  by_cases h2 : st = 0
  · have d2 : (st != 0) = false := by simp [h2]
    have HV2 := hide (show blockV c st = grant (fillV c.ar c.ac 3 0 0 0) by unfold blockV; rw [if_neg (by simpa using h2)])
    clear h2
    go_enter Tryz.func89, Tryz.ntmps89
    go_wp2_with fail
    go_quiet (fail)
    go_wp2
    go_ret2
    exact ⟨by rw [unhide HV2]; rfl, (unhide M0).drewN _⟩
  · have d2 : (st != 0) = true := by simp [h2]
    have HV2 := hide (show blockV c st = refuse 9 by unfold blockV; rw [if_pos h2])
    clear h2
    go_enter Tryz.func89, Tryz.ntmps89
    go_wp2_with fail
    go_quiet (fail)
    go_wp2
    go_ret2
    exact ⟨by rw [unhide HV2]; rfl, (unhide M0).drewN _⟩

theorem unblock_walk (b m : Nat) (cs : Array Value) (c : Cmd) (st pa cl un : Int) (w : World) (h : Has w b cs 154) (h7 : cs[7]? = some (.map (some m))) (hs : Sees w m c.ar c.ac st pa cl un) :
    Calls Tryz.prog 90 #[.pointer (some ⟨b, 0, none⟩), .agg (cmdCells c)] w fun e w' => e = .returned (unblockV c st) ∧ Mod No w w' := by
  have hlt := h.lt
  have c7 := h.cell 7
  rw [h7] at c7
  have hL := fun n => hs ((w.alloc (.cells (cmdCells c) 41)).drewN n) (((Mod.refl No w).alloc _).drewN n)
  have M0 := hide ((Mod.refl No w).alloc (.cells (cmdCells c) 41))
  unfold cmdCells at hL M0 ⊢
  clear h hs h7
  by_cases h2 : st = 3
  · have d2 : (st != 3) = false := by simp [h2]
    have HV2 := hide (show unblockV c st = grant (emptyV c.ar c.ac) by unfold unblockV; rw [if_neg (by simpa using h2)])
    clear h2
    go_enter Tryz.func90, Tryz.ntmps90
    go_wp2_with fail
    go_quiet (fail)
    go_wp2
    go_ret2
    exact ⟨by rw [unhide HV2]; rfl, (unhide M0).drewN _⟩
  · have d2 : (st != 3) = true := by simp [h2]
    have HV2 := hide (show unblockV c st = refuse 10 by unfold unblockV; rw [if_pos h2])
    clear h2
    go_enter Tryz.func90, Tryz.ntmps90
    go_wp2_with fail
    go_quiet (fail)
    go_wp2
    go_ret2
    exact ⟨by rw [unhide HV2]; rfl, (unhide M0).drewN _⟩
end Go.Proofs.YtlcbemcamdafjaaGreat
