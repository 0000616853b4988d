import Derived.Test.YthhibagcpjeihaaLPassToLook2
import Derived.Test.YthhibagcpjeihaaLChangeToSwap1
import Derived.Test.YthhibagcpjeihaaLRd3ToSeat
namespace Go.Proofs.Ythhibagcpjeihaa
open Go.RowKit
open Go.ChangeMaps (setBlock)
open M
set_option linter.unusedVariables false
set_option linter.unusedSimpArgs false
set_option maxRecDepth 100000
def refuse (e : Int) : Value := .tuple #[.nilIface, .int .i64 e]
def grant (v : Value) : Value := .tuple #[v, .int .i64 0]
def fillV (r c st pa cl un : Int) : Value := .iface 180 (.agg #[.int .i64 r, .int .i64 c, .int .i64 st, .int .i64 pa, .int .i64 cl, .int .i64 un])
def emptyV (r c : Int) : Value := .iface 184 (.agg #[.int .i64 r, .int .i64 c])
def shiftV (r c r' c' : Int) : Value := .iface 186 (.agg #[.int .i64 r, .int .i64 c, .int .i64 r', .int .i64 c'])
def startV (p : Pla) : Value := .iface 163 (plaV p)
def passV (n : Int) : Value := .iface 144 (.agg #[.int .i64 n])
attribute [local go_sem] field171
theorem has_walk (b : Nat) (r c rows cols : Int) (cs : Array Value) (w : World) (h : Has w b cs 138) (h0 : cs[0]? = some (.int .i64 rows)) (h1 : cs[1]? = some (.int .i64 cols)) :
  Calls Try.prog 77 #[.pointer (some ⟨b, 0, none⟩), .agg #[.int .i64 r, .int .i64 c]] w fun e w' => e = .returned (.bool (decide (1 ≤ r ∧ r ≤ rows ∧ 1 ≤ c ∧ c ≤ cols))) ∧ Mod No w w' := by
 have hlt := h.lt
 have c0 := h.cell 0
 rw [h0] at c0
 have c1 := h.cell 1
 rw [h1] at c1
 have MW := hide (fun n => ((Mod.refl No w).alloc (.cells #[.int .i64 r, .int .i64 c] 32)).drewN n)
 clear h h0 h1
 by_cases a1 : r ≥ 1
 ·have d1 : decide (r ≥ 1) = true := decide_eq_true a1
  by_cases a2 : r ≤ rows
  ·by_cases a3 : c ≥ 1
   ·by_cases a4 : c ≤ cols
    ·have HS := hide (show decide (1 ≤ r ∧ r ≤ rows ∧ 1 ≤ c ∧ c ≤ cols) = true by simp; omega)
     go_enter Try.func77, Try.ntmps77
     go_wp2_with fail
     go_quiet (fail)
     go_wp2
     go_ret
     exact ⟨by rw [unhide HS]; rfl, (unhide MW) _⟩
    ·have d4 : decide (c ≤ cols) = false := decide_eq_false a4
     have HS := hide (show decide (1 ≤ r ∧ r ≤ rows ∧ 1 ≤ c ∧ c ≤ cols) = false by simp; omega)
     go_enter Try.func77, Try.ntmps77
     go_wp2_with fail
     go_quiet (fail)
     go_wp2
     go_ret
     exact ⟨by rw [unhide HS]; rfl, (unhide MW) _⟩
   ·have d4 : decide (c ≥ 1) = false := decide_eq_false a3
    have d5 : decide (1 ≤ c) = false := decide_eq_false a3
    have HS := hide (show decide (1 ≤ r ∧ r ≤ rows ∧ 1 ≤ c ∧ c ≤ cols) = false by simp; omega)
    go_enter Try.func77, Try.ntmps77
    go_wp2_with fail
    go_quiet (fail)
    go_wp2
    go_ret
    exact ⟨by rw [unhide HS]; rfl, (unhide MW) _⟩
  ·have d4 : decide (r ≤ rows) = false := decide_eq_false a2
   have HS := hide (show decide (1 ≤ r ∧ r ≤ rows ∧ 1 ≤ c ∧ c ≤ cols) = false by simp; omega)
   go_enter Try.func77, Try.ntmps77
   go_wp2_with fail
   go_quiet (fail)
   go_wp2
   go_ret
   exact ⟨by rw [unhide HS]; rfl, (unhide MW) _⟩
 ·have d4 : decide (r ≥ 1) = false := decide_eq_false a1
  have d5 : decide (1 ≤ r) = false := decide_eq_false a1
  have HS := hide (show decide (1 ≤ r ∧ r ≤ rows ∧ 1 ≤ c ∧ c ≤ cols) = false by simp; omega)
  go_enter Try.func77, Try.ntmps77
  go_wp2_with fail
  go_quiet (fail)
  go_wp2
  go_ret
  exact ⟨by rw [unhide HS]; rfl, (unhide MW) _⟩
def holdV (c : Cmd) (now bu sl : Int) : Value :=
 if bu ≠ 0 then refuse bu else if c.time ≤ now ∨ c.time > now + 100 then refuse 8 else if sl ≠ 0 then refuse sl else grant (fillV c.ar c.ac 1 c.party c.cls c.time)
theorem hold_walk (b : Nat) (c : Cmd) (now bu sl : Int) (hn : 0 ≤ now ∧ now ≤ 4611686018427387000) (w : World)
  (hB : ∀ W, Mod No w W → Calls Try.prog 93 #[.agg (cmdCells c)] W fun e w' => e = .returned (.int .i64 bu) ∧ Mod No W w')
  (hS : bu = 0 → ∀ W, Mod No w W → Calls Try.prog 94 #[.pointer (some ⟨b, 0, none⟩), .agg (cmdCells c)] W fun e w' => e = .returned (.int .i64 sl) ∧ Mod No W w') :
  Calls Try.prog 78 #[.pointer (some ⟨b, 0, none⟩), .agg (cmdCells c), .int .i64 now] w fun e w' => e = .returned (holdV c now bu sl) ∧ Mod No w w' := by
 have hw : IntKind.i64.wrap (now + 100) = now + 100 := wrap_id _ (by omega) (by omega)
 have HB := hide hB
 have HS := hide hS
 have M0 := hide ((Mod.refl No w).alloc (.cells (cmdCells c) 37))
 have B0 := hide (Has.new w (cmdCells c) 37)
 unfold cmdCells at HB HS M0 B0 ⊢
 clear hB hS
 by_cases h1 : bu = 0
 ·have d1 : (bu != 0) = false := by simp [h1]
  have HBU := hide h1
  clear h1
  by_cases h2 : c.time ≤ now
  ·have HV := hide (show holdV c now bu sl = refuse 8 by unfold holdV; rw [if_neg (by simpa using unhide HBU), if_pos (.inl h2)])
   go_enter Try.func78, Try.ntmps78
   go_wp2_with fail
   refine ((unhide HB) _ (unhide M0)).mono ?_
   rintro e w1 ⟨rfl, m1⟩
   have cb := (m1.has (unhide B0) (fun x => x)).cell
   have M1 := hide ((unhide M0).trans m1)
   clear m1
   go_wp2
   go_ret2
   exact ⟨by rw [unhide HV]; rfl, unhide M1⟩
  ·by_cases h3 : c.time > now + 100
   ·have HV := hide (show holdV c now bu sl = refuse 8 by unfold holdV; rw [if_neg (by simpa using unhide HBU), if_pos (.inr h3)])
    go_enter Try.func78, Try.ntmps78
    go_wp2_with fail
    refine ((unhide HB) _ (unhide M0)).mono ?_
    rintro e w1 ⟨rfl, m1⟩
    have cb := (m1.has (unhide B0) (fun x => x)).cell
    have M1 := hide ((unhide M0).trans m1)
    clear m1
    go_wp2
    go_ret2
    exact ⟨by rw [unhide HV]; rfl, unhide M1⟩
   ·have HV := hide (show holdV c now bu sl = if sl ≠ 0 then refuse sl else grant (fillV c.ar c.ac 1 c.party c.cls c.time) by unfold holdV; rw [if_neg (by simpa using unhide HBU), if_neg (by omega)])
    go_enter Try.func78, Try.ntmps78
    go_wp2_with fail
    refine ((unhide HB) _ (unhide M0)).mono ?_
    rintro e w1 ⟨rfl, m1⟩
    have cb := (m1.has (unhide B0) (fun x => x)).cell
    have M1 := hide ((unhide M0).trans m1)
    have B1 := hide (m1.has (unhide B0) (fun x => x))
    clear m1
    go_wp2_with fail
    refine ((unhide HS) (unhide HBU) _ (unhide M1)).mono ?_
    rintro e w2 ⟨rfl, m2⟩
    have cb2 := (m2.has (unhide B1) (fun x => x)).cell
    have M2 := hide ((unhide M1).trans m2)
    clear m2 cb
    by_cases h4 : sl = 0
    ·have d4 : (sl != 0) = false := by simp [h4]
     have HV2 := hide (show holdV c now bu sl = grant (fillV c.ar c.ac 1 c.party c.cls c.time) by rw [unhide HV, if_neg (by simpa using h4)])
     clear h4
     go_wp2
     go_ret2
     exact ⟨by rw [unhide HV2]; rfl, unhide M2⟩
    ·have d4 : (sl != 0) = true := by simp [h4]
     have HV2 := hide (show holdV c now bu sl = refuse sl by rw [unhide HV, if_pos h4])
     clear h4
     go_wp2
     go_ret2
     exact ⟨by rw [unhide HV2]; rfl, unhide M2⟩
 ·have d1 : (bu != 0) = true := by simp [h1]
  have HV := hide (show holdV c now bu sl = refuse bu by unfold holdV; rw [if_pos h1])
  clear h1
  go_enter Try.func78, Try.ntmps78
  go_wp2_with fail
  refine ((unhide HB) _ (unhide M0)).mono ?_
  rintro e w1 ⟨rfl, m1⟩
  have M1 := hide ((unhide M0).trans m1)
  clear m1
  go_wp2
  go_ret2
  exact ⟨by rw [unhide HV]; rfl, unhide M1⟩
attribute [local go_sem] field171
theorem Sees.on {w w' : World} {m : Nat} {r c st pa cl un : Int} (h : Sees w m r c st pa cl un) (hm : Mod No w w') : Sees w' m r c st pa cl un := fun W hW => h W (hm.trans hW)
def cancelV (c : Cmd) (ow : Int) : Value := if ow ≠ 0 then refuse ow else grant (emptyV c.ar c.ac)
theorem cancel_walk (b : Nat) (c : Cmd) (ow : Int) (w : World)
  (hO : ∀ W, Mod No w W → Calls Try.prog 95 #[.pointer (some ⟨b, 0, none⟩), .agg (cmdCells c)] W fun e w' => e = .returned (.int .i64 ow) ∧ Mod No W w') :
  Calls Try.prog 80 #[.pointer (some ⟨b, 0, none⟩), .agg (cmdCells c)] w fun e w' => e = .returned (cancelV c ow) ∧ Mod No w w' := by
 have HO := hide hO
 have M0 := hide ((Mod.refl No w).alloc (.cells (cmdCells c) 37))
 have B0 := hide (Has.new w (cmdCells c) 37)
 unfold cmdCells at HO M0 B0 ⊢
 clear hO
 by_cases h1 : ow = 0
 ·have d1 : (ow != 0) = false := by simp [h1]
  have HV := hide (show cancelV c ow = grant (emptyV c.ar c.ac) by unfold cancelV; rw [if_neg (by simpa using h1)])
  clear h1
  go_enter Try.func80, Try.ntmps80
  go_wp2_with fail
  refine ((unhide HO) _ (unhide M0)).mono ?_
  rintro e w1 ⟨rfl, m1⟩
  have cb := (m1.has (unhide B0) (fun x => x)).cell
  have M1 := hide ((unhide M0).trans m1)
  clear m1
  go_wp2
  go_ret2
  exact ⟨by rw [unhide HV]; rfl, unhide M1⟩
 ·have d1 : (ow != 0) = true := by simp [h1]
  have HV := hide (show cancelV c ow = refuse ow by unfold cancelV; rw [if_pos h1])
  clear h1
  go_enter Try.func80, Try.ntmps80
  go_wp2_with fail
  refine ((unhide HO) _ (unhide M0)).mono ?_
  rintro e w1 ⟨rfl, m1⟩
  have M1 := hide ((unhide M0).trans m1)
  clear m1
  go_wp2
  go_ret2
  exact ⟨by rw [unhide HV]; rfl, unhide M1⟩
def moveV (c : Cmd) (ow st : Int) : Value := if ow ≠ 0 then refuse ow else if st ≠ 0 then refuse 9 else grant (shiftV c.ar c.ac c.tr c.tc)
theorem move_walk (b m : Nat) (cs : Array Value) (c : Cmd) (ow st pa cl un : Int) (w : World) (h : Has w b cs 138) (h7 : cs[7]? = some (.map (some m))) (hs : ow = 0 → Sees w m c.tr c.tc st pa cl un)
  (hO : ∀ W, Mod No w W → Calls Try.prog 95 #[.pointer (some ⟨b, 0, none⟩), .agg (cmdCells c)] W fun e w' => e = .returned (.int .i64 ow) ∧ Mod No W w') :
  Calls Try.prog 81 #[.pointer (some ⟨b, 0, none⟩), .agg (cmdCells c)] w fun e w' => e = .returned (moveV c ow st) ∧ Mod No w w' := by
 have HO := hide hO
 have HH := hide h
 have HL := hide hs
 have M0 := hide ((Mod.refl No w).alloc (.cells (cmdCells c) 37))
 have B0 := hide (Has.new w (cmdCells c) 37)
 unfold cmdCells at HO M0 B0 ⊢
 clear hO h hs
 by_cases h1 : ow = 0
 ·have d1 : (ow != 0) = false := by simp [h1]
  have hs := unhide HL h1
  have HL := hide hs
  have HV := hide (show moveV c ow st = if st ≠ 0 then refuse 9 else grant (shiftV c.ar c.ac c.tr c.tc) by unfold moveV; rw [if_neg (by simpa using h1)])
  clear h1 hs
  go_enter Try.func81, Try.ntmps81
  go_wp2_with fail
  refine ((unhide HO) _ (unhide M0)).mono ?_
  rintro e w1 ⟨rfl, m1⟩
  have cb := (m1.has (unhide B0) (fun x => x)).cell
  have hx := ((unhide M0).trans m1).has (unhide HH) (fun x => x)
  have hlt := hx.lt
  have c7 := hx.cell 7
  rw [h7] at c7
  have hL := fun n => (unhide HL) (w1.drewN n) (((unhide M0).trans m1).drewN n)
  have M1 := hide ((unhide M0).trans m1)
  clear m1 hx
  by_cases h2 : st = 0
  ·have d2 : (st != 0) = false := by simp [h2]
   have HV2 := hide (show moveV c ow st = grant (shiftV c.ar c.ac c.tr c.tc) by rw [unhide HV, if_neg (by simpa using h2)])
   clear h2
   go_wp2_with fail
   go_quiet (fail)
   go_wp2
   go_ret2
   exact ⟨by rw [unhide HV2]; rfl, (unhide M1).drewN _⟩
  ·have d2 : (st != 0) = true := by simp [h2]
   have HV2 := hide (show moveV c ow st = refuse 9 by rw [unhide HV, if_pos h2])
   clear h2
   go_wp2_with fail
   go_quiet (fail)
   go_wp2
   go_ret2
   exact ⟨by rw [unhide HV2]; rfl, (unhide M1).drewN _⟩
 ·have d1 : (ow != 0) = true := by simp [h1]
  have HV := hide (show moveV c ow st = refuse ow by unfold moveV; rw [if_pos h1])
  clear h1
  go_enter Try.func81, Try.ntmps81
  go_wp2_with fail
  refine ((unhide HO) _ (unhide M0)).mono ?_
  rintro e w1 ⟨rfl, m1⟩
  have M1 := hide ((unhide M0).trans m1)
  clear m1
  go_wp2
  go_ret2
  exact ⟨by rw [unhide HV]; rfl, unhide M1⟩
def blockV (c : Cmd) (st : Int) : Value := if st ≠ 0 then refuse 9 else grant (fillV c.ar c.ac 3 0 0 0)
def unblockV (c : Cmd) (st : Int) : Value := if st ≠ 3 then refuse 10 else grant (emptyV c.ar c.ac)
theorem block_walk (b m : Nat) (cs : Array Value) (c : Cmd) (st pa cl un : Int) (w : World) (h : Has w b cs 138) (h7 : cs[7]? = some (.map (some m))) (hs : Sees w m c.ar c.ac st pa cl un) :
  Calls Try.prog 82 #[.pointer (some ⟨b, 0, none⟩), .agg (cmdCells c)] w fun e w' => e = .returned (blockV c st) ∧ Mod No w w' := by
 have hlt := h.lt
 have c7 := h.cell 7
 rw [h7] at c7
 have hL := fun n => hs ((w.alloc (.cells (cmdCells c) 37)).drewN n) (((Mod.refl No w).alloc _).drewN n)
 have M0 := hide ((Mod.refl No w).alloc (.cells (cmdCells c) 37))
 unfold cmdCells at hL M0 ⊢
 clear h hs h7
 by_cases h2 : st = 0
 ·have d2 : (st != 0) = false := by simp [h2]
  have HV2 := hide (show blockV c st = grant (fillV c.ar c.ac 3 0 0 0) by unfold blockV; rw [if_neg (by simpa using h2)])
  clear h2
  go_enter Try.func82, Try.ntmps82
  go_wp2_with fail
  go_quiet (fail)
  go_wp2
  go_ret2
  exact ⟨by rw [unhide HV2]; rfl, (unhide M0).drewN _⟩
 ·have d2 : (st != 0) = true := by simp [h2]
  have HV2 := hide (show blockV c st = refuse 9 by unfold blockV; rw [if_pos h2])
  clear h2
  go_enter Try.func82, Try.ntmps82
  go_wp2_with fail
  go_quiet (fail)
  go_wp2
  go_ret2
  exact ⟨by rw [unhide HV2]; rfl, (unhide M0).drewN _⟩
theorem unblock_walk (b m : Nat) (cs : Array Value) (c : Cmd) (st pa cl un : Int) (w : World) (h : Has w b cs 138) (h7 : cs[7]? = some (.map (some m))) (hs : Sees w m c.ar c.ac st pa cl un) :
  Calls Try.prog 83 #[.pointer (some ⟨b, 0, none⟩), .agg (cmdCells c)] w fun e w' => e = .returned (unblockV c st) ∧ Mod No w w' := by
 have hlt := h.lt
 have c7 := h.cell 7
 rw [h7] at c7
 have hL := fun n => hs ((w.alloc (.cells (cmdCells c) 37)).drewN n) (((Mod.refl No w).alloc _).drewN n)
 have M0 := hide ((Mod.refl No w).alloc (.cells (cmdCells c) 37))
 unfold cmdCells at hL M0 ⊢
 clear h hs h7
 by_cases h2 : st = 3
 ·have d2 : (st != 3) = false := by simp [h2]
  have HV2 := hide (show unblockV c st = grant (emptyV c.ar c.ac) by unfold unblockV; rw [if_neg (by simpa using h2)])
  clear h2
  go_enter Try.func83, Try.ntmps83
  go_wp2_with fail
  go_quiet (fail)
  go_wp2
  go_ret2
  exact ⟨by rw [unhide HV2]; rfl, (unhide M0).drewN _⟩
 ·have d2 : (st != 3) = true := by simp [h2]
  have HV2 := hide (show unblockV c st = refuse 10 by unfold unblockV; rw [if_pos h2])
  clear h2
  go_enter Try.func83, Try.ntmps83
  go_wp2_with fail
  go_quiet (fail)
  go_wp2
  go_ret2
  exact ⟨by rw [unhide HV2]; rfl, (unhide M0).drewN _⟩
set_option maxHeartbeats 2000000
def bookV (c : Cmd) (bu st pa cl sl : Int) : Value :=
 if bu ≠ 0 then refuse bu else if st = 1 ∧ pa = c.party ∧ cl = c.cls then grant (fillV c.ar c.ac 2 c.party c.cls 0) else if sl ≠ 0 then refuse sl else grant (fillV c.ar c.ac 2 c.party c.cls 0)
theorem book_walk (b m : Nat) (cs : Array Value) (c : Cmd) (bu sl st pa cl un : Int) (w : World) (h : Has w b cs 138) (h7 : cs[7]? = some (.map (some m))) (hs : Sees w m c.ar c.ac st pa cl un)
  (hB : ∀ W, Mod No w W → Calls Try.prog 93 #[.agg (cmdCells c)] W fun e w' => e = .returned (.int .i64 bu) ∧ Mod No W w')
  (hS : bu = 0 → ∀ W, Mod No w W → Calls Try.prog 94 #[.pointer (some ⟨b, 0, none⟩), .agg (cmdCells c)] W fun e w' => e = .returned (.int .i64 sl) ∧ Mod No W w') :
  Calls Try.prog 79 #[.pointer (some ⟨b, 0, none⟩), .agg (cmdCells c)] w fun e w' => e = .returned (bookV c bu st pa cl sl) ∧ Mod No w w' := by
 have HB := hide hB
 have HS := hide hS
 have HH := hide h
 have HL := hide hs
 have M0 := hide ((Mod.refl No w).alloc (.cells (cmdCells c) 37))
 have B0 := hide (Has.new w (cmdCells c) 37)
 unfold cmdCells at HB HS M0 B0 ⊢
 clear hB hS h hs
 by_cases h1 : bu = 0
 ·have d1 : (bu != 0) = false := by simp [h1]
  have HBU := hide h1
  have HV := hide (show bookV c bu st pa cl sl = if st = 1 ∧ pa = c.party ∧ cl = c.cls then grant (fillV c.ar c.ac 2 c.party c.cls 0) else if sl ≠ 0 then refuse sl else grant (fillV c.ar c.ac 2 c.party c.cls 0) by unfold bookV; rw [if_neg (by simpa using h1)])
  clear h1
  go_enter Try.func79, Try.ntmps79
  go_wp2_with fail
  refine ((unhide HB) _ (unhide M0)).mono ?_
  rintro e w1 ⟨rfl, m1⟩
  have hb1 := m1.has (unhide B0) (fun x => x)
  have cb := hb1.cell
  have lb := hb1.lt
  have hx := ((unhide M0).trans m1).has (unhide HH) (fun x => x)
  have hlt := hx.lt
  have c7 := hx.cell 7
  rw [h7] at c7
  have hL := (unhide HL) w1.drew ((unhide M0).trans m1).drew
  have hLx := fun X => (unhide HL) (w1.alloc X).drew (((unhide M0).trans m1).alloc X).drew
  have M1 := hide ((unhide M0).trans m1)
  have B1 := hide hb1
  clear m1 hx hb1
  go_wp2_with fail
  go_cut [7] (fun s7 wx => s7 = .pointer (some ⟨w1.heap.size, 0, none⟩) ∧ Hid (Mod No w wx) ∧ Hid (Has wx w.heap.size (cmdCells c) 37) ∧ Hid (Has wx w1.heap.size #[.int .i64 st, .int .i64 pa, .int .i64 cl, .int .i64 un] 170))
  case first =>
   go_region
   all_goals go_wp2
   all_goals go_meet
   all_goals exact ⟨rfl, ((unhide M1).alloc _).drew, ((unhide B1).alloc _).drew, (Has.new w1 _ _).drew⟩
  case rest =>
   obtain ⟨rfl, hm, hb1, hb2⟩ := hcut
   have cb := (unhide hb2).cell
   have lb := (unhide hb2).lt
   have cb1 := (unhide hb1).cell
   unfold cmdCells at cb1
   clear hL hLx c7
   by_cases a1 : st = 1
   ·have e1 : (st == 1) = true := by simp [a1]
    by_cases a2 : pa = c.party
    ·have e2 : (pa == c.party) = true := by simp [a2]
     by_cases a3 : cl = c.cls
     ·have e3 : (cl == c.cls) = true := by simp [a3]
      have HV2 := hide (show bookV c bu st pa cl sl = grant (fillV c.ar c.ac 2 c.party c.cls 0) by rw [unhide HV, if_pos ⟨a1, a2, a3⟩])
      clear a1 a2 a3
      go_wp2
      go_ret2
      exact ⟨by rw [unhide HV2]; rfl, unhide hm⟩
     ·have e3 : (cl == c.cls) = false := by simp [a3]
      have HV2 := hide (show bookV c bu st pa cl sl = if sl ≠ 0 then refuse sl else grant (fillV c.ar c.ac 2 c.party c.cls 0) by rw [unhide HV, if_neg (fun h => a3 h.2.2)])
      clear a1 a2 a3
      go_wp2_with fail
      refine ((unhide HS) (unhide HBU) _ (unhide hm)).mono ?_
      rintro e w2 ⟨rfl, m2⟩
      have cb2 := (m2.has (unhide hb1) (fun x => x)).cell
      have M2 := hide ((unhide hm).trans m2)
      clear m2 cb1 cb
      unfold cmdCells at cb2
      by_cases h4 : sl = 0
      ·have d4 : (sl != 0) = false := by simp [h4]
       have HV3 := hide (show bookV c bu st pa cl sl = grant (fillV c.ar c.ac 2 c.party c.cls 0) by rw [unhide HV2, if_neg (by simpa using h4)])
       clear h4
       go_wp2
       go_ret2
       exact ⟨by rw [unhide HV3]; rfl, unhide M2⟩
      ·have d4 : (sl != 0) = true := by simp [h4]
       have HV3 := hide (show bookV c bu st pa cl sl = refuse sl by rw [unhide HV2, if_pos h4])
       clear h4
       go_wp2
       go_ret2
       exact ⟨by rw [unhide HV3]; rfl, unhide M2⟩
    ·have e2 : (pa == c.party) = false := by simp [a2]
     have HV2 := hide (show bookV c bu st pa cl sl = if sl ≠ 0 then refuse sl else grant (fillV c.ar c.ac 2 c.party c.cls 0) by rw [unhide HV, if_neg (fun h => a2 h.2.1)])
     clear a1 a2
     go_wp2_with fail
     refine ((unhide HS) (unhide HBU) _ (unhide hm)).mono ?_
     rintro e w2 ⟨rfl, m2⟩
     have cb2 := (m2.has (unhide hb1) (fun x => x)).cell
     have M2 := hide ((unhide hm).trans m2)
     clear m2 cb1 cb
     unfold cmdCells at cb2
     by_cases h4 : sl = 0
     ·have d4 : (sl != 0) = false := by simp [h4]
      have HV3 := hide (show bookV c bu st pa cl sl = grant (fillV c.ar c.ac 2 c.party c.cls 0) by rw [unhide HV2, if_neg (by simpa using h4)])
      clear h4
      go_wp2
      go_ret2
      exact ⟨by rw [unhide HV3]; rfl, unhide M2⟩
     ·have d4 : (sl != 0) = true := by simp [h4]
      have HV3 := hide (show bookV c bu st pa cl sl = refuse sl by rw [unhide HV2, if_pos h4])
      clear h4
      go_wp2
      go_ret2
      exact ⟨by rw [unhide HV3]; rfl, unhide M2⟩
   ·have e1 : (st == 1) = false := by simp [a1]
    have HV2 := hide (show bookV c bu st pa cl sl = if sl ≠ 0 then refuse sl else grant (fillV c.ar c.ac 2 c.party c.cls 0) by rw [unhide HV, if_neg (fun h => a1 h.1)])
    clear a1
    go_wp2_with fail
    refine ((unhide HS) (unhide HBU) _ (unhide hm)).mono ?_
    rintro e w2 ⟨rfl, m2⟩
    have cb2 := (m2.has (unhide hb1) (fun x => x)).cell
    have M2 := hide ((unhide hm).trans m2)
    clear m2 cb1 cb
    unfold cmdCells at cb2
    by_cases h4 : sl = 0
    ·have d4 : (sl != 0) = false := by simp [h4]
     have HV3 := hide (show bookV c bu st pa cl sl = grant (fillV c.ar c.ac 2 c.party c.cls 0) by rw [unhide HV2, if_neg (by simpa using h4)])
     clear h4
     go_wp2
     go_ret2
     exact ⟨by rw [unhide HV3]; rfl, unhide M2⟩
    ·have d4 : (sl != 0) = true := by simp [h4]
     have HV3 := hide (show bookV c bu st pa cl sl = refuse sl by rw [unhide HV2, if_pos h4])
     clear h4
     go_wp2
     go_ret2
     exact ⟨by rw [unhide HV3]; rfl, unhide M2⟩
 ·have d1 : (bu != 0) = true := by simp [h1]
  have HV := hide (show bookV c bu st pa cl sl = refuse bu by unfold bookV; rw [if_pos h1])
  clear h1
  go_enter Try.func79, Try.ntmps79
  go_wp2_with fail
  refine ((unhide HB) _ (unhide M0)).mono ?_
  rintro e w1 ⟨rfl, m1⟩
  have M1 := hide ((unhide M0).trans m1)
  clear m1
  go_wp2
  go_ret2
  exact ⟨by rw [unhide HV]; rfl, unhide M1⟩
def addV (p : Pla) : Value := if p.sized = true ∧ p.limited = true then grant (startV p) else refuse 4
theorem lookAdd_walk (p : Pla) (w : World) :
  Calls Try.prog 59 #[plaV p] w fun e w' => e = .returned (addV p) ∧ Mod No w w' := by
 have HA := hide fun W => shape_any p W
 have HB := hide fun W => limits_any p.l0 p.l1 p.l2 p.l3 W
 have hl : p.limited = decide (0 ≤ p.l0 ∧ p.l0 ≤ 200 ∧ 0 ≤ p.l1 ∧ p.l1 ≤ p.l0 ∧ 0 ≤ p.l2 ∧ p.l2 ≤ p.l1 ∧ 0 ≤ p.l3 ∧ p.l3 ≤ p.l2) := rfl
 rw [← hl] at HB
 clear hl
 have HV := hide (show ∀ s m, p.sized = s → p.limited = m → addV p = if s = true ∧ m = true then grant (startV p) else refuse 4 by rintro s m rfl rfl; rfl)
 unfold plaV at HA ⊢
 obtain ⟨s, hs⟩ : ∃ s, p.sized = s := ⟨_, rfl⟩
 obtain ⟨m, hm⟩ : ∃ m, p.limited = m := ⟨_, rfl⟩
 rw [hs] at HA
 rw [hm] at HB
 have M0 := hide ((Mod.refl No w).alloc (.cells #[.int .i64 p.rows, .int .i64 p.cols, .int .i64 p.front, .int .i64 p.l0, .int .i64 p.l1, .int .i64 p.l2, .int .i64 p.l3] 35))
 have B0 := hide (Has.new w #[.int .i64 p.rows, .int .i64 p.cols, .int .i64 p.front, .int .i64 p.l0, .int .i64 p.l1, .int .i64 p.l2, .int .i64 p.l3] 35)
 have HV2 := hide ((unhide HV) s m hs hm)
 clear hs hm HV
 cases s with
 | false =>
  go_enter Try.func59, Try.ntmps59
  go_wp2_with fail
  refine ((unhide HA) _).mono ?_
  rintro e w1 ⟨rfl, m1⟩
  have M1 := hide ((unhide M0).trans m1)
  clear m1
  go_wp2
  go_ret2
  exact ⟨by rw [unhide HV2, if_neg (by simp)]; rfl, unhide M1⟩
 | true =>
  go_enter Try.func59, Try.ntmps59
  go_wp2_with fail
  refine ((unhide HA) _).mono ?_
  rintro e w1 ⟨rfl, m1⟩
  have cb := (m1.has (unhide B0) (fun x => x)).cell
  have M1 := hide ((unhide M0).trans m1)
  have B1 := hide (m1.has (unhide B0) (fun x => x))
  clear m1
  go_wp2_with fail
  refine ((unhide HB) _).mono ?_
  rintro e w2 ⟨rfl, m2⟩
  have cb2 := (m2.has (unhide B1) (fun x => x)).cell
  have M2 := hide ((unhide M1).trans m2)
  clear m2 cb
  cases m with
  | true =>
   go_wp2
   go_ret2
   exact ⟨by rw [unhide HV2, if_pos (by simp)]; rfl, unhide M2⟩
  | false =>
   go_wp2
   go_ret2
   exact ⟨by rw [unhide HV2, if_neg (by simp)]; rfl, unhide M2⟩
def refitV (q : Pla) : Value := .iface 182 (.agg #[.int .i64 q.rows, .int .i64 q.cols, .int .i64 q.front])
def swapV (q : Pla) (n : Nat) : Value := if q.sized = true ∧ ¬ (q.rows * q.cols < (n : Int)) then grant (refitV q) else refuse 4
theorem run_len (w : World) (m clock : Nat) (l : List MEnt) (hm : w.heap[m]? = some (mapObj l clock)) (ty : TypeId) :
  (Builtin.len_ #[136] ty #[.map (some m)]).run Try.prog w = .ok (.int .i64 (l.length : Nat)) w := by
 unfold mapObj at hm
 have hg : (getObj m).run Try.prog w = .ok (.map (l.map MEnt.obj).toArray clock) w := by simp [getObj, Sem.run, hm]
 simp [Builtin.len_, run_underlying Try.underlying136, hg, goInt]
theorem lookSwap_walk (b m : Nat) (cs : Array Value) (q : Pla) (n : Nat) (w : World) (h : Has w b cs 138) (h7 : cs[7]? = some (.map (some m)))
  (hlen : ∀ W, Mod No w W → ∀ ty, (Builtin.len_ #[136] ty #[.map (some m)]).run Try.prog W = .ok (.int .i64 (n : Nat)) W)
  (hrc : q.sized = true → IntKind.i64.wrap (q.rows * q.cols) = q.rows * q.cols) :
  Calls Try.prog 76 #[.pointer (some ⟨b, 0, none⟩), plaV q] w fun e w' => e = .returned (swapV q n) ∧ Mod No w w' := by
 have HA := hide fun W => shape_any q W
 have HV := hide (show ∀ s, q.sized = s → swapV q n = if s = true ∧ ¬ (q.rows * q.cols < (n : Int)) then grant (refitV q) else refuse 4 by rintro s rfl; rfl)
 unfold plaV at HA ⊢
 obtain ⟨s, hs⟩ : ∃ s, q.sized = s := ⟨_, rfl⟩
 rw [hs] at HA hrc
 have HV2 := hide ((unhide HV) s hs)
 have HB := hide h
 have M0 := hide ((Mod.refl No w).alloc (.cells #[.int .i64 q.rows, .int .i64 q.cols, .int .i64 q.front, .int .i64 q.l0, .int .i64 q.l1, .int .i64 q.l2, .int .i64 q.l3] 35))
 have B0 := hide (Has.new w #[.int .i64 q.rows, .int .i64 q.cols, .int .i64 q.front, .int .i64 q.l0, .int .i64 q.l1, .int .i64 q.l2, .int .i64 q.l3] 35)
 have HL := hide hlen
 have hlt := h.lt
 clear hs HV hlen h
 have hb : ∀ (x : Wd (w.alloc (.cells #[.int .i64 q.rows, .int .i64 q.cols, .int .i64 q.front, .int .i64 q.l0, .int .i64 q.l1, .int .i64 q.l2, .int .i64 q.l3] 35))) (o : Nat), x.W.cell? ⟨w.heap.size, o, none⟩ = _ := (unhide B0).wd
 have h7 : ∀ x : Wd (w.alloc (.cells #[.int .i64 q.rows, .int .i64 q.cols, .int .i64 q.front, .int .i64 q.l0, .int .i64 q.l1, .int .i64 q.l2, .int .i64 q.l3] 35)), x.W.cell? ⟨b, 7, none⟩ = some (.map (some m)) := fun x => by
  rw [((unhide M0).has (unhide HB) (fun x => x)).wd x 7, h7]
 have hL : ∀ (x : Wd (w.alloc (.cells #[.int .i64 q.rows, .int .i64 q.cols, .int .i64 q.front, .int .i64 q.l0, .int .i64 q.l1, .int .i64 q.l2, .int .i64 q.l3] 35))) ty, (Builtin.len_ #[136] ty #[.map (some m)]).run Try.prog x.W = .ok (.int .i64 (n : Nat)) x.W := fun x ty => (unhide HL) _ ((unhide M0).trans x.h) ty
 have hne := wd_ne (w.alloc (.cells #[.int .i64 q.rows, .int .i64 q.cols, .int .i64 q.front, .int .i64 q.l0, .int .i64 q.l1, .int .i64 q.l2, .int .i64 q.l3] 35))
 cases s with
 | false =>
  clear hrc h7 hL
  go_enter Try.func76, Try.ntmps76
  go_wp2_with fail
  refine wp_region_wd (w0 := (w.alloc (.cells #[.int .i64 q.rows, .int .i64 q.cols, .int .i64 q.front, .int .i64 q.l0, .int .i64 q.l1, .int .i64 q.l2, .int .i64 q.l3] 35))) (by kernel_rfl) (by kernel_rfl) (Mod.refl _ _) ?_
  repeat (go_big_quiet_step ((go_at_call 74; exact Calls.wd _ ((unhide HA) _))))
  refine wpQuiet_nil ?_
  rintro w3 ⟨⟨_, hm3⟩, rfl⟩
  go_wp2
  go_ret2
  exact ⟨by rw [unhide HV2, if_neg (by simp)]; rfl, (unhide M0).trans hm3⟩
 | true =>
  have hrc := hrc rfl
  by_cases hd : q.rows * q.cols < (n : Int)
  ·have HD := hide hd
   go_enter Try.func76, Try.ntmps76
   go_wp2_with fail
   refine wp_region_wd (w0 := (w.alloc (.cells #[.int .i64 q.rows, .int .i64 q.cols, .int .i64 q.front, .int .i64 q.l0, .int .i64 q.l1, .int .i64 q.l2, .int .i64 q.l3] 35))) (by kernel_rfl) (by kernel_rfl) (Mod.refl _ _) ?_
   repeat (go_big_quiet_step ((go_at_call 74; exact Calls.wd _ ((unhide HA) _))))
   refine wpQuiet_nil ?_
   rintro w3 ⟨⟨_, hm3⟩, rfl⟩
   go_wp2
   go_ret2
   exact ⟨by rw [unhide HV2, if_neg (by have := unhide HD; omega)]; rfl, (unhide M0).trans hm3⟩
  ·have HD := hide hd
   have BX := hide fun (w3 : World) (hm3 : Mod No (w.alloc (.cells #[.int .i64 q.rows, .int .i64 q.cols, .int .i64 q.front, .int .i64 q.l0, .int .i64 q.l1, .int .i64 q.l2, .int .i64 q.l3] 35)) w3) => (hm3.has (unhide B0) (fun x => x))
   go_enter Try.func76, Try.ntmps76
   go_wp2_with fail
   refine wp_region_wd (w0 := (w.alloc (.cells #[.int .i64 q.rows, .int .i64 q.cols, .int .i64 q.front, .int .i64 q.l0, .int .i64 q.l1, .int .i64 q.l2, .int .i64 q.l3] 35))) (by kernel_rfl) (by kernel_rfl) (Mod.refl _ _) ?_
   repeat (go_big_quiet_step ((go_at_call 74; exact Calls.wd _ ((unhide HA) _))))
   refine wpQuiet_nil ?_
   rintro w3 ⟨⟨_, hm3⟩, rfl⟩
   have cb3 := ((unhide BX) w3 hm3).cell
   go_wp2
   go_ret2
   exact ⟨by rw [unhide HV2, if_pos (by have := unhide HD; simp; omega)]; rfl, (unhide M0).trans hm3⟩
theorem look_swap (b : Nat) (c : Cmd) (now : Int) (x y : Value) (hk : c.kind = 9) (w : World)
  (hS : ∀ W, Mod No w W → Calls Try.prog 76 #[.pointer (some ⟨b, 0, none⟩), plaV c.pla] W fun e w' => e = .returned (.tuple #[x, y]) ∧ Mod No W w') :
  Calls Try.prog 60 #[.pointer (some ⟨b, 0, none⟩), .agg (cmdCells c), .int .i64 now] w fun e w' => e = .returned (.tuple #[x, y]) ∧ Mod No w w' := by
 have HS := hide hS
 have M0 := hide ((Mod.refl No w).alloc (.cells (cmdCells c) 37))
 unfold cmdCells at M0 ⊢
 unfold plaV at HS
 rw [hk] at M0 ⊢
 clear hk hS
 go_enter Try.func60, Try.ntmps60
 go_wp2_with fail
 refine ((unhide HS) _ (unhide M0)).mono ?_
 rintro e w1 ⟨rfl, m1⟩
 have M1 := hide ((unhide M0).trans m1)
 clear m1
 go_wp2
 go_ret2
 exact ⟨rfl, unhide M1⟩
end Go.Proofs.Ythhibagcpjeihaa
