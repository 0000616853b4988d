import Derived.Test.YtlcbemcamdafjaaCfoldedBegunPg1
import Derived.Deep.RegionLawGrows
import Derived.Deep.DeepCutAuto
import Derived.Deep.MidRow
/- Pages of seats: what is behind a cursor. -/
namespace Go.Proofs.Ytlcbemcamdafjaa
open Go.RowKit
open M
set_option linter.unusedVariables false
set_option linter.unusedSimpArgs false
set_option maxRecDepth 100000
set_option maxHeartbeats 2000000

/-- A call of a Go function, as one step of a region that draws. -/
theorem step_call {P : Program} {ops : Array Oper} {o : Oper} {a : Act} {w : World} {K : Act → World → Prop} {Q : Exit → Act → World → Prop} {E : Prop}
    (hg : o.guard = none) (f : FuncId) (args : Array Operand) (tys : Array TypeId) (hop : o.op = Op.call { callee := Callee.value (Operand.func f), args := args, argTypes := tys })
    (vs : Array Value) (hvs : args.map a.eval = vs) (hcf : ∀ W, (callFunc f vs).run P W = .ok (.enter f vs) W) (v : Value) (R : World → Prop) (hc : Calls P f vs w fun e w' => e = .returned v ∧ R w')
    (hK : ∀ w', R w' → K (a.put o.dst v) w') : if Region.wanted o (yielded ops a.tmps) = true then Oper.wp P o a w K Q else E := by
  have hw : Region.wanted o (yielded ops a.tmps) = true := by simp [Region.wanted, hg]
  rw [if_pos hw]
  unfold Oper.wp execOp
  simp [go_sem, hop, hvs]
  rw [hcf]
  simp [go_sem]
  refine hc.mono ?_
  rintro e w' ⟨rfl, hr⟩
  exact hK _ hr

/-- How many seats are ahead of the first one behind a cursor; why there is none. -/
def behindK (p : Pla) (r c e : Int) : Int × Int :=
  if r = 0 ∧ c = 0 ∧ e = 0 then (0, 0) else if e ≠ p.ep then (0, 13) else if p.has r c = false then (0, 5) else ((p.idx r c : Int) + 1, 0)

theorem behind_r {w : World} {b m clock : Nat} {p : Pla} {l : List Sea} {es : List MEnt} (h : FlX w b p l m es clock) (hwf : Wf p l) (r c e : Int) (hq0 : r ≠ 0) :
    Calls Try.prog 54 #[.pointer (some ⟨b, 0, none⟩), .agg #[.int .i64 r, .int .i64 c, .int .i64 e]] w fun e' w' => e' = .returned (.tuple #[.int .i64 (behindK p r c e).1, .int .i64 (behindK p r c e).2]) ∧ Mod No w w' := by
  have mA : Mod No w (w.alloc (.cells #[.int .i64 r, .int .i64 c, .int .i64 e] 63)) := (Mod.refl _ w).alloc _
  have MA := hide mA
  have c24 := (mA.has h.has (fun x => x)).cell 24
  rw [show (fcells p (.map (some m)) l)[24]? = some (.int .i64 p.ep) from rfl] at c24
  have hlt := (mA.has h.has (fun x => x)).lt
  have HH := hide fun W (hW : Mod No w W) => (show Calls Try.prog 62 #[.pointer (some ⟨b, 0, none⟩), .agg #[.int .i64 r, .int .i64 c]] W fun e w' => e = .returned (.bool (p.has r c)) ∧ Mod No W w' from has_walk b r c p.rows p.cols _ W (hW.has h.has (fun x => x)) rfl rfl)
  have hB := hwf.bounds
  simp only at hB
  have HAH := hide fun W (hW : Mod No w W) (hh : p.has r c = true) => (show Calls Try.prog 70 #[.pointer (some ⟨b, 0, none⟩), .agg #[.int .i64 r, .int .i64 c]] W fun e w' => e = .returned (.int .i64 (p.idx r c : Int)) ∧ Mod No W w' from by
    simp only [Pla.has, decide_eq_true_eq] at hh
    have := ahead_walk b _ _ r c p.cols W (hW.has h.has (fun x => x)) rfl (by omega) (by omega) (by omega)
    have hi : (r - 1) * p.cols + c - 1 = (p.idx r c : Int) := by
      unfold Pla.idx
      have m3 : 0 ≤ (r - 1) * p.cols := Int.mul_nonneg (by omega) (by omega)
      omega
    rw [hi] at this
    exact this)
  have BA := hide (Has.new w #[.int .i64 r, .int .i64 c, .int .i64 e] 63)
  have HI := hide fun (hh : p.has r c = true) => (show IntKind.i64.wrap ((p.idx r c : Int) + 1) = (p.idx r c : Int) + 1 from by
    have := Fli.wf.idx_lt hwf hh
    have hl := Fli.wf.len_le hwf
    simp only at this hl
    exact wrap_id _ (by omega) (by omega))
  clear h hwf hB mA
  unfold behindK
  rw [if_neg (by rintro ⟨h1, h2, h3⟩; first | exact hq0 h1 | exact hq0 h2 | exact hq0 h3)]
  have hq : (r == 0) = false := by simpa using hq0
  clear hq0
  by_cases he : e = p.ep
  case neg =>
    rw [if_pos he]
    have hne : (e != p.ep) = true := by simpa using he
    clear he
    go_enter Try.func54, Try.ntmps54
    go_wp2
    go_quiet (fail)
    go_wp2
    go_ret2
    exact ⟨rfl, (unhide MA).drewN _⟩
  rw [if_neg (by simpa using he)]
  have hne : (e != p.ep) = false := by simpa using he
  by_cases hh : p.has r c = true
  case neg =>
    have hh' : p.has r c = false := by simpa using hh
    rw [if_pos hh']
    rw [hh'] at HH
    clear he hh hh' HI HAH
    go_enter Try.func54, Try.ntmps54
    go_wp2
    go_quiet (fail)
    go_wp2_with fail
    refine ((unhide HH) _ ((unhide MA).drewN _)).mono ?_
    rintro e5 w5 ⟨rfl, m5⟩
    have M5 := hide (((unhide MA).drewN _).trans m5)
    clear m5
    go_wp2
    go_ret2
    exact ⟨rfl, unhide M5⟩
  rw [if_neg (by simp [hh])]
  have hw := (unhide HI) hh
  have HA := hide fun W (hW : Mod No w W) => (unhide HAH) W hW hh
  rw [hh] at HH
  clear he hh HI HAH
  go_enter Try.func54, Try.ntmps54
  go_wp2
  go_quiet (fail)
  go_wp2_with fail
  refine ((unhide HH) _ ((unhide MA).drewN _)).mono ?_
  rintro e5 w5 ⟨rfl, m5⟩
  have b5 := (m5.has ((unhide BA).drewN _) (fun x => x)).cell
  have l5 := (m5.has ((unhide BA).drewN _) (fun x => x)).lt
  have M5 := hide (((unhide MA).drewN _).trans m5)
  clear m5
  go_wp2_with fail
  refine ((unhide HA) _ (unhide M5)).mono ?_
  rintro e6 w6 ⟨rfl, m6⟩
  have M6 := hide ((unhide M5).trans m6)
  clear m6
  go_wp2
  go_ret2
  exact ⟨rfl, unhide M6⟩

theorem behind_c {w : World} {b m clock : Nat} {p : Pla} {l : List Sea} {es : List MEnt} (h : FlX w b p l m es clock) (hwf : Wf p l) (c e : Int) (hq0 : c ≠ 0) :
    Calls Try.prog 54 #[.pointer (some ⟨b, 0, none⟩), .agg #[.int .i64 0, .int .i64 c, .int .i64 e]] w fun e' w' => e' = .returned (.tuple #[.int .i64 (behindK p 0 c e).1, .int .i64 (behindK p 0 c e).2]) ∧ Mod No w w' := by
  have mA : Mod No w (w.alloc (.cells #[.int .i64 0, .int .i64 c, .int .i64 e] 63)) := (Mod.refl _ w).alloc _
  have MA := hide mA
  have c24 := (mA.has h.has (fun x => x)).cell 24
  rw [show (fcells p (.map (some m)) l)[24]? = some (.int .i64 p.ep) from rfl] at c24
  have hlt := (mA.has h.has (fun x => x)).lt
  have HH := hide fun W (hW : Mod No w W) => (show Calls Try.prog 62 #[.pointer (some ⟨b, 0, none⟩), .agg #[.int .i64 0, .int .i64 c]] W fun e w' => e = .returned (.bool (p.has 0 c)) ∧ Mod No W w' from has_walk b 0 c p.rows p.cols _ W (hW.has h.has (fun x => x)) rfl rfl)
  have hB := hwf.bounds
  simp only at hB
  have HAH := hide fun W (hW : Mod No w W) (hh : p.has 0 c = true) => (show Calls Try.prog 70 #[.pointer (some ⟨b, 0, none⟩), .agg #[.int .i64 0, .int .i64 c]] W fun e w' => e = .returned (.int .i64 (p.idx 0 c : Int)) ∧ Mod No W w' from by
    simp only [Pla.has, decide_eq_true_eq] at hh
    have := ahead_walk b _ _ 0 c p.cols W (hW.has h.has (fun x => x)) rfl (by omega) (by omega) (by omega)
    have hi : (0 - 1) * p.cols + c - 1 = (p.idx 0 c : Int) := by
      unfold Pla.idx
      have m3 : 0 ≤ (0 - 1) * p.cols := Int.mul_nonneg (by omega) (by omega)
      omega
    rw [hi] at this
    exact this)
  have BA := hide (Has.new w #[.int .i64 0, .int .i64 c, .int .i64 e] 63)
  have HI := hide fun (hh : p.has 0 c = true) => (show IntKind.i64.wrap ((p.idx 0 c : Int) + 1) = (p.idx 0 c : Int) + 1 from by
    have := Fli.wf.idx_lt hwf hh
    have hl := Fli.wf.len_le hwf
    simp only at this hl
    exact wrap_id _ (by omega) (by omega))
  clear h hwf hB mA
  unfold behindK
  rw [if_neg (by rintro ⟨h1, h2, h3⟩; first | exact hq0 h1 | exact hq0 h2 | exact hq0 h3)]
  have hq : (c == 0) = false := by simpa using hq0
  clear hq0
  by_cases he : e = p.ep
  case neg =>
    rw [if_pos he]
    have hne : (e != p.ep) = true := by simpa using he
    clear he
    go_enter Try.func54, Try.ntmps54
    go_wp2
    go_quiet (fail)
    go_wp2
    go_ret2
    exact ⟨rfl, (unhide MA).drewN _⟩
  rw [if_neg (by simpa using he)]
  have hne : (e != p.ep) = false := by simpa using he
  by_cases hh : p.has 0 c = true
  case neg =>
    have hh' : p.has 0 c = false := by simpa using hh
    rw [if_pos hh']
    rw [hh'] at HH
    clear he hh hh' HI HAH
    go_enter Try.func54, Try.ntmps54
    go_wp2
    go_quiet (fail)
    go_wp2_with fail
    refine ((unhide HH) _ ((unhide MA).drewN _)).mono ?_
    rintro e5 w5 ⟨rfl, m5⟩
    have M5 := hide (((unhide MA).drewN _).trans m5)
    clear m5
    go_wp2
    go_ret2
    exact ⟨rfl, unhide M5⟩
  rw [if_neg (by simp [hh])]
  have hw := (unhide HI) hh
  have HA := hide fun W (hW : Mod No w W) => (unhide HAH) W hW hh
  rw [hh] at HH
  clear he hh HI HAH
  go_enter Try.func54, Try.ntmps54
  go_wp2
  go_quiet (fail)
  go_wp2_with fail
  refine ((unhide HH) _ ((unhide MA).drewN _)).mono ?_
  rintro e5 w5 ⟨rfl, m5⟩
  have b5 := (m5.has ((unhide BA).drewN _) (fun x => x)).cell
  have l5 := (m5.has ((unhide BA).drewN _) (fun x => x)).lt
  have M5 := hide (((unhide MA).drewN _).trans m5)
  clear m5
  go_wp2_with fail
  refine ((unhide HA) _ (unhide M5)).mono ?_
  rintro e6 w6 ⟨rfl, m6⟩
  have M6 := hide ((unhide M5).trans m6)
  clear m6
  go_wp2
  go_ret2
  exact ⟨rfl, unhide M6⟩

theorem behind_e {w : World} {b m clock : Nat} {p : Pla} {l : List Sea} {es : List MEnt} (h : FlX w b p l m es clock) (hwf : Wf p l) (e : Int) (hq0 : e ≠ 0) :
    Calls Try.prog 54 #[.pointer (some ⟨b, 0, none⟩), .agg #[.int .i64 0, .int .i64 0, .int .i64 e]] w fun e' w' => e' = .returned (.tuple #[.int .i64 (behindK p 0 0 e).1, .int .i64 (behindK p 0 0 e).2]) ∧ Mod No w w' := by
  have mA : Mod No w (w.alloc (.cells #[.int .i64 0, .int .i64 0, .int .i64 e] 63)) := (Mod.refl _ w).alloc _
  have MA := hide mA
  have c24 := (mA.has h.has (fun x => x)).cell 24
  rw [show (fcells p (.map (some m)) l)[24]? = some (.int .i64 p.ep) from rfl] at c24
  have hlt := (mA.has h.has (fun x => x)).lt
  have HH := hide fun W (hW : Mod No w W) => (show Calls Try.prog 62 #[.pointer (some ⟨b, 0, none⟩), .agg #[.int .i64 0, .int .i64 0]] W fun e w' => e = .returned (.bool (p.has 0 0)) ∧ Mod No W w' from has_walk b 0 0 p.rows p.cols _ W (hW.has h.has (fun x => x)) rfl rfl)
  have hB := hwf.bounds
  simp only at hB
  have HAH := hide fun W (hW : Mod No w W) (hh : p.has 0 0 = true) => (show Calls Try.prog 70 #[.pointer (some ⟨b, 0, none⟩), .agg #[.int .i64 0, .int .i64 0]] W fun e w' => e = .returned (.int .i64 (p.idx 0 0 : Int)) ∧ Mod No W w' from by
    simp only [Pla.has, decide_eq_true_eq] at hh
    have := ahead_walk b _ _ 0 0 p.cols W (hW.has h.has (fun x => x)) rfl (by omega) (by omega) (by omega)
    have hi : (0 - 1) * p.cols + 0 - 1 = (p.idx 0 0 : Int) := by
      unfold Pla.idx
      have m3 : 0 ≤ (0 - 1) * p.cols := Int.mul_nonneg (by omega) (by omega)
      omega
    rw [hi] at this
    exact this)
  have BA := hide (Has.new w #[.int .i64 0, .int .i64 0, .int .i64 e] 63)
  have HI := hide fun (hh : p.has 0 0 = true) => (show IntKind.i64.wrap ((p.idx 0 0 : Int) + 1) = (p.idx 0 0 : Int) + 1 from by
    have := Fli.wf.idx_lt hwf hh
    have hl := Fli.wf.len_le hwf
    simp only at this hl
    exact wrap_id _ (by omega) (by omega))
  clear h hwf hB mA
  unfold behindK
  rw [if_neg (by rintro ⟨h1, h2, h3⟩; first | exact hq0 h1 | exact hq0 h2 | exact hq0 h3)]
  have hq : (e == 0) = false := by simpa using hq0
  clear hq0
  by_cases he : e = p.ep
  case neg =>
    rw [if_pos he]
    have hne : (e != p.ep) = true := by simpa using he
    clear he
    go_enter Try.func54, Try.ntmps54
    go_wp2
    go_quiet (fail)
    go_wp2
    go_ret2
    exact ⟨rfl, (unhide MA).drewN _⟩
  rw [if_neg (by simpa using he)]
  have hne : (e != p.ep) = false := by simpa using he
  by_cases hh : p.has 0 0 = true
  case neg =>
    have hh' : p.has 0 0 = false := by simpa using hh
    rw [if_pos hh']
    rw [hh'] at HH
    clear he hh hh' HI HAH
    go_enter Try.func54, Try.ntmps54
    go_wp2
    go_quiet (fail)
    go_wp2_with fail
    refine ((unhide HH) _ ((unhide MA).drewN _)).mono ?_
    rintro e5 w5 ⟨rfl, m5⟩
    have M5 := hide (((unhide MA).drewN _).trans m5)
    clear m5
    go_wp2
    go_ret2
    exact ⟨rfl, unhide M5⟩
  rw [if_neg (by simp [hh])]
  have hw := (unhide HI) hh
  have HA := hide fun W (hW : Mod No w W) => (unhide HAH) W hW hh
  rw [hh] at HH
  clear he hh HI HAH
  go_enter Try.func54, Try.ntmps54
  go_wp2
  go_quiet (fail)
  go_wp2_with fail
  refine ((unhide HH) _ ((unhide MA).drewN _)).mono ?_
  rintro e5 w5 ⟨rfl, m5⟩
  have b5 := (m5.has ((unhide BA).drewN _) (fun x => x)).cell
  have l5 := (m5.has ((unhide BA).drewN _) (fun x => x)).lt
  have M5 := hide (((unhide MA).drewN _).trans m5)
  clear m5
  go_wp2_with fail
  refine ((unhide HA) _ (unhide M5)).mono ?_
  rintro e6 w6 ⟨rfl, m6⟩
  have M6 := hide ((unhide M5).trans m6)
  clear m6
  go_wp2
  go_ret2
  exact ⟨rfl, unhide M6⟩

theorem behind_any {w : World} {b m clock : Nat} {p : Pla} {l : List Sea} {es : List MEnt} (h : FlX w b p l m es clock) (hwf : Wf p l) (r c e : Int) :
    Calls Try.prog 54 #[.pointer (some ⟨b, 0, none⟩), .agg #[.int .i64 r, .int .i64 c, .int .i64 e]] w fun e' w' => e' = .returned (.tuple #[.int .i64 (behindK p r c e).1, .int .i64 (behindK p r c e).2]) ∧ Mod No w w' := by
  have mA : Mod No w (w.alloc (.cells #[.int .i64 r, .int .i64 c, .int .i64 e] 63)) := (Mod.refl _ w).alloc _
  have MA := hide mA
  have c24 := (mA.has h.has (fun x => x)).cell 24
  rw [show (fcells p (.map (some m)) l)[24]? = some (.int .i64 p.ep) from rfl] at c24
  have hlt := (mA.has h.has (fun x => x)).lt
  have HH := hide fun W (hW : Mod No w W) => (show Calls Try.prog 62 #[.pointer (some ⟨b, 0, none⟩), .agg #[.int .i64 r, .int .i64 c]] W fun e w' => e = .returned (.bool (p.has r c)) ∧ Mod No W w' from has_walk b r c p.rows p.cols _ W (hW.has h.has (fun x => x)) rfl rfl)
  have hB := hwf.bounds
  simp only at hB
  have HAH := hide fun W (hW : Mod No w W) (hh : p.has r c = true) => (show Calls Try.prog 70 #[.pointer (some ⟨b, 0, none⟩), .agg #[.int .i64 r, .int .i64 c]] W fun e w' => e = .returned (.int .i64 (p.idx r c : Int)) ∧ Mod No W w' from by
    simp only [Pla.has, decide_eq_true_eq] at hh
    have := ahead_walk b _ _ r c p.cols W (hW.has h.has (fun x => x)) rfl (by omega) (by omega) (by omega)
    have hi : (r - 1) * p.cols + c - 1 = (p.idx r c : Int) := by
      unfold Pla.idx
      have m3 : 0 ≤ (r - 1) * p.cols := Int.mul_nonneg (by omega) (by omega)
      omega
    rw [hi] at this
    exact this)
  have BA := hide (Has.new w #[.int .i64 r, .int .i64 c, .int .i64 e] 63)
  have HI := hide fun (hh : p.has r c = true) => (show IntKind.i64.wrap ((p.idx r c : Int) + 1) = (p.idx r c : Int) + 1 from by
    have := Fli.wf.idx_lt hwf hh
    have hl := Fli.wf.len_le hwf
    simp only at this hl
    exact wrap_id _ (by omega) (by omega))
  have H0 := h
  have H1 := hwf
  clear h hwf hB mA
  unfold behindK
  by_cases hz : r = 0 ∧ c = 0 ∧ e = 0
  · rw [if_pos hz]
    obtain ⟨rfl, rfl, rfl⟩ := hz
    go_enter Try.func54, Try.ntmps54
    go_wp2
    go_ret2
    exact ⟨rfl, unhide MA⟩
  clear HH HAH BA HI c24 hlt MA
  by_cases h1 : r = 0
  · by_cases h2 : c = 0
    · have h3 : e ≠ 0 := fun h3 => hz ⟨h1, h2, h3⟩
      subst h1
      subst h2
      have := behind_e H0 H1 e h3
      unfold behindK at this
      exact this
    · subst h1
      have := behind_c H0 H1 c e h2
      unfold behindK at this
      exact this
  · have := behind_r H0 H1 r c e h1
    unfold behindK at this
    exact this
end Go.Proofs.Ytlcbemcamdafjaa
/- Pages of seats: the model; a page that is refused. -/
namespace Go.Proofs.Ytlcbemcamdafjaa
open Go.RowKit
open M
set_option linter.unusedVariables false
set_option linter.unusedSimpArgs false
set_option maxRecDepth 100000
set_option maxHeartbeats 4000000

/-- The place of the last seat; another one, if there is none. -/
def lastAt (r c : Int) (L : List Sea) : Int × Int := match L.getLast? with
  | none => (r, c)
  | some s => (s.row, s.col)

structure PageR where
  seats : List Sea
  r : Int
  c : Int
  ep : Int
  more : Bool
  err : Int

def pageK (p : Pla) (l : List Sea) (r c e size : Int) : PageR :=
  if size < 1 ∨ size > 30 then ⟨[], 0, 0, 0, false, 12⟩
  else if (behindK p r c e).2 ≠ 0 then ⟨[], 0, 0, 0, false, (behindK p r c e).2⟩
  else ⟨(l.drop (behindK p r c e).1.toNat).take size.toNat, (lastAt r c ((l.drop (behindK p r c e).1.toNat).take size.toNat)).1, (lastAt r c ((l.drop (behindK p r c e).1.toNat).take size.toNat)).2, p.ep,
    decide ((behindK p r c e).1.toNat + ((l.drop (behindK p r c e).1.toNat).take size.toNat).length < l.length), 0⟩

/-- A page, told: its list is new. -/
structure Told (w w' : World) (e : Ending) (R : PageR) : Prop where
  ex : ∃ v, e = .returned (.tuple #[.agg #[v, .int .i64 R.r, .int .i64 R.c, .int .i64 R.ep, .bool R.more], .int .i64 R.err]) ∧ w'.ownsRow 0 61 6 v R.seats.length (R.seats.flatMap seaL) ∧ ∀ k, v.ownBlock = some k → w.heap.size ≤ k
  mod : Mod No w w'

theorem page_size (b : Nat) (r c e size : Int) (hs : size < 1 ∨ size > 30) (w : World) :
    Calls Try.prog 46 #[.pointer (some ⟨b, 0, none⟩), .agg #[.int .i64 r, .int .i64 c, .int .i64 e], .int .i64 size] w fun e w' => Told w w' e ⟨[], 0, 0, 0, false, 12⟩ := by
  have fin : ∀ o1 o2, Told w ((w.alloc o1).alloc o2) (.returned (.tuple #[.agg #[.slice none 0 0, .int .i64 0, .int .i64 0, .int .i64 0, .bool false], .int .i64 12])) ⟨[], 0, 0, 0, false, 12⟩ := fun o1 o2 =>
    ⟨⟨.slice none 0 0, rfl, World.ownsRow_nil _ _ _ _, fun k hk => by simp [Value.ownBlock] at hk⟩, ((Mod.refl _ w).alloc _).alloc _⟩
  rcases Int.lt_or_le size 1 with h1 | h1
  · clear hs
    go_enter Try.func46, Try.ntmps46
    go_wp2
    refine bodyPost_ret (by simp [results, Try.results46, go_sem]; try rfl) rfl ?_
    exact fin _ _
  · have h2 : size > 30 := by omega
    have h1' : ¬ size < 1 := by omega
    clear hs h1
    go_enter Try.func46, Try.ntmps46
    go_wp2
    refine bodyPost_ret (by simp [results, Try.results46, go_sem]; try rfl) rfl ?_
    exact fin _ _

theorem page_stale (b : Nat) (r c e size x : Int) (hs : 1 ≤ size ∧ size ≤ 30) (hx : x ≠ 0) (w : World)
    (hB : ∀ W, Mod No w W → Calls Try.prog 54 #[.pointer (some ⟨b, 0, none⟩), .agg #[.int .i64 r, .int .i64 c, .int .i64 e]] W fun e' w' => e' = .returned (.tuple #[.int .i64 0, .int .i64 x]) ∧ Mod No W w') :
    Calls Try.prog 46 #[.pointer (some ⟨b, 0, none⟩), .agg #[.int .i64 r, .int .i64 c, .int .i64 e], .int .i64 size] w fun e w' => Told w w' e ⟨[], 0, 0, 0, false, x⟩ := by
  have HB := hide hB
  have hne : (x != 0) = true := by simpa using hx
  have h1 : ¬ size < 1 := by omega
  have h2 : ¬ size > 30 := by omega
  have mA : Mod No w ((w.alloc (.cells #[.int .i64 r, .int .i64 c, .int .i64 e] 63)).alloc (.cells #[.slice none 0 0, .int .i64 0, .int .i64 0, .int .i64 0, .bool false] 65)) := ((Mod.refl _ w).alloc _).alloc _
  have MA := hide mA
  have nR := Has.new (w.alloc (.cells #[.int .i64 r, .int .i64 c, .int .i64 e] 63)) #[.slice none 0 0, .int .i64 0, .int .i64 0, .int .i64 0, .bool false] 65
  rw [World.size_alloc] at nR
  have NR := hide nR
  clear hB hs hx mA nR
  go_enter Try.func46, Try.ntmps46
  go_wp2_with fail
  refine ((unhide HB) _ (unhide MA)).mono ?_
  rintro e1 w1 ⟨rfl, m1⟩
  have R1 := m1.has (unhide NR) (fun x => x)
  have M1 := hide ((unhide MA).trans m1)
  have d0 : w1.cell? ⟨w.heap.size + 1, 0, none⟩ = some (.slice none 0 0) := R1.cell 0
  have d1 : w1.cell? ⟨w.heap.size + 1, 1, none⟩ = some (.int .i64 0) := R1.cell 1
  have d2 : w1.cell? ⟨w.heap.size + 1, 2, none⟩ = some (.int .i64 0) := R1.cell 2
  have d3 : w1.cell? ⟨w.heap.size + 1, 3, none⟩ = some (.int .i64 0) := R1.cell 3
  have d4 : w1.cell? ⟨w.heap.size + 1, 4, none⟩ = some (.bool false) := R1.cell 4
  have f1 := R1.frozen
  have l1 := R1.lt
  clear m1 R1
  go_wp2
  refine bodyPost_ret (by simp [results, Try.results46, go_sem, d0, d1, d2, d3, d4]; try rfl) rfl ?_
  refine ⟨⟨.slice none 0 0, rfl, World.ownsRow_nil _ _ _ _, fun k hk => by simp [Value.ownBlock] at hk⟩, ?_⟩
  have hp : ∀ o, No (⟨w.heap.size + 1, o, none⟩ : Addr).block ∨ w.heap.size ≤ (⟨w.heap.size + 1, o, none⟩ : Addr).block := fun o => .inr (by simp)
  exact (((((unhide M1).setCell (hp 0) _).setCell (hp 1) _).setCell (hp 2) _).setCell (hp 3) _).setCell (hp 4) _
end Go.Proofs.Ytlcbemcamdafjaa
/- Pages of seats: a page is filled. -/
namespace Go.Proofs.Ytlcbemcamdafjaa
open Go.RowKit
open M
set_option linter.unusedVariables false
set_option linter.unusedSimpArgs false
set_option maxRecDepth 100000
set_option maxHeartbeats 4000000
attribute [local go_sem ↓] run_min2 run_max2

/-- The size, by a contract that leaves all but the draws. -/
theorem size_draws (b : Nat) (cs : Array Value) (T : TypeId) (R C : Int) (w : World) (h : Has w b cs T) (h0 : cs[0]? = some (.int .i64 R)) (h1 : cs[1]? = some (.int .i64 C)) (hw : IntKind.i64.wrap (R * C) = R * C) :
    Calls Try.prog 55 #[.pointer (some ⟨b, 0, none⟩)] w fun e w' => e = .returned (.int .i64 (R * C)) ∧ ∃ n, w' = w.drewN n := by
  have c0 := h.cell 0
  have c1 := h.cell 1
  rw [h0] at c0
  rw [h1] at c1
  have hlt := h.lt
  clear h h0 h1
  go_enter Try.func55, Try.ntmps55
  go_wp2
  go_quiet (fail)
  go_wp2
  go_ret
  exact ⟨rfl, _, rfl⟩

/-- What stands while a page is filled: i seats are in it. -/
structure PgI (w wr : World) (b m clock pb : Nat) (p : Pla) (l : List Sea) (es : List MEnt) (D : List Sea) (r c : Int) (more : Bool) (v : Value) (i : Nat) (j : Nat) : Prop where
  fl : FlX wr b p l m es clock
  page : Has wr pb #[v, .int .i64 (lastAt r c (D.take j)).1, .int .i64 (lastAt r c (D.take j)).2, .int .i64 p.ep, .bool more] 65
  row : wr.ownsRow 0 61 6 v i ((D.take i).flatMap seaL)
  new : ∀ k, v.ownBlock = some k → w.heap.size ≤ k ∧ k ≠ pb ∧ k ≠ w.heap.size + 1
  res : Has wr (w.heap.size + 1) #[.slice none 0 0, .int .i64 0, .int .i64 0, .int .i64 0, .bool false] 65
  pbn : w.heap.size ≤ pb ∧ pb ≠ w.heap.size + 1
  mod : Mod No w wr

theorem PgI.still {w wr w2 : World} {b m clock pb : Nat} {p : Pla} {l : List Sea} {es : List MEnt} {D : List Sea} {r c : Int} {more : Bool} {v : Value} {i j : Nat} (h : PgI w wr b m clock pb p l es D r c more v i j) (hm : Mod No wr w2) : PgI w w2 b m clock pb p l es D r c more v i j :=
  ⟨⟨hm.has h.fl.has (fun x => x), hm.map h.fl.map (fun x => x), h.fl.ok, h.fl.rel⟩, hm.has h.page (fun x => x), hm.owns h.row (fun _ _ x => x), h.new, hm.has h.res (fun x => x), h.pbn, h.mod.trans hm⟩

theorem lastAt_succ (r c : Int) (D : List Sea) (i : Nat) (hi : i < D.length) : lastAt r c (D.take (i + 1)) = (D[i].row, D[i].col) := by
  rw [take_succ D i hi]
  unfold lastAt
  rw [List.getLast?_append]
  simp

/-- A seat more is in the list; the page's end is not yet written. -/
theorem PgI.put {w wr w3 : World} {b m clock pb : Nat} {p : Pla} {l : List Sea} {es : List MEnt} {D : List Sea} {r c : Int} {more : Bool} {v v' : Value} {i : Nat} (h : PgI w wr b m clock pb p l es D r c more v i i) (hi : i < D.length) (o : Obj)
    (ho : w3.ownsRow 0 61 6 v' (i + 1) (((D.take i).flatMap seaL) ++ seaL D[i])) (hg : (wr.alloc o).grownBy w3 v.ownBlock) (hs : Stays (wr.alloc o) v v') (hb : b < w.heap.size) (hm' : m < w.heap.size) :
    PgI w (w3.setCell ⟨pb, 0, none⟩ v') b m clock pb p l es D r c more v' (i + 1) i := by
  have hm1 : Mod (fun k => v.ownBlock = some k) wr w3 := ((Mod.refl _ wr).alloc o).grown hg (fun k hk => .inl hk)
  have hpb := h.page.lt
  have hres := h.res.lt
  have hm2 : Mod (fun k => v.ownBlock = some k ∨ k = pb) wr (w3.setCell ⟨pb, 0, none⟩ v') := (hm1.mono (fun _ _ x => .inl x)).setCell (p := ⟨pb, 0, none⟩) (.inl (.inr rfl)) _
  have hn : ∀ k, k < w.heap.size → ¬ (v.ownBlock = some k ∨ k = pb) := fun k hk => by
    rintro (e | e)
    · have := (h.new k e).1; omega
    · have := h.pbn.1; omega
  have hnew : ∀ k, v'.ownBlock = some k → w.heap.size ≤ k ∧ k ≠ pb ∧ k ≠ w.heap.size + 1 := fun k hk => by
    rcases hs k hk with h1 | h1
    · exact h.new k h1
    · have := h.mod.size
      simp at h1
      omega
  refine ⟨⟨hm2.has h.fl.has (hn b hb), hm2.map h.fl.map (hn m hm'), h.fl.ok, h.fl.rel⟩, ?_, ?_, hnew, hm2.has h.res ?_, h.pbn, h.mod.trans' hm2 (fun k hk hl => hn k hl hk)⟩
  · have hp3 : Has w3 pb _ 65 := hm1.has h.page (fun e => (h.new pb e).2.1 rfl)
    exact hp3.set 0 v'
  · have : (D.take (i + 1)).flatMap seaL = (D.take i).flatMap seaL ++ seaL D[i] := by rw [take_succ D i hi, List.flatMap_append]; simp
    rw [this]
    exact owns_setCell_ne ho (by
      intro e
      exact (hnew pb (by simpa using e)).2.1 rfl) _
  · rintro (e | e)
    · exact (h.new _ e).2.2 rfl
    · exact h.pbn.2 e.symm

theorem PgI.end_ {w wr : World} {b m clock pb : Nat} {p : Pla} {l : List Sea} {es : List MEnt} {D : List Sea} {r c : Int} {more : Bool} {v : Value} {i : Nat} (h : PgI w wr b m clock pb p l es D r c more v (i + 1) i) (hi : i < D.length) (hb : b < w.heap.size) (hm' : m < w.heap.size) :
    PgI w ((wr.setCell ⟨pb, 1, none⟩ (.int .i64 D[i].row)).setCell ⟨pb, 2, none⟩ (.int .i64 D[i].col)) b m clock pb p l es D r c more v (i + 1) (i + 1) := by
  have hm2 : Mod (fun k => k = pb) wr ((wr.setCell ⟨pb, 1, none⟩ (.int .i64 D[i].row)).setCell ⟨pb, 2, none⟩ (.int .i64 D[i].col)) := ((Mod.refl _ wr).at 1 _).at 2 _
  have hn : ∀ k, k < w.heap.size → ¬ k = pb := fun k hk e => by have := h.pbn.1; omega
  refine ⟨⟨hm2.has h.fl.has (hn b hb), hm2.map h.fl.map (hn m hm'), h.fl.ok, h.fl.rel⟩, ?_, hm2.owns h.row (fun k hk e => (h.new k hk).2.1 e), h.new, hm2.has h.res (fun e => h.pbn.2 e.symm), h.pbn, h.mod.trans' hm2 (fun k hk hl => hn k hl hk)⟩
  rw [lastAt_succ r c D i hi]
  exact (h.page.set 1 _).set 2 _
end Go.Proofs.Ytlcbemcamdafjaa
