import Derived.Test.YtlcbemcamdafjaaCpagedRowSPg1
import Derived.Deep.RegionLawGrows
/- Pages of seats: what is behind a cursor. -/
namespace Go.Proofs.Ytlcbemcamdafjaa
open Go.RowKit
open M
set_option linter.unusedVariables false
set_option linter.unusedSimpArgs false
set_option maxRecDepth 100000
set_option maxHeartbeats 2000000

/-- A call of a Go function, as one step of a region that draws. -/
theorem step_call {P : Program} {ops : Array Oper} {o : Oper} {a : Act} {w : World} {K : Act → World → Prop} {Q : Exit → Act → World → Prop} {E : Prop}
    (hg : o.guard = none) (f : FuncId) (args : Array Operand) (tys : Array TypeId) (hop : o.op = Op.call { callee := Callee.value (Operand.func f), args := args, argTypes := tys })
    (vs : Array Value) (hvs : args.map a.eval = vs) (hcf : ∀ W, (callFunc f vs).run P W = .ok (.enter f vs) W) (v : Value) (R : World → Prop) (hc : Calls P f vs w fun e w' => e = .returned v ∧ R w')
    (hK : ∀ w', R w' → K (a.put o.dst v) w') : if Region.wanted o (yielded ops a.tmps) = true then Oper.wp P o a w K Q else E := by
  have hw : Region.wanted o (yielded ops a.tmps) = true := by simp [Region.wanted, hg]
  rw [if_pos hw]
  unfold Oper.wp execOp
  simp [go_sem, hop, hvs]
  rw [hcf]
  simp [go_sem]
  refine hc.mono ?_
  rintro e w' ⟨rfl, hr⟩
  exact hK _ hr

/-- How many seats are ahead of the first one behind a cursor; why there is none. -/
def behindK (p : Pla) (r c e : Int) : Int × Int :=
  if r = 0 ∧ c = 0 ∧ e = 0 then (0, 0) else if e ≠ p.ep then (0, 13) else if p.has r c = false then (0, 5) else ((p.idx r c : Int) + 1, 0)

theorem behind_r {w : World} {b m clock : Nat} {p : Pla} {l : List Sea} {es : List MEnt} (h : FlX w b p l m es clock) (hwf : Wf p l) (r c e : Int) (hq0 : r ≠ 0) :
    Calls Try.prog 54 #[.pointer (some ⟨b, 0, none⟩), .agg #[.int .i64 r, .int .i64 c, .int .i64 e]] w fun e' w' => e' = .returned (.tuple #[.int .i64 (behindK p r c e).1, .int .i64 (behindK p r c e).2]) ∧ Mod No w w' := by
  have mA : Mod No w (w.alloc (.cells #[.int .i64 r, .int .i64 c, .int .i64 e] 63)) := (Mod.refl _ w).alloc _
  have MA := hide mA
  have c24 := (mA.has h.has (fun x => x)).cell 24
  rw [show (fcells p (.map (some m)) l)[24]? = some (.int .i64 p.ep) from rfl] at c24
  have hlt := (mA.has h.has (fun x => x)).lt
  have HH := hide fun W (hW : Mod No w W) => (show Calls Try.prog 62 #[.pointer (some ⟨b, 0, none⟩), .agg #[.int .i64 r, .int .i64 c]] W fun e w' => e = .returned (.bool (p.has r c)) ∧ Mod No W w' from has_walk b r c p.rows p.cols _ W (hW.has h.has (fun x => x)) rfl rfl)
  have hB := hwf.bounds
  simp only at hB
  have HAH := hide fun W (hW : Mod No w W) (hh : p.has r c = true) => (show Calls Try.prog 70 #[.pointer (some ⟨b, 0, none⟩), .agg #[.int .i64 r, .int .i64 c]] W fun e w' => e = .returned (.int .i64 (p.idx r c : Int)) ∧ Mod No W w' from by
    simp only [Pla.has, decide_eq_true_eq] at hh
    have := ahead_walk b _ _ r c p.cols W (hW.has h.has (fun x => x)) rfl (by omega) (by omega) (by omega)
    have hi : (r - 1) * p.cols + c - 1 = (p.idx r c : Int) := by
      unfold Pla.idx
      have m3 : 0 ≤ (r - 1) * p.cols := Int.mul_nonneg (by omega) (by omega)
      omega
    rw [hi] at this
    exact this)
  have BA := hide (Has.new w #[.int .i64 r, .int .i64 c, .int .i64 e] 63)
  have HI := hide fun (hh : p.has r c = true) => (show IntKind.i64.wrap ((p.idx r c : Int) + 1) = (p.idx r c : Int) + 1 from by
    have := Fli.wf.idx_lt hwf hh
    have hl := Fli.wf.len_le hwf
    simp only at this hl
    exact wrap_id _ (by omega) (by omega))
  clear h hwf hB mA
  unfold behindK
  rw [if_neg (by rintro ⟨h1, h2, h3⟩; first | exact hq0 h1 | exact hq0 h2 | exact hq0 h3)]
  have hq : (r == 0) = false := by simpa using hq0
  clear hq0
  by_cases he : e = p.ep
  case neg =>
    rw [if_pos he]
    have hne : (e != p.ep) = true := by simpa using he
    clear he
    go_enter Try.func54, Try.ntmps54
    go_wp2
    go_quiet (fail)
    go_wp2
    go_ret2
    exact ⟨rfl, (unhide MA).drewN _⟩
  rw [if_neg (by simpa using he)]
  have hne : (e != p.ep) = false := by simpa using he
  by_cases hh : p.has r c = true
  case neg =>
    have hh' : p.has r c = false := by simpa using hh
    rw [if_pos hh']
    rw [hh'] at HH
    clear he hh hh' HI HAH
    go_enter Try.func54, Try.ntmps54
    go_wp2
    go_quiet (fail)
    go_wp2_with fail
    refine ((unhide HH) _ ((unhide MA).drewN _)).mono ?_
    rintro e5 w5 ⟨rfl, m5⟩
    have M5 := hide (((unhide MA).drewN _).trans m5)
    clear m5
    go_wp2
    go_ret2
    exact ⟨rfl, unhide M5⟩
  rw [if_neg (by simp [hh])]
  have hw := (unhide HI) hh
  have HA := hide fun W (hW : Mod No w W) => (unhide HAH) W hW hh
  rw [hh] at HH
  clear he hh HI HAH
  go_enter Try.func54, Try.ntmps54
  go_wp2
  go_quiet (fail)
  go_wp2_with fail
  refine ((unhide HH) _ ((unhide MA).drewN _)).mono ?_
  rintro e5 w5 ⟨rfl, m5⟩
  have b5 := (m5.has ((unhide BA).drewN _) (fun x => x)).cell
  have l5 := (m5.has ((unhide BA).drewN _) (fun x => x)).lt
  have M5 := hide (((unhide MA).drewN _).trans m5)
  clear m5
  go_wp2_with fail
  refine ((unhide HA) _ (unhide M5)).mono ?_
  rintro e6 w6 ⟨rfl, m6⟩
  have M6 := hide ((unhide M5).trans m6)
  clear m6
  go_wp2
  go_ret2
  exact ⟨rfl, unhide M6⟩

theorem behind_c {w : World} {b m clock : Nat} {p : Pla} {l : List Sea} {es : List MEnt} (h : FlX w b p l m es clock) (hwf : Wf p l) (c e : Int) (hq0 : c ≠ 0) :
    Calls Try.prog 54 #[.pointer (some ⟨b, 0, none⟩), .agg #[.int .i64 0, .int .i64 c, .int .i64 e]] w fun e' w' => e' = .returned (.tuple #[.int .i64 (behindK p 0 c e).1, .int .i64 (behindK p 0 c e).2]) ∧ Mod No w w' := by
  have mA : Mod No w (w.alloc (.cells #[.int .i64 0, .int .i64 c, .int .i64 e] 63)) := (Mod.refl _ w).alloc _
  have MA := hide mA
  have c24 := (mA.has h.has (fun x => x)).cell 24
  rw [show (fcells p (.map (some m)) l)[24]? = some (.int .i64 p.ep) from rfl] at c24
  have hlt := (mA.has h.has (fun x => x)).lt
  have HH := hide fun W (hW : Mod No w W) => (show Calls Try.prog 62 #[.pointer (some ⟨b, 0, none⟩), .agg #[.int .i64 0, .int .i64 c]] W fun e w' => e = .returned (.bool (p.has 0 c)) ∧ Mod No W w' from has_walk b 0 c p.rows p.cols _ W (hW.has h.has (fun x => x)) rfl rfl)
  have hB := hwf.bounds
  simp only at hB
  have HAH := hide fun W (hW : Mod No w W) (hh : p.has 0 c = true) => (show Calls Try.prog 70 #[.pointer (some ⟨b, 0, none⟩), .agg #[.int .i64 0, .int .i64 c]] W fun e w' => e = .returned (.int .i64 (p.idx 0 c : Int)) ∧ Mod No W w' from by
    simp only [Pla.has, decide_eq_true_eq] at hh
    have := ahead_walk b _ _ 0 c p.cols W (hW.has h.has (fun x => x)) rfl (by omega) (by omega) (by omega)
    have hi : (0 - 1) * p.cols + c - 1 = (p.idx 0 c : Int) := by
      unfold Pla.idx
      have m3 : 0 ≤ (0 - 1) * p.cols := Int.mul_nonneg (by omega) (by omega)
      omega
    rw [hi] at this
    exact this)
  have BA := hide (Has.new w #[.int .i64 0, .int .i64 c, .int .i64 e] 63)
  have HI := hide fun (hh : p.has 0 c = true) => (show IntKind.i64.wrap ((p.idx 0 c : Int) + 1) = (p.idx 0 c : Int) + 1 from by
    have := Fli.wf.idx_lt hwf hh
    have hl := Fli.wf.len_le hwf
    simp only at this hl
    exact wrap_id _ (by omega) (by omega))
  clear h hwf hB mA
  unfold behindK
  rw [if_neg (by rintro ⟨h1, h2, h3⟩; first | exact hq0 h1 | exact hq0 h2 | exact hq0 h3)]
  have hq : (c == 0) = false := by simpa using hq0
  clear hq0
  by_cases he : e = p.ep
  case neg =>
    rw [if_pos he]
    have hne : (e != p.ep) = true := by simpa using he
    clear he
    go_enter Try.func54, Try.ntmps54
    go_wp2
    go_quiet (fail)
    go_wp2
    go_ret2
    exact ⟨rfl, (unhide MA).drewN _⟩
  rw [if_neg (by simpa using he)]
  have hne : (e != p.ep) = false := by simpa using he
  by_cases hh : p.has 0 c = true
  case neg =>
    have hh' : p.has 0 c = false := by simpa using hh
    rw [if_pos hh']
    rw [hh'] at HH
    clear he hh hh' HI HAH
    go_enter Try.func54, Try.ntmps54
    go_wp2
    go_quiet (fail)
    go_wp2_with fail
    refine ((unhide HH) _ ((unhide MA).drewN _)).mono ?_
    rintro e5 w5 ⟨rfl, m5⟩
    have M5 := hide (((unhide MA).drewN _).trans m5)
    clear m5
    go_wp2
    go_ret2
    exact ⟨rfl, unhide M5⟩
  rw [if_neg (by simp [hh])]
  have hw := (unhide HI) hh
  have HA := hide fun W (hW : Mod No w W) => (unhide HAH) W hW hh
  rw [hh] at HH
  clear he hh HI HAH
  go_enter Try.func54, Try.ntmps54
  go_wp2
  go_quiet (fail)
  go_wp2_with fail
  refine ((unhide HH) _ ((unhide MA).drewN _)).mono ?_
  rintro e5 w5 ⟨rfl, m5⟩
  have b5 := (m5.has ((unhide BA).drewN _) (fun x => x)).cell
  have l5 := (m5.has ((unhide BA).drewN _) (fun x => x)).lt
  have M5 := hide (((unhide MA).drewN _).trans m5)
  clear m5
  go_wp2_with fail
  refine ((unhide HA) _ (unhide M5)).mono ?_
  rintro e6 w6 ⟨rfl, m6⟩
  have M6 := hide ((unhide M5).trans m6)
  clear m6
  go_wp2
  go_ret2
  exact ⟨rfl, unhide M6⟩

theorem behind_e {w : World} {b m clock : Nat} {p : Pla} {l : List Sea} {es : List MEnt} (h : FlX w b p l m es clock) (hwf : Wf p l) (e : Int) (hq0 : e ≠ 0) :
    Calls Try.prog 54 #[.pointer (some ⟨b, 0, none⟩), .agg #[.int .i64 0, .int .i64 0, .int .i64 e]] w fun e' w' => e' = .returned (.tuple #[.int .i64 (behindK p 0 0 e).1, .int .i64 (behindK p 0 0 e).2]) ∧ Mod No w w' := by
  have mA : Mod No w (w.alloc (.cells #[.int .i64 0, .int .i64 0, .int .i64 e] 63)) := (Mod.refl _ w).alloc _
  have MA := hide mA
  have c24 := (mA.has h.has (fun x => x)).cell 24
  rw [show (fcells p (.map (some m)) l)[24]? = some (.int .i64 p.ep) from rfl] at c24
  have hlt := (mA.has h.has (fun x => x)).lt
  have HH := hide fun W (hW : Mod No w W) => (show Calls Try.prog 62 #[.pointer (some ⟨b, 0, none⟩), .agg #[.int .i64 0, .int .i64 0]] W fun e w' => e = .returned (.bool (p.has 0 0)) ∧ Mod No W w' from has_walk b 0 0 p.rows p.cols _ W (hW.has h.has (fun x => x)) rfl rfl)
  have hB := hwf.bounds
  simp only at hB
  have HAH := hide fun W (hW : Mod No w W) (hh : p.has 0 0 = true) => (show Calls Try.prog 70 #[.pointer (some ⟨b, 0, none⟩), .agg #[.int .i64 0, .int .i64 0]] W fun e w' => e = .returned (.int .i64 (p.idx 0 0 : Int)) ∧ Mod No W w' from by
    simp only [Pla.has, decide_eq_true_eq] at hh
    have := ahead_walk b _ _ 0 0 p.cols W (hW.has h.has (fun x => x)) rfl (by omega) (by omega) (by omega)
    have hi : (0 - 1) * p.cols + 0 - 1 = (p.idx 0 0 : Int) := by
      unfold Pla.idx
      have m3 : 0 ≤ (0 - 1) * p.cols := Int.mul_nonneg (by omega) (by omega)
      omega
    rw [hi] at this
    exact this)
  have BA := hide (Has.new w #[.int .i64 0, .int .i64 0, .int .i64 e] 63)
  have HI := hide fun (hh : p.has 0 0 = true) => (show IntKind.i64.wrap ((p.idx 0 0 : Int) + 1) = (p.idx 0 0 : Int) + 1 from by
    have := Fli.wf.idx_lt hwf hh
    have hl := Fli.wf.len_le hwf
    simp only at this hl
    exact wrap_id _ (by omega) (by omega))
  clear h hwf hB mA
  unfold behindK
  rw [if_neg (by rintro ⟨h1, h2, h3⟩; first | exact hq0 h1 | exact hq0 h2 | exact hq0 h3)]
  have hq : (e == 0) = false := by simpa using hq0
  clear hq0
  by_cases he : e = p.ep
  case neg =>
    rw [if_pos he]
    have hne : (e != p.ep) = true := by simpa using he
    clear he
    go_enter Try.func54, Try.ntmps54
    go_wp2
    go_quiet (fail)
    go_wp2
    go_ret2
    exact ⟨rfl, (unhide MA).drewN _⟩
  rw [if_neg (by simpa using he)]
  have hne : (e != p.ep) = false := by simpa using he
  by_cases hh : p.has 0 0 = true
  case neg =>
    have hh' : p.has 0 0 = false := by simpa using hh
    rw [if_pos hh']
    rw [hh'] at HH
    clear he hh hh' HI HAH
    go_enter Try.func54, Try.ntmps54
    go_wp2
    go_quiet (fail)
    go_wp2_with fail
    refine ((unhide HH) _ ((unhide MA).drewN _)).mono ?_
    rintro e5 w5 ⟨rfl, m5⟩
    have M5 := hide (((unhide MA).drewN _).trans m5)
    clear m5
    go_wp2
    go_ret2
    exact ⟨rfl, unhide M5⟩
  rw [if_neg (by simp [hh])]
  have hw := (unhide HI) hh
  have HA := hide fun W (hW : Mod No w W) => (unhide HAH) W hW hh
  rw [hh] at HH
  clear he hh HI HAH
  go_enter Try.func54, Try.ntmps54
  go_wp2
  go_quiet (fail)
  go_wp2_with fail
  refine ((unhide HH) _ ((unhide MA).drewN _)).mono ?_
  rintro e5 w5 ⟨rfl, m5⟩
  have b5 := (m5.has ((unhide BA).drewN _) (fun x => x)).cell
  have l5 := (m5.has ((unhide BA).drewN _) (fun x => x)).lt
  have M5 := hide (((unhide MA).drewN _).trans m5)
  clear m5
  go_wp2_with fail
  refine ((unhide HA) _ (unhide M5)).mono ?_
  rintro e6 w6 ⟨rfl, m6⟩
  have M6 := hide ((unhide M5).trans m6)
  clear m6
  go_wp2
  go_ret2
  exact ⟨rfl, unhide M6⟩

theorem behind_any {w : World} {b m clock : Nat} {p : Pla} {l : List Sea} {es : List MEnt} (h : FlX w b p l m es clock) (hwf : Wf p l) (r c e : Int) :
    Calls Try.prog 54 #[.pointer (some ⟨b, 0, none⟩), .agg #[.int .i64 r, .int .i64 c, .int .i64 e]] w fun e' w' => e' = .returned (.tuple #[.int .i64 (behindK p r c e).1, .int .i64 (behindK p r c e).2]) ∧ Mod No w w' := by
  have mA : Mod No w (w.alloc (.cells #[.int .i64 r, .int .i64 c, .int .i64 e] 63)) := (Mod.refl _ w).alloc _
  have MA := hide mA
  have c24 := (mA.has h.has (fun x => x)).cell 24
  rw [show (fcells p (.map (some m)) l)[24]? = some (.int .i64 p.ep) from rfl] at c24
  have hlt := (mA.has h.has (fun x => x)).lt
  have HH := hide fun W (hW : Mod No w W) => (show Calls Try.prog 62 #[.pointer (some ⟨b, 0, none⟩), .agg #[.int .i64 r, .int .i64 c]] W fun e w' => e = .returned (.bool (p.has r c)) ∧ Mod No W w' from has_walk b r c p.rows p.cols _ W (hW.has h.has (fun x => x)) rfl rfl)
  have hB := hwf.bounds
  simp only at hB
  have HAH := hide fun W (hW : Mod No w W) (hh : p.has r c = true) => (show Calls Try.prog 70 #[.pointer (some ⟨b, 0, none⟩), .agg #[.int .i64 r, .int .i64 c]] W fun e w' => e = .returned (.int .i64 (p.idx r c : Int)) ∧ Mod No W w' from by
    simp only [Pla.has, decide_eq_true_eq] at hh
    have := ahead_walk b _ _ r c p.cols W (hW.has h.has (fun x => x)) rfl (by omega) (by omega) (by omega)
    have hi : (r - 1) * p.cols + c - 1 = (p.idx r c : Int) := by
      unfold Pla.idx
      have m3 : 0 ≤ (r - 1) * p.cols := Int.mul_nonneg (by omega) (by omega)
      omega
    rw [hi] at this
    exact this)
  have BA := hide (Has.new w #[.int .i64 r, .int .i64 c, .int .i64 e] 63)
  have HI := hide fun (hh : p.has r c = true) => (show IntKind.i64.wrap ((p.idx r c : Int) + 1) = (p.idx r c : Int) + 1 from by
    have := Fli.wf.idx_lt hwf hh
    have hl := Fli.wf.len_le hwf
    simp only at this hl
    exact wrap_id _ (by omega) (by omega))
  have H0 := h
  have H1 := hwf
  clear h hwf hB mA
  unfold behindK
  by_cases hz : r = 0 ∧ c = 0 ∧ e = 0
  · rw [if_pos hz]
    obtain ⟨rfl, rfl, rfl⟩ := hz
    go_enter Try.func54, Try.ntmps54
    go_wp2
    go_ret2
    exact ⟨rfl, unhide MA⟩
  clear HH HAH BA HI c24 hlt MA
  by_cases h1 : r = 0
  · by_cases h2 : c = 0
    · have h3 : e ≠ 0 := fun h3 => hz ⟨h1, h2, h3⟩
      subst h1
      subst h2
      have := behind_e H0 H1 e h3
      unfold behindK at this
      exact this
    · subst h1
      have := behind_c H0 H1 c e h2
      unfold behindK at this
      exact this
  · have := behind_r H0 H1 r c e h1
    unfold behindK at this
    exact this
end Go.Proofs.Ytlcbemcamdafjaa
