import Derived.Test.YtlcbemcamdafjaaGreatCdoesRef19Ref20
import Derived.Test.YtlcbemcamdafjaaGreatCdoesCellsRowS
import Derived.Test.YtlcbemcamdafjaaGreatCdoesStartEq40
import Derived.Test.YtlcbemcamdafjaaGreatCdoesLook7Swap0
import Derived.Test.YtlcbemcamdafjaaGreatCdoesSwap2
import Derived.Handy
import Derived.Deep.RegionLawGrows
/- The document's answer: a world is copied, whatever it holds. -/
namespace Go.Proofs.YtlcbemcamdafjaaGreat
open Go.RowKit
open M
set_option linter.unusedVariables false
set_option linter.unusedSimpArgs false
set_option maxRecDepth 100000
set_option maxHeartbeats 8000000

theorem wcopy_nil {w : World} {wb : Nat} {now : Int} (h : Has w wb #[.slice none 0 0, .int .i64 now] 72) :
    Calls Tryz.prog 26 #[.pointer (some ⟨wb, 0, none⟩)] w fun e w' => e = .returned (.pointer (some ⟨w.heap.size, 0, none⟩)) ∧ w' = w.alloc (.cells #[.slice none 0 0, .int .i64 now] 72) := by
  have hc := h.cell
  have hlt := h.lt
  clear h
  go_enter Tryz.func26, Tryz.ntmps26
  go_wp2_with fail
  go_loopw [4] (fun s4 wr => s4 = .int .i64 0 ∧ wr = w.alloc (.cells #[.slice none 0 0, .int .i64 now] 72)) (fun _ _ => 0)
  case atStart => exact ⟨rfl, rfl⟩
  case round =>
    obtain ⟨rfl, rfl⟩ := hrel
    go_wp2
    go_ret
    exact ⟨rfl, rfl⟩

theorem wcopy_any {w : World} {ow : Nat → Nat} {wb : Nat} {v : Value} {xs : List FR} {now : Int} (h : WorR w ow wb v xs now) :
    Calls Tryz.prog 26 #[.pointer (some ⟨wb, 0, none⟩)] w fun e w' => ∃ v' ys ow', e = .returned (.pointer (some ⟨w.heap.size, 0, none⟩)) ∧ CopyI w w' w.heap.size xs now xs.length v' ys ow' := by
  have h0 := h
  rcases h.fls with ⟨rfl, rfl⟩ | ⟨gf, cap, rfl, h2, h3⟩
  · refine (wcopy_nil h.has).mono ?_
    rintro e w' ⟨rfl, rfl⟩
    exact ⟨_, _, _, rfl, copy_start w now []⟩
  · by_cases hne : 0 < xs.length
    · exact wcopy_row h hne
    · have : xs = [] := List.eq_nil_of_length_eq_zero (by omega)
      subst this
      have hc := h.has.cell
      have hlt := h.has.lt
      clear h h0 h2 h3 hne
      have I0 := hide (copy_start w now ([] : List FR))
      go_enter Tryz.func26, Tryz.ntmps26
      go_wp2_with fail
      go_loopw [4] (fun s4 wr => s4 = .int .i64 0 ∧ wr = w.alloc (.cells #[.slice none 0 0, .int .i64 now] 72)) (fun _ _ => 0)
      case atStart => exact ⟨rfl, rfl⟩
      case round =>
        obtain ⟨rfl, rfl⟩ := hrel
        go_wp2
        go_ret
        exact ⟨_, _, _, rfl, unhide I0⟩
end Go.Proofs.YtlcbemcamdafjaaGreat
/- The document's answer: a flight is added: when it is not. -/
namespace Go.Proofs.YtlcbemcamdafjaaGreat
open Go.RowKit
open M
set_option linter.unusedVariables false
set_option linter.unusedSimpArgs false
set_option maxRecDepth 100000
set_option maxHeartbeats 8000000

theorem added_twice {w : World} {ow : Nat → Nat} {wb : Nat} {v : Value} {xs : List FR} {now : Int} (h : WorR w ow wb v xs now) (c : Cmd) (i : Nat) (hf : findN xs c.flight = i) :
    Calls Tryz.prog 51 #[.pointer (some ⟨wb, 0, none⟩), .agg (cmdCells c)] w fun e w' => e = .returned (.int .i64 3) ∧ Mod No w w' := by
  have HF := (h.mod ((Mod.refl No w).alloc (.cells (cmdCells c) 41)) (fun _ _ x => x)).find c.flight
  rw [hf] at HF
  have HF := hide HF
  have M0 := hide ((Mod.refl No w).alloc (.cells (cmdCells c) 41))
  have h0 : (i : Int) ≥ 0 := by omega
  clear h hf
  unfold cmdCells at *
  go_enter Tryz.func51, Tryz.ntmps51
  go_wp2_with fail
  refine (unhide HF).mono ?_
  rintro e w1 ⟨rfl, rfl⟩
  go_wp2
  go_ret
  exact ⟨rfl, unhide M0⟩

theorem added_shape {w : World} {ow : Nat → Nat} {wb : Nat} {v : Value} {xs : List FR} {now : Int} (h : WorR w ow wb v xs now) (c : Cmd) (hf : findN xs c.flight = -1) (hp : ¬ (c.pla.sized = true ∧ c.pla.limited = true)) :
    Calls Tryz.prog 51 #[.pointer (some ⟨wb, 0, none⟩), .agg (cmdCells c)] w fun e w' => e = .returned (.int .i64 4) ∧ Mod No w w' := by
  have HF := (h.mod ((Mod.refl No w).alloc (.cells (cmdCells c) 41)) (fun _ _ x => x)).find c.flight
  rw [hf] at HF
  have HF := hide HF
  have HS := hide fun W => rsized_any c.pla W
  have HL := hide fun W => rlimited_any c.pla W
  have M0 := hide ((Mod.refl No w).alloc (.cells (cmdCells c) 41))
  have B0 := hide (Has.new w (cmdCells c) 41)
  clear h hf
  unfold plaV at HS HL
  unfold cmdCells at *
  have hps : c.pla.sized = false ∨ (c.pla.sized = true ∧ c.pla.limited = false) := by
    cases h1 : c.pla.sized <;> cases h2 : c.pla.limited <;> simp_all
  clear hp
  rcases hps with h1 | ⟨h1, h2⟩
  · rw [h1] at HS
    generalize c.pla.limited = lm at *
    clear h1
    go_enter Tryz.func51, Tryz.ntmps51
    go_wp2_with fail
    refine (unhide HF).mono ?_
    rintro e w1 ⟨rfl, rfl⟩
    have hb := (unhide B0).cell
    have lb := (unhide B0).lt
    go_wp2_with fail
    refine ((unhide HS) _).mono ?_
    rintro e w2 ⟨rfl, m2⟩
    have hb2 := (m2.has (unhide B0) (fun x => x)).cell
    have lb2 := (m2.has (unhide B0) (fun x => x)).lt
    clear hb lb
    go_wp2_with fail
    refine ((unhide HL) _).mono ?_
    rintro e w3 ⟨rfl, m3⟩
    go_wp2
    go_ret
    exact ⟨rfl, ((unhide M0).trans m2).trans m3⟩
  · rw [h1] at HS
    rw [h2] at HL
    clear h1 h2
    go_enter Tryz.func51, Tryz.ntmps51
    go_wp2_with fail
    refine (unhide HF).mono ?_
    rintro e w1 ⟨rfl, rfl⟩
    have hb := (unhide B0).cell
    have lb := (unhide B0).lt
    go_wp2_with fail
    refine ((unhide HS) _).mono ?_
    rintro e w2 ⟨rfl, m2⟩
    have hb2 := (m2.has (unhide B0) (fun x => x)).cell
    have lb2 := (m2.has (unhide B0) (fun x => x)).lt
    clear hb lb
    go_wp2_with fail
    refine ((unhide HL) _).mono ?_
    rintro e w3 ⟨rfl, m3⟩
    go_wp2
    go_ret
    exact ⟨rfl, ((unhide M0).trans m2).trans m3⟩
end Go.Proofs.YtlcbemcamdafjaaGreat
/- Pages of seats: a cursor against the empty one; what a seat is told as. -/
namespace Go.Proofs.YtlcbemcamdafjaaGreat
open Go.RowKit
open M
set_option linter.unusedVariables false
set_option linter.unusedSimpArgs false
set_option maxRecDepth 100000
set_option maxHeartbeats 2000000

theorem eq2 (n : Nat) (a b c d : Int) (w : World) : (Op.equalIn (n + 2) 36 (.agg #[.int .i64 a, .int .i64 b]) (.agg #[.int .i64 c, .int .i64 d])).run Tryz.prog w = .ok (a == c && b == d) w := by
  have hs : Tryz.prog.stoodInHeld 36 = false := by kernel_rfl
  have r : ∀ x y : Int, (Op.equalIn (n + 1) 3 (.int .i64 x) (.int .i64 y)).run Tryz.prog w = .ok (x == y) w := fun x y => run_equalIn_int w n 3 .i64 .i64 x y Tryz.underlying3
  have p0 : ∀ x y : Int, (part 3 #[.int .i64 x, .int .i64 y] 0).run Tryz.prog w = .ok (.int .i64 x) w := fun x y => part3 _ _ _ rfl w
  have p1 : ∀ x y : Int, (part 3 #[.int .i64 x, .int .i64 y] 1).run Tryz.prog w = .ok (.int .i64 y) w := fun x y => part3 _ _ _ rfl w
  conv => lhs; arg 2; unfold Op.equalIn
  simp [Sem.run_bind, run_underlying Tryz.underlying36, Sem.run, program, hs, r, p0, p1]
  by_cases h1 : a = c <;> by_cases h2 : b = d <;> simp [h1, h2]

theorem eq3 (a b e c d f : Int) (w : World) : (Op.equalIn 10000 43 (.agg #[.int .i64 a, .int .i64 b, .int .i64 e]) (.agg #[.int .i64 c, .int .i64 d, .int .i64 f])).run Tryz.prog w = .ok ((a == c && b == d) && e == f) w := by
  have hs : Tryz.prog.stoodInHeld 43 = false := by kernel_rfl
  have r : ∀ x y : Int, (Op.equalIn 9999 3 (.int .i64 x) (.int .i64 y)).run Tryz.prog w = .ok (x == y) w := fun x y => run_equalIn_int w 9998 3 .i64 .i64 x y Tryz.underlying3
  have r2 : ∀ a b c d : Int, (Op.equalIn 9999 36 (.agg #[.int .i64 a, .int .i64 b]) (.agg #[.int .i64 c, .int .i64 d])).run Tryz.prog w = .ok (a == c && b == d) w := fun a b c d => eq2 9997 a b c d w
  have p0 : ∀ x y z : Int, (part 36 #[.int .i64 x, .int .i64 y, .int .i64 z] 0).run Tryz.prog w = .ok (.agg #[.int .i64 x, .int .i64 y]) w := fun x y z => by kernel_rfl
  have p1 : ∀ x y z : Int, (part 3 #[.int .i64 x, .int .i64 y, .int .i64 z] 2).run Tryz.prog w = .ok (.int .i64 z) w := fun x y z => part3 _ _ _ rfl w
  rw [show (10000 : Nat) = 9999 + 1 from rfl]
  conv => lhs; arg 2; unfold Op.equalIn
  simp [Sem.run_bind, run_underlying Tryz.underlying43, Sem.run, program, hs, r, r2, p0, p1]
  by_cases h1 : a = c <;> by_cases h2 : b = d <;> by_cases h3 : e = f <;> simp [h1, h2, h3]

/-- Is a cursor the empty one? -/
def isZ (a b e : Int) : Bool := (a == 0 && b == 0) && e == 0
theorem eq3z (a b e : Int) (w : World) : (Op.equalIn 10000 43 (.agg #[.int .i64 a, .int .i64 b, .int .i64 e]) (.agg #[.int .i64 0, .int .i64 0, .int .i64 0])).run Tryz.prog w = .ok (isZ a b e) w := eq3 a b e 0 0 0 w

/-- Has a place so many places ahead of it? -/
theorem ahead_walk (b : Nat) (cs : Array Value) (T : TypeId) (r c C : Int) (w : World) (h : Has w b cs T) (h1 : cs[1]? = some (.int .i64 C)) (hr : 1 ≤ r ∧ r ≤ 1000) (hc : 1 ≤ c ∧ c ≤ 1000) (hC : 1 ≤ C ∧ C ≤ 1000) :
    Calls Tryz.prog 102 #[.pointer (some ⟨b, 0, none⟩), .agg #[.int .i64 r, .int .i64 c]] w fun e w' => e = .returned (.int .i64 ((r - 1) * C + c - 1)) ∧ Mod No w w' := by
  have c1 := h.cell 1
  rw [h1] at c1
  have hlt := h.lt
  have m0 : 0 ≤ (r - 1) * C := Int.mul_nonneg (by omega) (by omega)
  have m1 : (r - 1) * C ≤ 1000 * 1000 := Int.mul_le_mul (by omega) (by omega) (by omega) (by omega)
  have w1 : IntKind.i64.wrap (r - 1) = r - 1 := wrap_id _ (by omega) (by omega)
  have w2 : IntKind.i64.wrap ((r - 1) * C) = (r - 1) * C := wrap_id _ (by omega) (by omega)
  have w3 : IntKind.i64.wrap ((r - 1) * C + c) = (r - 1) * C + c := wrap_id _ (by omega) (by omega)
  have w4 : IntKind.i64.wrap ((r - 1) * C + c - 1) = (r - 1) * C + c - 1 := wrap_id _ (by omega) (by omega)
  clear h h1 m0 m1
  go_enter Tryz.func102, Tryz.ntmps102
  go_wp2
  go_quiet (fail)
  go_wp2
  go_ret
  exact ⟨rfl, ((Mod.refl _ _).alloc _).drewN _⟩

theorem sizeSa : (Tryz.prog.info? 63).map (·.size) = some 6 := by kernel_rfl
theorem tell_walk (b m : Nat) (cs : Array Value) (r c st pa cl un : Int) (w : World) (h : Has w b cs 154) (h7 : cs[7]? = some (.map (some m)))
    (hL : ∀ W, Mod No w W → (Instr.lookup 152 (.map (some m)) (.agg #[.int .i64 r, .int .i64 c]) false).run Tryz.prog W = .ok (.agg #[.int .i64 st, .int .i64 pa, .int .i64 cl, .int .i64 un]) W) :
    Calls Tryz.prog 96 #[.pointer (some ⟨b, 0, none⟩), .agg #[.int .i64 r, .int .i64 c]] w fun e w' => e = .returned (.agg #[.int .i64 r, .int .i64 c, .int .i64 st, .int .i64 pa, .int .i64 cl, .int .i64 un]) ∧ Mod No w w' := by
  have mA : Mod No w ((w.alloc (.cells #[.int .i64 r, .int .i64 c] 36)).alloc (.cells #[.int .i64 0, .int .i64 0, .int .i64 0, .int .i64 0, .int .i64 0, .int .i64 0] 63)) := ((Mod.refl _ w).alloc _).alloc _
  have c7 := (mA.has h (fun x => x)).cell 7
  rw [h7] at c7
  have hlt := (mA.has h (fun x => x)).lt
  have l1 := fun X => hL ((((w.alloc (.cells #[.int .i64 r, .int .i64 c] 36)).alloc (.cells #[.int .i64 0, .int .i64 0, .int .i64 0, .int .i64 0, .int .i64 0, .int .i64 0] 63))).alloc X).drew (mA.alloc X).drew
  have l2 := hL (((w.alloc (.cells #[.int .i64 r, .int .i64 c] 36)).alloc (.cells #[.int .i64 0, .int .i64 0, .int .i64 0, .int .i64 0, .int .i64 0, .int .i64 0] 63))).drew mA.drew
  have BA := hide ((Has.new w #[.int .i64 r, .int .i64 c] 36).alloc (.cells #[.int .i64 0, .int .i64 0, .int .i64 0, .int .i64 0, .int .i64 0, .int .i64 0] 63))
  have bA := ((Has.new w #[.int .i64 r, .int .i64 c] 36).alloc (.cells #[.int .i64 0, .int .i64 0, .int .i64 0, .int .i64 0, .int .i64 0, .int .i64 0] 63)).cell
  have lA := ((Has.new w #[.int .i64 r, .int .i64 c] 36).alloc (.cells #[.int .i64 0, .int .i64 0, .int .i64 0, .int .i64 0, .int .i64 0, .int .i64 0] 63)).lt
  have bR := Has.new (w.alloc (.cells #[.int .i64 r, .int .i64 c] 36)) #[.int .i64 0, .int .i64 0, .int .i64 0, .int .i64 0, .int .i64 0, .int .i64 0] 63
  rw [World.size_alloc] at bR
  have cR := bR.cell
  have fR := bR.frozen
  have lR := bR.lt
  have MA := hide mA
  have BR := hide bR
  clear h h7 hL mA bR
  go_enter Tryz.func96, Tryz.ntmps96
  go_wp2
  generalize ((w.alloc (.cells #[.int .i64 r, .int .i64 c] 36)).alloc (.cells #[.int .i64 0, .int .i64 0, .int .i64 0, .int .i64 0, .int .i64 0, .int .i64 0] 63)) = W0 at *
  go_region
  have B1 := ((unhide BA).alloc (.cells #[.int .i64 st, .int .i64 pa, .int .i64 cl, .int .i64 un] 179)).drew
  have R1 := ((unhide BR).alloc (.cells #[.int .i64 st, .int .i64 pa, .int .i64 cl, .int .i64 un] 179)).drew
  have S1 := (Has.new W0 #[.int .i64 st, .int .i64 pa, .int .i64 cl, .int .i64 un] 179).drew
  have M1 := hide ((unhide MA).alloc (.cells #[.int .i64 st, .int .i64 pa, .int .i64 cl, .int .i64 un] 179)).drew
  clear l1 l2 bA lA cR fR lR c7 hlt MA BA BR
  have hne : w.heap.size + 1 ≠ W0.heap.size := by have := R1.ne S1 (by decide); exact this
  generalize (W0.alloc (.cells #[.int .i64 st, .int .i64 pa, .int .i64 cl, .int .i64 un] 179)).drew = W1 at *
  generalize W0.heap.size = sb at *
  have b1 := B1.cell
  have s1 := S1.cell
  have RR := hide R1
  clear B1 S1 R1
  go_wp2_with (first | (refine wpList_store_has rfl 63 _ _ rfl (w.heap.size + 1) #[.int .i64 r, .int .i64 c, .int .i64 st, .int .i64 pa, .int .i64 cl, .int .i64 un] rfl rfl #[.int .i64 0, .int .i64 0, .int .i64 0, .int .i64 0, .int .i64 0, .int .i64 0] 63 (unhide RR) rfl sizeSa (by simp [Value.oneCell']) ?_; intro W2 h2 m2; have M2 := hide ((unhide M1).trans' m2 (fun i hi hl => by omega)); have c2 := h2.cell; have l2 := h2.lt; clear m2))
  have d0 : W2.cell? ⟨w.heap.size + 1, 0, none⟩ = some (.int .i64 r) := c2 0
  have d1 : W2.cell? ⟨w.heap.size + 1, 1, none⟩ = some (.int .i64 c) := c2 1
  have d2 : W2.cell? ⟨w.heap.size + 1, 2, none⟩ = some (.int .i64 st) := c2 2
  have d3 : W2.cell? ⟨w.heap.size + 1, 3, none⟩ = some (.int .i64 pa) := c2 3
  have d4 : W2.cell? ⟨w.heap.size + 1, 4, none⟩ = some (.int .i64 cl) := c2 4
  have d5 : W2.cell? ⟨w.heap.size + 1, 5, none⟩ = some (.int .i64 un) := c2 5
  refine bodyPost_ret (by simp [results, Tryz.results96, go_sem, d0, d1, d2, d3, d4, d5]; try rfl) rfl ?_
  exact ⟨rfl, unhide M2⟩
end Go.Proofs.YtlcbemcamdafjaaGreat
/- Pages of seats: what is behind a cursor. -/
namespace Go.Proofs.YtlcbemcamdafjaaGreat
open Go.RowKit
open M
set_option linter.unusedVariables false
set_option linter.unusedSimpArgs false
set_option maxRecDepth 100000
set_option maxHeartbeats 2000000

/-- A call of a Go function, as one step of a region that draws. -/
theorem step_call {P : Program} {ops : Array Oper} {o : Oper} {a : Act} {w : World} {K : Act → World → Prop} {Q : Exit → Act → World → Prop} {E : Prop}
    (hg : o.guard = none) (f : FuncId) (args : Array Operand) (tys : Array TypeId) (hop : o.op = Op.call { callee := Callee.value (Operand.func f), args := args, argTypes := tys })
    (vs : Array Value) (hvs : args.map a.eval = vs) (hcf : ∀ W, (callFunc f vs).run P W = .ok (.enter f vs) W) (v : Value) (R : World → Prop) (hc : Calls P f vs w fun e w' => e = .returned v ∧ R w')
    (hK : ∀ w', R w' → K (a.put o.dst v) w') : if Region.wanted o (yielded ops a.tmps) = true then Oper.wp P o a w K Q else E := by
  have hw : Region.wanted o (yielded ops a.tmps) = true := by simp [Region.wanted, hg]
  rw [if_pos hw]
  unfold Oper.wp execOp
  simp [go_sem, hop, hvs]
  rw [hcf]
  simp [go_sem]
  refine hc.mono ?_
  rintro e w' ⟨rfl, hr⟩
  exact hK _ hr

/-- How many seats are ahead of the first one behind a cursor; why there is none. -/
def behindK (p : Pla) (r c e : Int) : Int × Int :=
  if r = 0 ∧ c = 0 ∧ e = 0 then (0, 0) else if e ≠ p.ep then (0, 13) else if p.has r c = false then (0, 5) else ((p.idx r c : Int) + 1, 0)

theorem behind_r {w : World} {b m clock : Nat} {p : Pla} {l : List Sea} {es : List MEnt} (h : FlX w b p l m es clock) (hwf : Wf p l) (r c e : Int) (hq0 : r ≠ 0) :
    Calls Tryz.prog 93 #[.pointer (some ⟨b, 0, none⟩), .agg #[.int .i64 r, .int .i64 c, .int .i64 e]] w fun e' w' => e' = .returned (.tuple #[.int .i64 (behindK p r c e).1, .int .i64 (behindK p r c e).2]) ∧ Mod No w w' := by
  have mA : Mod No w (w.alloc (.cells #[.int .i64 r, .int .i64 c, .int .i64 e] 43)) := (Mod.refl _ w).alloc _
  have MA := hide mA
  have c24 := (mA.has h.has (fun x => x)).cell 24
  rw [show (fcells p (.map (some m)) l)[24]? = some (.int .i64 p.ep) from rfl] at c24
  have hlt := (mA.has h.has (fun x => x)).lt
  have HH := hide fun W (hW : Mod No w W) => (show Calls Tryz.prog 84 #[.pointer (some ⟨b, 0, none⟩), .agg #[.int .i64 r, .int .i64 c]] W fun e w' => e = .returned (.bool (p.has r c)) ∧ Mod No W w' from has_walk b r c p.rows p.cols _ W (hW.has h.has (fun x => x)) rfl rfl)
  have hB := hwf.bounds
  simp only at hB
  have HAH := hide fun W (hW : Mod No w W) (hh : p.has r c = true) => (show Calls Tryz.prog 102 #[.pointer (some ⟨b, 0, none⟩), .agg #[.int .i64 r, .int .i64 c]] W fun e w' => e = .returned (.int .i64 (p.idx r c : Int)) ∧ Mod No W w' from by
    simp only [Pla.has, decide_eq_true_eq] at hh
    have := ahead_walk b _ _ r c p.cols W (hW.has h.has (fun x => x)) rfl (by omega) (by omega) (by omega)
    have hi : (r - 1) * p.cols + c - 1 = (p.idx r c : Int) := by
      unfold Pla.idx
      have m3 : 0 ≤ (r - 1) * p.cols := Int.mul_nonneg (by omega) (by omega)
      omega
    rw [hi] at this
    exact this)
  have BA := hide (Has.new w #[.int .i64 r, .int .i64 c, .int .i64 e] 43)
  have HI := hide fun (hh : p.has r c = true) => (show IntKind.i64.wrap ((p.idx r c : Int) + 1) = (p.idx r c : Int) + 1 from by
    have := Fli.wf.idx_lt hwf hh
    have hl := Fli.wf.len_le hwf
    simp only at this hl
    exact wrap_id _ (by omega) (by omega))
  clear h hwf hB mA
  unfold behindK
  rw [if_neg (by rintro ⟨h1, h2, h3⟩; first | exact hq0 h1 | exact hq0 h2 | exact hq0 h3)]
  have hq : (r == 0) = false := by simpa using hq0
  clear hq0
  by_cases he : e = p.ep
  case neg =>
    rw [if_pos he]
    have hne : (e != p.ep) = true := by simpa using he
    clear he
    go_enter Tryz.func93, Tryz.ntmps93
    go_wp2
    go_quiet (fail)
    go_wp2
    go_ret2
    exact ⟨rfl, (unhide MA).drewN _⟩
  rw [if_neg (by simpa using he)]
  have hne : (e != p.ep) = false := by simpa using he
  by_cases hh : p.has r c = true
  case neg =>
    have hh' : p.has r c = false := by simpa using hh
    rw [if_pos hh']
    rw [hh'] at HH
    clear he hh hh' HI HAH
    go_enter Tryz.func93, Tryz.ntmps93
    go_wp2
    go_quiet (fail)
    go_wp2_with fail
    refine ((unhide HH) _ ((unhide MA).drewN _)).mono ?_
    rintro e5 w5 ⟨rfl, m5⟩
    have M5 := hide (((unhide MA).drewN _).trans m5)
    clear m5
    go_wp2
    go_ret2
    exact ⟨rfl, unhide M5⟩
  rw [if_neg (by simp [hh])]
  have hw := (unhide HI) hh
  have HA := hide fun W (hW : Mod No w W) => (unhide HAH) W hW hh
  rw [hh] at HH
  clear he hh HI HAH
  go_enter Tryz.func93, Tryz.ntmps93
  go_wp2
  go_quiet (fail)
  go_wp2_with fail
  refine ((unhide HH) _ ((unhide MA).drewN _)).mono ?_
  rintro e5 w5 ⟨rfl, m5⟩
  have b5 := (m5.has ((unhide BA).drewN _) (fun x => x)).cell
  have l5 := (m5.has ((unhide BA).drewN _) (fun x => x)).lt
  have M5 := hide (((unhide MA).drewN _).trans m5)
  clear m5
  go_wp2_with fail
  refine ((unhide HA) _ (unhide M5)).mono ?_
  rintro e6 w6 ⟨rfl, m6⟩
  have M6 := hide ((unhide M5).trans m6)
  clear m6
  go_wp2
  go_ret2
  exact ⟨rfl, unhide M6⟩

theorem behind_c {w : World} {b m clock : Nat} {p : Pla} {l : List Sea} {es : List MEnt} (h : FlX w b p l m es clock) (hwf : Wf p l) (c e : Int) (hq0 : c ≠ 0) :
    Calls Tryz.prog 93 #[.pointer (some ⟨b, 0, none⟩), .agg #[.int .i64 0, .int .i64 c, .int .i64 e]] w fun e' w' => e' = .returned (.tuple #[.int .i64 (behindK p 0 c e).1, .int .i64 (behindK p 0 c e).2]) ∧ Mod No w w' := by
  have mA : Mod No w (w.alloc (.cells #[.int .i64 0, .int .i64 c, .int .i64 e] 43)) := (Mod.refl _ w).alloc _
  have MA := hide mA
  have c24 := (mA.has h.has (fun x => x)).cell 24
  rw [show (fcells p (.map (some m)) l)[24]? = some (.int .i64 p.ep) from rfl] at c24
  have hlt := (mA.has h.has (fun x => x)).lt
  have HH := hide fun W (hW : Mod No w W) => (show Calls Tryz.prog 84 #[.pointer (some ⟨b, 0, none⟩), .agg #[.int .i64 0, .int .i64 c]] W fun e w' => e = .returned (.bool (p.has 0 c)) ∧ Mod No W w' from has_walk b 0 c p.rows p.cols _ W (hW.has h.has (fun x => x)) rfl rfl)
  have hB := hwf.bounds
  simp only at hB
  have HAH := hide fun W (hW : Mod No w W) (hh : p.has 0 c = true) => (show Calls Tryz.prog 102 #[.pointer (some ⟨b, 0, none⟩), .agg #[.int .i64 0, .int .i64 c]] W fun e w' => e = .returned (.int .i64 (p.idx 0 c : Int)) ∧ Mod No W w' from by
    simp only [Pla.has, decide_eq_true_eq] at hh
    have := ahead_walk b _ _ 0 c p.cols W (hW.has h.has (fun x => x)) rfl (by omega) (by omega) (by omega)
    have hi : (0 - 1) * p.cols + c - 1 = (p.idx 0 c : Int) := by
      unfold Pla.idx
      have m3 : 0 ≤ (0 - 1) * p.cols := Int.mul_nonneg (by omega) (by omega)
      omega
    rw [hi] at this
    exact this)
  have BA := hide (Has.new w #[.int .i64 0, .int .i64 c, .int .i64 e] 43)
  have HI := hide fun (hh : p.has 0 c = true) => (show IntKind.i64.wrap ((p.idx 0 c : Int) + 1) = (p.idx 0 c : Int) + 1 from by
    have := Fli.wf.idx_lt hwf hh
    have hl := Fli.wf.len_le hwf
    simp only at this hl
    exact wrap_id _ (by omega) (by omega))
  clear h hwf hB mA
  unfold behindK
  rw [if_neg (by rintro ⟨h1, h2, h3⟩; first | exact hq0 h1 | exact hq0 h2 | exact hq0 h3)]
  have hq : (c == 0) = false := by simpa using hq0
  clear hq0
  by_cases he : e = p.ep
  case neg =>
    rw [if_pos he]
    have hne : (e != p.ep) = true := by simpa using he
    clear he
    go_enter Tryz.func93, Tryz.ntmps93
    go_wp2
    go_quiet (fail)
    go_wp2
    go_ret2
    exact ⟨rfl, (unhide MA).drewN _⟩
  rw [if_neg (by simpa using he)]
  have hne : (e != p.ep) = false := by simpa using he
  by_cases hh : p.has 0 c = true
  case neg =>
    have hh' : p.has 0 c = false := by simpa using hh
    rw [if_pos hh']
    rw [hh'] at HH
    clear he hh hh' HI HAH
    go_enter Tryz.func93, Tryz.ntmps93
    go_wp2
    go_quiet (fail)
    go_wp2_with fail
    refine ((unhide HH) _ ((unhide MA).drewN _)).mono ?_
    rintro e5 w5 ⟨rfl, m5⟩
    have M5 := hide (((unhide MA).drewN _).trans m5)
    clear m5
    go_wp2
    go_ret2
    exact ⟨rfl, unhide M5⟩
  rw [if_neg (by simp [hh])]
  have hw := (unhide HI) hh
  have HA := hide fun W (hW : Mod No w W) => (unhide HAH) W hW hh
  rw [hh] at HH
  clear he hh HI HAH
  go_enter Tryz.func93, Tryz.ntmps93
  go_wp2
  go_quiet (fail)
  go_wp2_with fail
  refine ((unhide HH) _ ((unhide MA).drewN _)).mono ?_
  rintro e5 w5 ⟨rfl, m5⟩
  have b5 := (m5.has ((unhide BA).drewN _) (fun x => x)).cell
  have l5 := (m5.has ((unhide BA).drewN _) (fun x => x)).lt
  have M5 := hide (((unhide MA).drewN _).trans m5)
  clear m5
  go_wp2_with fail
  refine ((unhide HA) _ (unhide M5)).mono ?_
  rintro e6 w6 ⟨rfl, m6⟩
  have M6 := hide ((unhide M5).trans m6)
  clear m6
  go_wp2
  go_ret2
  exact ⟨rfl, unhide M6⟩

theorem behind_e {w : World} {b m clock : Nat} {p : Pla} {l : List Sea} {es : List MEnt} (h : FlX w b p l m es clock) (hwf : Wf p l) (e : Int) (hq0 : e ≠ 0) :
    Calls Tryz.prog 93 #[.pointer (some ⟨b, 0, none⟩), .agg #[.int .i64 0, .int .i64 0, .int .i64 e]] w fun e' w' => e' = .returned (.tuple #[.int .i64 (behindK p 0 0 e).1, .int .i64 (behindK p 0 0 e).2]) ∧ Mod No w w' := by
  have mA : Mod No w (w.alloc (.cells #[.int .i64 0, .int .i64 0, .int .i64 e] 43)) := (Mod.refl _ w).alloc _
  have MA := hide mA
  have c24 := (mA.has h.has (fun x => x)).cell 24
  rw [show (fcells p (.map (some m)) l)[24]? = some (.int .i64 p.ep) from rfl] at c24
  have hlt := (mA.has h.has (fun x => x)).lt
  have HH := hide fun W (hW : Mod No w W) => (show Calls Tryz.prog 84 #[.pointer (some ⟨b, 0, none⟩), .agg #[.int .i64 0, .int .i64 0]] W fun e w' => e = .returned (.bool (p.has 0 0)) ∧ Mod No W w' from has_walk b 0 0 p.rows p.cols _ W (hW.has h.has (fun x => x)) rfl rfl)
  have hB := hwf.bounds
  simp only at hB
  have HAH := hide fun W (hW : Mod No w W) (hh : p.has 0 0 = true) => (show Calls Tryz.prog 102 #[.pointer (some ⟨b, 0, none⟩), .agg #[.int .i64 0, .int .i64 0]] W fun e w' => e = .returned (.int .i64 (p.idx 0 0 : Int)) ∧ Mod No W w' from by
    simp only [Pla.has, decide_eq_true_eq] at hh
    have := ahead_walk b _ _ 0 0 p.cols W (hW.has h.has (fun x => x)) rfl (by omega) (by omega) (by omega)
    have hi : (0 - 1) * p.cols + 0 - 1 = (p.idx 0 0 : Int) := by
      unfold Pla.idx
      have m3 : 0 ≤ (0 - 1) * p.cols := Int.mul_nonneg (by omega) (by omega)
      omega
    rw [hi] at this
    exact this)
  have BA := hide (Has.new w #[.int .i64 0, .int .i64 0, .int .i64 e] 43)
  have HI := hide fun (hh : p.has 0 0 = true) => (show IntKind.i64.wrap ((p.idx 0 0 : Int) + 1) = (p.idx 0 0 : Int) + 1 from by
    have := Fli.wf.idx_lt hwf hh
    have hl := Fli.wf.len_le hwf
    simp only at this hl
    exact wrap_id _ (by omega) (by omega))
  clear h hwf hB mA
  unfold behindK
  rw [if_neg (by rintro ⟨h1, h2, h3⟩; first | exact hq0 h1 | exact hq0 h2 | exact hq0 h3)]
  have hq : (e == 0) = false := by simpa using hq0
  clear hq0
  by_cases he : e = p.ep
  case neg =>
    rw [if_pos he]
    have hne : (e != p.ep) = true := by simpa using he
    clear he
    go_enter Tryz.func93, Tryz.ntmps93
    go_wp2
    go_quiet (fail)
    go_wp2
    go_ret2
    exact ⟨rfl, (unhide MA).drewN _⟩
  rw [if_neg (by simpa using he)]
  have hne : (e != p.ep) = false := by simpa using he
  by_cases hh : p.has 0 0 = true
  case neg =>
    have hh' : p.has 0 0 = false := by simpa using hh
    rw [if_pos hh']
    rw [hh'] at HH
    clear he hh hh' HI HAH
    go_enter Tryz.func93, Tryz.ntmps93
    go_wp2
    go_quiet (fail)
    go_wp2_with fail
    refine ((unhide HH) _ ((unhide MA).drewN _)).mono ?_
    rintro e5 w5 ⟨rfl, m5⟩
    have M5 := hide (((unhide MA).drewN _).trans m5)
    clear m5
    go_wp2
    go_ret2
    exact ⟨rfl, unhide M5⟩
  rw [if_neg (by simp [hh])]
  have hw := (unhide HI) hh
  have HA := hide fun W (hW : Mod No w W) => (unhide HAH) W hW hh
  rw [hh] at HH
  clear he hh HI HAH
  go_enter Tryz.func93, Tryz.ntmps93
  go_wp2
  go_quiet (fail)
  go_wp2_with fail
  refine ((unhide HH) _ ((unhide MA).drewN _)).mono ?_
  rintro e5 w5 ⟨rfl, m5⟩
  have b5 := (m5.has ((unhide BA).drewN _) (fun x => x)).cell
  have l5 := (m5.has ((unhide BA).drewN _) (fun x => x)).lt
  have M5 := hide (((unhide MA).drewN _).trans m5)
  clear m5
  go_wp2_with fail
  refine ((unhide HA) _ (unhide M5)).mono ?_
  rintro e6 w6 ⟨rfl, m6⟩
  have M6 := hide ((unhide M5).trans m6)
  clear m6
  go_wp2
  go_ret2
  exact ⟨rfl, unhide M6⟩

theorem behind_any {w : World} {b m clock : Nat} {p : Pla} {l : List Sea} {es : List MEnt} (h : FlX w b p l m es clock) (hwf : Wf p l) (r c e : Int) :
    Calls Tryz.prog 93 #[.pointer (some ⟨b, 0, none⟩), .agg #[.int .i64 r, .int .i64 c, .int .i64 e]] w fun e' w' => e' = .returned (.tuple #[.int .i64 (behindK p r c e).1, .int .i64 (behindK p r c e).2]) ∧ Mod No w w' := by
  have mA : Mod No w (w.alloc (.cells #[.int .i64 r, .int .i64 c, .int .i64 e] 43)) := (Mod.refl _ w).alloc _
  have MA := hide mA
  have c24 := (mA.has h.has (fun x => x)).cell 24
  rw [show (fcells p (.map (some m)) l)[24]? = some (.int .i64 p.ep) from rfl] at c24
  have hlt := (mA.has h.has (fun x => x)).lt
  have HH := hide fun W (hW : Mod No w W) => (show Calls Tryz.prog 84 #[.pointer (some ⟨b, 0, none⟩), .agg #[.int .i64 r, .int .i64 c]] W fun e w' => e = .returned (.bool (p.has r c)) ∧ Mod No W w' from has_walk b r c p.rows p.cols _ W (hW.has h.has (fun x => x)) rfl rfl)
  have hB := hwf.bounds
  simp only at hB
  have HAH := hide fun W (hW : Mod No w W) (hh : p.has r c = true) => (show Calls Tryz.prog 102 #[.pointer (some ⟨b, 0, none⟩), .agg #[.int .i64 r, .int .i64 c]] W fun e w' => e = .returned (.int .i64 (p.idx r c : Int)) ∧ Mod No W w' from by
    simp only [Pla.has, decide_eq_true_eq] at hh
    have := ahead_walk b _ _ r c p.cols W (hW.has h.has (fun x => x)) rfl (by omega) (by omega) (by omega)
    have hi : (r - 1) * p.cols + c - 1 = (p.idx r c : Int) := by
      unfold Pla.idx
      have m3 : 0 ≤ (r - 1) * p.cols := Int.mul_nonneg (by omega) (by omega)
      omega
    rw [hi] at this
    exact this)
  have BA := hide (Has.new w #[.int .i64 r, .int .i64 c, .int .i64 e] 43)
  have HI := hide fun (hh : p.has r c = true) => (show IntKind.i64.wrap ((p.idx r c : Int) + 1) = (p.idx r c : Int) + 1 from by
    have := Fli.wf.idx_lt hwf hh
    have hl := Fli.wf.len_le hwf
    simp only at this hl
    exact wrap_id _ (by omega) (by omega))
  have H0 := h
  have H1 := hwf
  clear h hwf hB mA
  unfold behindK
  by_cases hz : r = 0 ∧ c = 0 ∧ e = 0
  · rw [if_pos hz]
    obtain ⟨rfl, rfl, rfl⟩ := hz
    go_enter Tryz.func93, Tryz.ntmps93
    go_wp2
    go_ret2
    exact ⟨rfl, unhide MA⟩
  clear HH HAH BA HI c24 hlt MA
  by_cases h1 : r = 0
  · by_cases h2 : c = 0
    · have h3 : e ≠ 0 := fun h3 => hz ⟨h1, h2, h3⟩
      subst h1
      subst h2
      have := behind_e H0 H1 e h3
      unfold behindK at this
      exact this
    · subst h1
      have := behind_c H0 H1 c e h2
      unfold behindK at this
      exact this
  · have := behind_r H0 H1 r c e h1
    unfold behindK at this
    exact this
end Go.Proofs.YtlcbemcamdafjaaGreat
