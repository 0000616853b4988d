import Derived.Test.YthhibagcpjeihaaGModelToMaps
import Derived.Test.YthhibagcpjeihaaGLook4ToSwap2
import Derived.Handy
import Derived.Deep.RegionLawGrows
import Derived.Deep.DeepCutAuto
import Derived.Deep.MidRow
/- Pages of seats: a cursor against the empty one; what a seat is told as. -/
namespace Go.Proofs.Ythhibagcpjeihaa
open Go.RowKit
open M
set_option linter.unusedVariables false
set_option linter.unusedSimpArgs false
set_option maxRecDepth 100000
set_option maxHeartbeats 2000000

theorem eq2 (n : Nat) (a b c d : Int) (w : World) : (Op.equalIn (n + 2) 32 (.agg #[.int .i64 a, .int .i64 b]) (.agg #[.int .i64 c, .int .i64 d])).run Try.prog w = .ok (a == c && b == d) w := by
  have hs : Try.prog.stoodInHeld 32 = false := by kernel_rfl
  have r : ∀ x y : Int, (Op.equalIn (n + 1) 3 (.int .i64 x) (.int .i64 y)).run Try.prog w = .ok (x == y) w := fun x y => run_equalIn_int w n 3 .i64 .i64 x y Try.underlying3
  have p0 : ∀ x y : Int, (part 3 #[.int .i64 x, .int .i64 y] 0).run Try.prog w = .ok (.int .i64 x) w := fun x y => part3 _ _ _ rfl w
  have p1 : ∀ x y : Int, (part 3 #[.int .i64 x, .int .i64 y] 1).run Try.prog w = .ok (.int .i64 y) w := fun x y => part3 _ _ _ rfl w
  conv => lhs; arg 2; unfold Op.equalIn
  simp [Sem.run_bind, run_underlying Try.underlying32, Sem.run, program, hs, r, p0, p1]
  by_cases h1 : a = c <;> by_cases h2 : b = d <;> simp [h1, h2]

theorem eq3 (a b e c d f : Int) (w : World) : (Op.equalIn 10000 63 (.agg #[.int .i64 a, .int .i64 b, .int .i64 e]) (.agg #[.int .i64 c, .int .i64 d, .int .i64 f])).run Try.prog w = .ok ((a == c && b == d) && e == f) w := by
  have hs : Try.prog.stoodInHeld 63 = false := by kernel_rfl
  have r : ∀ x y : Int, (Op.equalIn 9999 3 (.int .i64 x) (.int .i64 y)).run Try.prog w = .ok (x == y) w := fun x y => run_equalIn_int w 9998 3 .i64 .i64 x y Try.underlying3
  have r2 : ∀ a b c d : Int, (Op.equalIn 9999 32 (.agg #[.int .i64 a, .int .i64 b]) (.agg #[.int .i64 c, .int .i64 d])).run Try.prog w = .ok (a == c && b == d) w := fun a b c d => eq2 9997 a b c d w
  have p0 : ∀ x y z : Int, (part 32 #[.int .i64 x, .int .i64 y, .int .i64 z] 0).run Try.prog w = .ok (.agg #[.int .i64 x, .int .i64 y]) w := fun x y z => by kernel_rfl
  have p1 : ∀ x y z : Int, (part 3 #[.int .i64 x, .int .i64 y, .int .i64 z] 2).run Try.prog w = .ok (.int .i64 z) w := fun x y z => part3 _ _ _ rfl w
  rw [show (10000 : Nat) = 9999 + 1 from rfl]
  conv => lhs; arg 2; unfold Op.equalIn
  simp [Sem.run_bind, run_underlying Try.underlying63, Sem.run, program, hs, r, r2, p0, p1]
  by_cases h1 : a = c <;> by_cases h2 : b = d <;> by_cases h3 : e = f <;> simp [h1, h2, h3]

/-- Is a cursor the empty one? -/
def isZ (a b e : Int) : Bool := (a == 0 && b == 0) && e == 0
theorem eq3z (a b e : Int) (w : World) : (Op.equalIn 10000 63 (.agg #[.int .i64 a, .int .i64 b, .int .i64 e]) (.agg #[.int .i64 0, .int .i64 0, .int .i64 0])).run Try.prog w = .ok (isZ a b e) w := eq3 a b e 0 0 0 w

/-- Has a place so many places ahead of it? -/
theorem ahead_walk (b : Nat) (cs : Array Value) (T : TypeId) (r c C : Int) (w : World) (h : Has w b cs T) (h1 : cs[1]? = some (.int .i64 C)) (hr : 1 ≤ r ∧ r ≤ 1000) (hc : 1 ≤ c ∧ c ≤ 1000) (hC : 1 ≤ C ∧ C ≤ 1000) :
    Calls Try.prog 90 #[.pointer (some ⟨b, 0, none⟩), .agg #[.int .i64 r, .int .i64 c]] w fun e w' => e = .returned (.int .i64 ((r - 1) * C + c - 1)) ∧ Mod No w w' := by
  have c1 := h.cell 1
  rw [h1] at c1
  have hlt := h.lt
  have m0 : 0 ≤ (r - 1) * C := Int.mul_nonneg (by omega) (by omega)
  have m1 : (r - 1) * C ≤ 1000 * 1000 := Int.mul_le_mul (by omega) (by omega) (by omega) (by omega)
  have w1 : IntKind.i64.wrap (r - 1) = r - 1 := wrap_id _ (by omega) (by omega)
  have w2 : IntKind.i64.wrap ((r - 1) * C) = (r - 1) * C := wrap_id _ (by omega) (by omega)
  have w3 : IntKind.i64.wrap ((r - 1) * C + c) = (r - 1) * C + c := wrap_id _ (by omega) (by omega)
  have w4 : IntKind.i64.wrap ((r - 1) * C + c - 1) = (r - 1) * C + c - 1 := wrap_id _ (by omega) (by omega)
  clear h h1 m0 m1
  go_enter Try.func90, Try.ntmps90
  go_wp2
  go_quiet (fail)
  go_wp2
  go_ret
  exact ⟨rfl, ((Mod.refl _ _).alloc _).drewN _⟩

theorem sizeSa : (Try.prog.info? 61).map (·.size) = some 6 := by kernel_rfl
theorem tell_walk (b m : Nat) (cs : Array Value) (r c st pa cl un : Int) (w : World) (h : Has w b cs 138) (h7 : cs[7]? = some (.map (some m)))
    (hL : ∀ W, Mod No w W → (Instr.lookup 136 (.map (some m)) (.agg #[.int .i64 r, .int .i64 c]) false).run Try.prog W = .ok (.agg #[.int .i64 st, .int .i64 pa, .int .i64 cl, .int .i64 un]) W) :
    Calls Try.prog 69 #[.pointer (some ⟨b, 0, none⟩), .agg #[.int .i64 r, .int .i64 c]] w fun e w' => e = .returned (.agg #[.int .i64 r, .int .i64 c, .int .i64 st, .int .i64 pa, .int .i64 cl, .int .i64 un]) ∧ Mod No w w' := by
  have mA : Mod No w ((w.alloc (.cells #[.int .i64 r, .int .i64 c] 32)).alloc (.cells #[.int .i64 0, .int .i64 0, .int .i64 0, .int .i64 0, .int .i64 0, .int .i64 0] 61)) := ((Mod.refl _ w).alloc _).alloc _
  have c7 := (mA.has h (fun x => x)).cell 7
  rw [h7] at c7
  have hlt := (mA.has h (fun x => x)).lt
  have l1 := fun X => hL ((((w.alloc (.cells #[.int .i64 r, .int .i64 c] 32)).alloc (.cells #[.int .i64 0, .int .i64 0, .int .i64 0, .int .i64 0, .int .i64 0, .int .i64 0] 61))).alloc X).drew (mA.alloc X).drew
  have l2 := hL (((w.alloc (.cells #[.int .i64 r, .int .i64 c] 32)).alloc (.cells #[.int .i64 0, .int .i64 0, .int .i64 0, .int .i64 0, .int .i64 0, .int .i64 0] 61))).drew mA.drew
  have BA := hide ((Has.new w #[.int .i64 r, .int .i64 c] 32).alloc (.cells #[.int .i64 0, .int .i64 0, .int .i64 0, .int .i64 0, .int .i64 0, .int .i64 0] 61))
  have bA := ((Has.new w #[.int .i64 r, .int .i64 c] 32).alloc (.cells #[.int .i64 0, .int .i64 0, .int .i64 0, .int .i64 0, .int .i64 0, .int .i64 0] 61)).cell
  have lA := ((Has.new w #[.int .i64 r, .int .i64 c] 32).alloc (.cells #[.int .i64 0, .int .i64 0, .int .i64 0, .int .i64 0, .int .i64 0, .int .i64 0] 61)).lt
  have bR := Has.new (w.alloc (.cells #[.int .i64 r, .int .i64 c] 32)) #[.int .i64 0, .int .i64 0, .int .i64 0, .int .i64 0, .int .i64 0, .int .i64 0] 61
  rw [World.size_alloc] at bR
  have cR := bR.cell
  have fR := bR.frozen
  have lR := bR.lt
  have MA := hide mA
  have BR := hide bR
  clear h h7 hL mA bR
  go_enter Try.func69, Try.ntmps69
  go_wp2
  generalize ((w.alloc (.cells #[.int .i64 r, .int .i64 c] 32)).alloc (.cells #[.int .i64 0, .int .i64 0, .int .i64 0, .int .i64 0, .int .i64 0, .int .i64 0] 61)) = W0 at *
  go_region
  have B1 := ((unhide BA).alloc (.cells #[.int .i64 st, .int .i64 pa, .int .i64 cl, .int .i64 un] 170)).drew
  have R1 := ((unhide BR).alloc (.cells #[.int .i64 st, .int .i64 pa, .int .i64 cl, .int .i64 un] 170)).drew
  have S1 := (Has.new W0 #[.int .i64 st, .int .i64 pa, .int .i64 cl, .int .i64 un] 170).drew
  have M1 := hide ((unhide MA).alloc (.cells #[.int .i64 st, .int .i64 pa, .int .i64 cl, .int .i64 un] 170)).drew
  clear l1 l2 bA lA cR fR lR c7 hlt MA BA BR
  have hne : w.heap.size + 1 ≠ W0.heap.size := by have := R1.ne S1 (by decide); exact this
  generalize (W0.alloc (.cells #[.int .i64 st, .int .i64 pa, .int .i64 cl, .int .i64 un] 170)).drew = W1 at *
  generalize W0.heap.size = sb at *
  have b1 := B1.cell
  have s1 := S1.cell
  have RR := hide R1
  clear B1 S1 R1
  go_wp2_with (first | (refine wpList_store_has rfl 61 _ _ rfl (w.heap.size + 1) #[.int .i64 r, .int .i64 c, .int .i64 st, .int .i64 pa, .int .i64 cl, .int .i64 un] rfl rfl #[.int .i64 0, .int .i64 0, .int .i64 0, .int .i64 0, .int .i64 0, .int .i64 0] 61 (unhide RR) rfl sizeSa (by simp [Value.oneCell']) ?_; intro W2 h2 m2; have M2 := hide ((unhide M1).trans' m2 (fun i hi hl => by omega)); have c2 := h2.cell; have l2 := h2.lt; clear m2))
  have d0 : W2.cell? ⟨w.heap.size + 1, 0, none⟩ = some (.int .i64 r) := c2 0
  have d1 : W2.cell? ⟨w.heap.size + 1, 1, none⟩ = some (.int .i64 c) := c2 1
  have d2 : W2.cell? ⟨w.heap.size + 1, 2, none⟩ = some (.int .i64 st) := c2 2
  have d3 : W2.cell? ⟨w.heap.size + 1, 3, none⟩ = some (.int .i64 pa) := c2 3
  have d4 : W2.cell? ⟨w.heap.size + 1, 4, none⟩ = some (.int .i64 cl) := c2 4
  have d5 : W2.cell? ⟨w.heap.size + 1, 5, none⟩ = some (.int .i64 un) := c2 5
  refine bodyPost_ret (by simp [results, Try.results69, go_sem, d0, d1, d2, d3, d4, d5]; try rfl) rfl ?_
  exact ⟨rfl, unhide M2⟩
end Go.Proofs.Ythhibagcpjeihaa
/- Pages of seats: what is behind a cursor. -/
namespace Go.Proofs.Ythhibagcpjeihaa
open Go.RowKit
open M
set_option linter.unusedVariables false
set_option linter.unusedSimpArgs false
set_option maxRecDepth 100000
set_option maxHeartbeats 2000000

/-- A call of a Go function, as one step of a region that draws. -/
theorem step_call {P : Program} {ops : Array Oper} {o : Oper} {a : Act} {w : World} {K : Act → World → Prop} {Q : Exit → Act → World → Prop} {E : Prop}
    (hg : o.guard = none) (f : FuncId) (args : Array Operand) (tys : Array TypeId) (hop : o.op = Op.call { callee := Callee.value (Operand.func f), args := args, argTypes := tys })
    (vs : Array Value) (hvs : args.map a.eval = vs) (hcf : ∀ W, (callFunc f vs).run P W = .ok (.enter f vs) W) (v : Value) (R : World → Prop) (hc : Calls P f vs w fun e w' => e = .returned v ∧ R w')
    (hK : ∀ w', R w' → K (a.put o.dst v) w') : if Region.wanted o (yielded ops a.tmps) = true then Oper.wp P o a w K Q else E := by
  have hw : Region.wanted o (yielded ops a.tmps) = true := by simp [Region.wanted, hg]
  rw [if_pos hw]
  unfold Oper.wp execOp
  simp [go_sem, hop, hvs]
  rw [hcf]
  simp [go_sem]
  refine hc.mono ?_
  rintro e w' ⟨rfl, hr⟩
  exact hK _ hr

/-- How many seats are ahead of the first one behind a cursor; why there is none. -/
def behindK (p : Pla) (r c e : Int) : Int × Int :=
  if r = 0 ∧ c = 0 ∧ e = 0 then (0, 0) else if e ≠ p.ep then (0, 13) else if p.has r c = false then (0, 5) else ((p.idx r c : Int) + 1, 0)

theorem behind_r {w : World} {b m clock : Nat} {p : Pla} {l : List Sea} {es : List MEnt} (h : FlX w b p l m es clock) (hwf : Wf p l) (r c e : Int) (hq0 : r ≠ 0) :
    Calls Try.prog 66 #[.pointer (some ⟨b, 0, none⟩), .agg #[.int .i64 r, .int .i64 c, .int .i64 e]] w fun e' w' => e' = .returned (.tuple #[.int .i64 (behindK p r c e).1, .int .i64 (behindK p r c e).2]) ∧ Mod No w w' := by
  have mA : Mod No w (w.alloc (.cells #[.int .i64 r, .int .i64 c, .int .i64 e] 63)) := (Mod.refl _ w).alloc _
  have MA := hide mA
  have c24 := (mA.has h.has (fun x => x)).cell 24
  rw [show (fcells p (.map (some m)) l)[24]? = some (.int .i64 p.ep) from rfl] at c24
  have hlt := (mA.has h.has (fun x => x)).lt
  have HH := hide fun W (hW : Mod No w W) => (show Calls Try.prog 77 #[.pointer (some ⟨b, 0, none⟩), .agg #[.int .i64 r, .int .i64 c]] W fun e w' => e = .returned (.bool (p.has r c)) ∧ Mod No W w' from has_walk b r c p.rows p.cols _ W (hW.has h.has (fun x => x)) rfl rfl)
  have hB := hwf.bounds
  simp only at hB
  have HAH := hide fun W (hW : Mod No w W) (hh : p.has r c = true) => (show Calls Try.prog 90 #[.pointer (some ⟨b, 0, none⟩), .agg #[.int .i64 r, .int .i64 c]] W fun e w' => e = .returned (.int .i64 (p.idx r c : Int)) ∧ Mod No W w' from by
    simp only [Pla.has, decide_eq_true_eq] at hh
    have := ahead_walk b _ _ r c p.cols W (hW.has h.has (fun x => x)) rfl (by omega) (by omega) (by omega)
    have hi : (r - 1) * p.cols + c - 1 = (p.idx r c : Int) := by
      unfold Pla.idx
      have m3 : 0 ≤ (r - 1) * p.cols := Int.mul_nonneg (by omega) (by omega)
      omega
    rw [hi] at this
    exact this)
  have BA := hide (Has.new w #[.int .i64 r, .int .i64 c, .int .i64 e] 63)
  have HI := hide fun (hh : p.has r c = true) => (show IntKind.i64.wrap ((p.idx r c : Int) + 1) = (p.idx r c : Int) + 1 from by
    have := Fli.wf.idx_lt hwf hh
    have hl := Fli.wf.len_le hwf
    simp only at this hl
    exact wrap_id _ (by omega) (by omega))
  clear h hwf hB mA
  unfold behindK
  rw [if_neg (by rintro ⟨h1, h2, h3⟩; first | exact hq0 h1 | exact hq0 h2 | exact hq0 h3)]
  have hq : (r == 0) = false := by simpa using hq0
  clear hq0
  by_cases he : e = p.ep
  case neg =>
    rw [if_pos he]
    have hne : (e != p.ep) = true := by simpa using he
    clear he
    go_enter Try.func66, Try.ntmps66
    go_wp2
    go_quiet (fail)
    go_wp2
    go_ret2
    exact ⟨rfl, (unhide MA).drewN _⟩
  rw [if_neg (by simpa using he)]
  have hne : (e != p.ep) = false := by simpa using he
  by_cases hh : p.has r c = true
  case neg =>
    have hh' : p.has r c = false := by simpa using hh
    rw [if_pos hh']
    rw [hh'] at HH
    clear he hh hh' HI HAH
    go_enter Try.func66, Try.ntmps66
    go_wp2
    go_quiet (fail)
    go_wp2_with fail
    refine ((unhide HH) _ ((unhide MA).drewN _)).mono ?_
    rintro e5 w5 ⟨rfl, m5⟩
    have M5 := hide (((unhide MA).drewN _).trans m5)
    clear m5
    go_wp2
    go_ret2
    exact ⟨rfl, unhide M5⟩
  rw [if_neg (by simp [hh])]
  have hw := (unhide HI) hh
  have HA := hide fun W (hW : Mod No w W) => (unhide HAH) W hW hh
  rw [hh] at HH
  clear he hh HI HAH
  go_enter Try.func66, Try.ntmps66
  go_wp2
  go_quiet (fail)
  go_wp2_with fail
  refine ((unhide HH) _ ((unhide MA).drewN _)).mono ?_
  rintro e5 w5 ⟨rfl, m5⟩
  have b5 := (m5.has ((unhide BA).drewN _) (fun x => x)).cell
  have l5 := (m5.has ((unhide BA).drewN _) (fun x => x)).lt
  have M5 := hide (((unhide MA).drewN _).trans m5)
  clear m5
  go_wp2_with fail
  refine ((unhide HA) _ (unhide M5)).mono ?_
  rintro e6 w6 ⟨rfl, m6⟩
  have M6 := hide ((unhide M5).trans m6)
  clear m6
  go_wp2
  go_ret2
  exact ⟨rfl, unhide M6⟩

theorem behind_c {w : World} {b m clock : Nat} {p : Pla} {l : List Sea} {es : List MEnt} (h : FlX w b p l m es clock) (hwf : Wf p l) (c e : Int) (hq0 : c ≠ 0) :
    Calls Try.prog 66 #[.pointer (some ⟨b, 0, none⟩), .agg #[.int .i64 0, .int .i64 c, .int .i64 e]] w fun e' w' => e' = .returned (.tuple #[.int .i64 (behindK p 0 c e).1, .int .i64 (behindK p 0 c e).2]) ∧ Mod No w w' := by
  have mA : Mod No w (w.alloc (.cells #[.int .i64 0, .int .i64 c, .int .i64 e] 63)) := (Mod.refl _ w).alloc _
  have MA := hide mA
  have c24 := (mA.has h.has (fun x => x)).cell 24
  rw [show (fcells p (.map (some m)) l)[24]? = some (.int .i64 p.ep) from rfl] at c24
  have hlt := (mA.has h.has (fun x => x)).lt
  have HH := hide fun W (hW : Mod No w W) => (show Calls Try.prog 77 #[.pointer (some ⟨b, 0, none⟩), .agg #[.int .i64 0, .int .i64 c]] W fun e w' => e = .returned (.bool (p.has 0 c)) ∧ Mod No W w' from has_walk b 0 c p.rows p.cols _ W (hW.has h.has (fun x => x)) rfl rfl)
  have hB := hwf.bounds
  simp only at hB
  have HAH := hide fun W (hW : Mod No w W) (hh : p.has 0 c = true) => (show Calls Try.prog 90 #[.pointer (some ⟨b, 0, none⟩), .agg #[.int .i64 0, .int .i64 c]] W fun e w' => e = .returned (.int .i64 (p.idx 0 c : Int)) ∧ Mod No W w' from by
    simp only [Pla.has, decide_eq_true_eq] at hh
    have := ahead_walk b _ _ 0 c p.cols W (hW.has h.has (fun x => x)) rfl (by omega) (by omega) (by omega)
    have hi : (0 - 1) * p.cols + c - 1 = (p.idx 0 c : Int) := by
      unfold Pla.idx
      have m3 : 0 ≤ (0 - 1) * p.cols := Int.mul_nonneg (by omega) (by omega)
      omega
    rw [hi] at this
    exact this)
  have BA := hide (Has.new w #[.int .i64 0, .int .i64 c, .int .i64 e] 63)
  have HI := hide fun (hh : p.has 0 c = true) => (show IntKind.i64.wrap ((p.idx 0 c : Int) + 1) = (p.idx 0 c : Int) + 1 from by
    have := Fli.wf.idx_lt hwf hh
    have hl := Fli.wf.len_le hwf
    simp only at this hl
    exact wrap_id _ (by omega) (by omega))
  clear h hwf hB mA
  unfold behindK
  rw [if_neg (by rintro ⟨h1, h2, h3⟩; first | exact hq0 h1 | exact hq0 h2 | exact hq0 h3)]
  have hq : (c == 0) = false := by simpa using hq0
  clear hq0
  by_cases he : e = p.ep
  case neg =>
    rw [if_pos he]
    have hne : (e != p.ep) = true := by simpa using he
    clear he
    go_enter Try.func66, Try.ntmps66
    go_wp2
    go_quiet (fail)
    go_wp2
    go_ret2
    exact ⟨rfl, (unhide MA).drewN _⟩
  rw [if_neg (by simpa using he)]
  have hne : (e != p.ep) = false := by simpa using he
  by_cases hh : p.has 0 c = true
  case neg =>
    have hh' : p.has 0 c = false := by simpa using hh
    rw [if_pos hh']
    rw [hh'] at HH
    clear he hh hh' HI HAH
    go_enter Try.func66, Try.ntmps66
    go_wp2
    go_quiet (fail)
    go_wp2_with fail
    refine ((unhide HH) _ ((unhide MA).drewN _)).mono ?_
    rintro e5 w5 ⟨rfl, m5⟩
    have M5 := hide (((unhide MA).drewN _).trans m5)
    clear m5
    go_wp2
    go_ret2
    exact ⟨rfl, unhide M5⟩
  rw [if_neg (by simp [hh])]
  have hw := (unhide HI) hh
  have HA := hide fun W (hW : Mod No w W) => (unhide HAH) W hW hh
  rw [hh] at HH
  clear he hh HI HAH
  go_enter Try.func66, Try.ntmps66
  go_wp2
  go_quiet (fail)
  go_wp2_with fail
  refine ((unhide HH) _ ((unhide MA).drewN _)).mono ?_
  rintro e5 w5 ⟨rfl, m5⟩
  have b5 := (m5.has ((unhide BA).drewN _) (fun x => x)).cell
  have l5 := (m5.has ((unhide BA).drewN _) (fun x => x)).lt
  have M5 := hide (((unhide MA).drewN _).trans m5)
  clear m5
  go_wp2_with fail
  refine ((unhide HA) _ (unhide M5)).mono ?_
  rintro e6 w6 ⟨rfl, m6⟩
  have M6 := hide ((unhide M5).trans m6)
  clear m6
  go_wp2
  go_ret2
  exact ⟨rfl, unhide M6⟩

theorem behind_e {w : World} {b m clock : Nat} {p : Pla} {l : List Sea} {es : List MEnt} (h : FlX w b p l m es clock) (hwf : Wf p l) (e : Int) (hq0 : e ≠ 0) :
    Calls Try.prog 66 #[.pointer (some ⟨b, 0, none⟩), .agg #[.int .i64 0, .int .i64 0, .int .i64 e]] w fun e' w' => e' = .returned (.tuple #[.int .i64 (behindK p 0 0 e).1, .int .i64 (behindK p 0 0 e).2]) ∧ Mod No w w' := by
  have mA : Mod No w (w.alloc (.cells #[.int .i64 0, .int .i64 0, .int .i64 e] 63)) := (Mod.refl _ w).alloc _
  have MA := hide mA
  have c24 := (mA.has h.has (fun x => x)).cell 24
  rw [show (fcells p (.map (some m)) l)[24]? = some (.int .i64 p.ep) from rfl] at c24
  have hlt := (mA.has h.has (fun x => x)).lt
  have HH := hide fun W (hW : Mod No w W) => (show Calls Try.prog 77 #[.pointer (some ⟨b, 0, none⟩), .agg #[.int .i64 0, .int .i64 0]] W fun e w' => e = .returned (.bool (p.has 0 0)) ∧ Mod No W w' from has_walk b 0 0 p.rows p.cols _ W (hW.has h.has (fun x => x)) rfl rfl)
  have hB := hwf.bounds
  simp only at hB
  have HAH := hide fun W (hW : Mod No w W) (hh : p.has 0 0 = true) => (show Calls Try.prog 90 #[.pointer (some ⟨b, 0, none⟩), .agg #[.int .i64 0, .int .i64 0]] W fun e w' => e = .returned (.int .i64 (p.idx 0 0 : Int)) ∧ Mod No W w' from by
    simp only [Pla.has, decide_eq_true_eq] at hh
    have := ahead_walk b _ _ 0 0 p.cols W (hW.has h.has (fun x => x)) rfl (by omega) (by omega) (by omega)
    have hi : (0 - 1) * p.cols + 0 - 1 = (p.idx 0 0 : Int) := by
      unfold Pla.idx
      have m3 : 0 ≤ (0 - 1) * p.cols := Int.mul_nonneg (by omega) (by omega)
      omega
    rw [hi] at this
    exact this)
  have BA := hide (Has.new w #[.int .i64 0, .int .i64 0, .int .i64 e] 63)
  have HI := hide fun (hh : p.has 0 0 = true) => (show IntKind.i64.wrap ((p.idx 0 0 : Int) + 1) = (p.idx 0 0 : Int) + 1 from by
    have := Fli.wf.idx_lt hwf hh
    have hl := Fli.wf.len_le hwf
    simp only at this hl
    exact wrap_id _ (by omega) (by omega))
  clear h hwf hB mA
  unfold behindK
  rw [if_neg (by rintro ⟨h1, h2, h3⟩; first | exact hq0 h1 | exact hq0 h2 | exact hq0 h3)]
  have hq : (e == 0) = false := by simpa using hq0
  clear hq0
  by_cases he : e = p.ep
  case neg =>
    rw [if_pos he]
    have hne : (e != p.ep) = true := by simpa using he
    clear he
    go_enter Try.func66, Try.ntmps66
    go_wp2
    go_quiet (fail)
    go_wp2
    go_ret2
    exact ⟨rfl, (unhide MA).drewN _⟩
  rw [if_neg (by simpa using he)]
  have hne : (e != p.ep) = false := by simpa using he
  by_cases hh : p.has 0 0 = true
  case neg =>
    have hh' : p.has 0 0 = false := by simpa using hh
    rw [if_pos hh']
    rw [hh'] at HH
    clear he hh hh' HI HAH
    go_enter Try.func66, Try.ntmps66
    go_wp2
    go_quiet (fail)
    go_wp2_with fail
    refine ((unhide HH) _ ((unhide MA).drewN _)).mono ?_
    rintro e5 w5 ⟨rfl, m5⟩
    have M5 := hide (((unhide MA).drewN _).trans m5)
    clear m5
    go_wp2
    go_ret2
    exact ⟨rfl, unhide M5⟩
  rw [if_neg (by simp [hh])]
  have hw := (unhide HI) hh
  have HA := hide fun W (hW : Mod No w W) => (unhide HAH) W hW hh
  rw [hh] at HH
  clear he hh HI HAH
  go_enter Try.func66, Try.ntmps66
  go_wp2
  go_quiet (fail)
  go_wp2_with fail
  refine ((unhide HH) _ ((unhide MA).drewN _)).mono ?_
  rintro e5 w5 ⟨rfl, m5⟩
  have b5 := (m5.has ((unhide BA).drewN _) (fun x => x)).cell
  have l5 := (m5.has ((unhide BA).drewN _) (fun x => x)).lt
  have M5 := hide (((unhide MA).drewN _).trans m5)
  clear m5
  go_wp2_with fail
  refine ((unhide HA) _ (unhide M5)).mono ?_
  rintro e6 w6 ⟨rfl, m6⟩
  have M6 := hide ((unhide M5).trans m6)
  clear m6
  go_wp2
  go_ret2
  exact ⟨rfl, unhide M6⟩

theorem behind_any {w : World} {b m clock : Nat} {p : Pla} {l : List Sea} {es : List MEnt} (h : FlX w b p l m es clock) (hwf : Wf p l) (r c e : Int) :
    Calls Try.prog 66 #[.pointer (some ⟨b, 0, none⟩), .agg #[.int .i64 r, .int .i64 c, .int .i64 e]] w fun e' w' => e' = .returned (.tuple #[.int .i64 (behindK p r c e).1, .int .i64 (behindK p r c e).2]) ∧ Mod No w w' := by
  have mA : Mod No w (w.alloc (.cells #[.int .i64 r, .int .i64 c, .int .i64 e] 63)) := (Mod.refl _ w).alloc _
  have MA := hide mA
  have c24 := (mA.has h.has (fun x => x)).cell 24
  rw [show (fcells p (.map (some m)) l)[24]? = some (.int .i64 p.ep) from rfl] at c24
  have hlt := (mA.has h.has (fun x => x)).lt
  have HH := hide fun W (hW : Mod No w W) => (show Calls Try.prog 77 #[.pointer (some ⟨b, 0, none⟩), .agg #[.int .i64 r, .int .i64 c]] W fun e w' => e = .returned (.bool (p.has r c)) ∧ Mod No W w' from has_walk b r c p.rows p.cols _ W (hW.has h.has (fun x => x)) rfl rfl)
  have hB := hwf.bounds
  simp only at hB
  have HAH := hide fun W (hW : Mod No w W) (hh : p.has r c = true) => (show Calls Try.prog 90 #[.pointer (some ⟨b, 0, none⟩), .agg #[.int .i64 r, .int .i64 c]] W fun e w' => e = .returned (.int .i64 (p.idx r c : Int)) ∧ Mod No W w' from by
    simp only [Pla.has, decide_eq_true_eq] at hh
    have := ahead_walk b _ _ r c p.cols W (hW.has h.has (fun x => x)) rfl (by omega) (by omega) (by omega)
    have hi : (r - 1) * p.cols + c - 1 = (p.idx r c : Int) := by
      unfold Pla.idx
      have m3 : 0 ≤ (r - 1) * p.cols := Int.mul_nonneg (by omega) (by omega)
      omega
    rw [hi] at this
    exact this)
  have BA := hide (Has.new w #[.int .i64 r, .int .i64 c, .int .i64 e] 63)
  have HI := hide fun (hh : p.has r c = true) => (show IntKind.i64.wrap ((p.idx r c : Int) + 1) = (p.idx r c : Int) + 1 from by
    have := Fli.wf.idx_lt hwf hh
    have hl := Fli.wf.len_le hwf
    simp only at this hl
    exact wrap_id _ (by omega) (by omega))
  have H0 := h
  have H1 := hwf
  clear h hwf hB mA
  unfold behindK
  by_cases hz : r = 0 ∧ c = 0 ∧ e = 0
  · rw [if_pos hz]
    obtain ⟨rfl, rfl, rfl⟩ := hz
    go_enter Try.func66, Try.ntmps66
    go_wp2
    go_ret2
    exact ⟨rfl, unhide MA⟩
  clear HH HAH BA HI c24 hlt MA
  by_cases h1 : r = 0
  · by_cases h2 : c = 0
    · have h3 : e ≠ 0 := fun h3 => hz ⟨h1, h2, h3⟩
      subst h1
      subst h2
      have := behind_e H0 H1 e h3
      unfold behindK at this
      exact this
    · subst h1
      have := behind_c H0 H1 c e h2
      unfold behindK at this
      exact this
  · have := behind_r H0 H1 r c e h1
    unfold behindK at this
    exact this
end Go.Proofs.Ythhibagcpjeihaa
/- Pages of seats: the model; a page that is refused. -/
namespace Go.Proofs.Ythhibagcpjeihaa
open Go.RowKit
open M
set_option linter.unusedVariables false
set_option linter.unusedSimpArgs false
set_option maxRecDepth 100000
set_option maxHeartbeats 4000000

/-- The place of the last seat; another one, if there is none. -/
def lastAt (r c : Int) (L : List Sea) : Int × Int := match L.getLast? with
  | none => (r, c)
  | some s => (s.row, s.col)

structure PageR where
  seats : List Sea
  r : Int
  c : Int
  ep : Int
  more : Bool
  err : Int

def pageK (p : Pla) (l : List Sea) (r c e size : Int) : PageR :=
  if size < 1 ∨ size > 30 then ⟨[], 0, 0, 0, false, 12⟩
  else if (behindK p r c e).2 ≠ 0 then ⟨[], 0, 0, 0, false, (behindK p r c e).2⟩
  else ⟨(l.drop (behindK p r c e).1.toNat).take size.toNat, (lastAt r c ((l.drop (behindK p r c e).1.toNat).take size.toNat)).1, (lastAt r c ((l.drop (behindK p r c e).1.toNat).take size.toNat)).2, p.ep,
    decide ((behindK p r c e).1.toNat + ((l.drop (behindK p r c e).1.toNat).take size.toNat).length < l.length), 0⟩

/-- A page, told: its list is new. -/
structure Told (w w' : World) (e : Ending) (R : PageR) : Prop where
  ex : ∃ v, e = .returned (.tuple #[.agg #[v, .int .i64 R.r, .int .i64 R.c, .int .i64 R.ep, .bool R.more], .int .i64 R.err]) ∧ w'.ownsRow 0 61 6 v R.seats.length (R.seats.flatMap seaL) ∧ ∀ k, v.ownBlock = some k → w.heap.size ≤ k
  mod : Mod No w w'

theorem page_size (b : Nat) (r c e size : Int) (hs : size < 1 ∨ size > 30) (w : World) :
    Calls Try.prog 51 #[.pointer (some ⟨b, 0, none⟩), .agg #[.int .i64 r, .int .i64 c, .int .i64 e], .int .i64 size] w fun e w' => Told w w' e ⟨[], 0, 0, 0, false, 12⟩ := by
  have fin : ∀ o1 o2, Told w ((w.alloc o1).alloc o2) (.returned (.tuple #[.agg #[.slice none 0 0, .int .i64 0, .int .i64 0, .int .i64 0, .bool false], .int .i64 12])) ⟨[], 0, 0, 0, false, 12⟩ := fun o1 o2 =>
    ⟨⟨.slice none 0 0, rfl, World.ownsRow_nil _ _ _ _, fun k hk => by simp [Value.ownBlock] at hk⟩, ((Mod.refl _ w).alloc _).alloc _⟩
  rcases Int.lt_or_le size 1 with h1 | h1
  · clear hs
    go_enter Try.func51, Try.ntmps51
    go_wp2
    refine bodyPost_ret (by simp [results, Try.results51, go_sem]; try rfl) rfl ?_
    exact fin _ _
  · have h2 : size > 30 := by omega
    have h1' : ¬ size < 1 := by omega
    clear hs h1
    go_enter Try.func51, Try.ntmps51
    go_wp2
    refine bodyPost_ret (by simp [results, Try.results51, go_sem]; try rfl) rfl ?_
    exact fin _ _

theorem page_stale (b : Nat) (r c e size x : Int) (hs : 1 ≤ size ∧ size ≤ 30) (hx : x ≠ 0) (w : World)
    (hB : ∀ W, Mod No w W → Calls Try.prog 66 #[.pointer (some ⟨b, 0, none⟩), .agg #[.int .i64 r, .int .i64 c, .int .i64 e]] W fun e' w' => e' = .returned (.tuple #[.int .i64 0, .int .i64 x]) ∧ Mod No W w') :
    Calls Try.prog 51 #[.pointer (some ⟨b, 0, none⟩), .agg #[.int .i64 r, .int .i64 c, .int .i64 e], .int .i64 size] w fun e w' => Told w w' e ⟨[], 0, 0, 0, false, x⟩ := by
  have HB := hide hB
  have hne : (x != 0) = true := by simpa using hx
  have h1 : ¬ size < 1 := by omega
  have h2 : ¬ size > 30 := by omega
  have mA : Mod No w ((w.alloc (.cells #[.int .i64 r, .int .i64 c, .int .i64 e] 63)).alloc (.cells #[.slice none 0 0, .int .i64 0, .int .i64 0, .int .i64 0, .bool false] 65)) := ((Mod.refl _ w).alloc _).alloc _
  have MA := hide mA
  have nR := Has.new (w.alloc (.cells #[.int .i64 r, .int .i64 c, .int .i64 e] 63)) #[.slice none 0 0, .int .i64 0, .int .i64 0, .int .i64 0, .bool false] 65
  rw [World.size_alloc] at nR
  have NR := hide nR
  clear hB hs hx mA nR
  go_enter Try.func51, Try.ntmps51
  go_wp2_with fail
  refine ((unhide HB) _ (unhide MA)).mono ?_
  rintro e1 w1 ⟨rfl, m1⟩
  have R1 := m1.has (unhide NR) (fun x => x)
  have M1 := hide ((unhide MA).trans m1)
  have d0 : w1.cell? ⟨w.heap.size + 1, 0, none⟩ = some (.slice none 0 0) := R1.cell 0
  have d1 : w1.cell? ⟨w.heap.size + 1, 1, none⟩ = some (.int .i64 0) := R1.cell 1
  have d2 : w1.cell? ⟨w.heap.size + 1, 2, none⟩ = some (.int .i64 0) := R1.cell 2
  have d3 : w1.cell? ⟨w.heap.size + 1, 3, none⟩ = some (.int .i64 0) := R1.cell 3
  have d4 : w1.cell? ⟨w.heap.size + 1, 4, none⟩ = some (.bool false) := R1.cell 4
  have f1 := R1.frozen
  have l1 := R1.lt
  clear m1 R1
  go_wp2
  refine bodyPost_ret (by simp [results, Try.results51, go_sem, d0, d1, d2, d3, d4]; try rfl) rfl ?_
  refine ⟨⟨.slice none 0 0, rfl, World.ownsRow_nil _ _ _ _, fun k hk => by simp [Value.ownBlock] at hk⟩, ?_⟩
  have hp : ∀ o, No (⟨w.heap.size + 1, o, none⟩ : Addr).block ∨ w.heap.size ≤ (⟨w.heap.size + 1, o, none⟩ : Addr).block := fun o => .inr (by simp)
  exact (((((unhide M1).setCell (hp 0) _).setCell (hp 1) _).setCell (hp 2) _).setCell (hp 3) _).setCell (hp 4) _
end Go.Proofs.Ythhibagcpjeihaa
/- Pages of seats: a page is filled. -/
namespace Go.Proofs.Ythhibagcpjeihaa
open Go.RowKit
open M
set_option linter.unusedVariables false
set_option linter.unusedSimpArgs false
set_option maxRecDepth 100000
set_option maxHeartbeats 4000000
attribute [local go_sem ↓] run_min2 run_max2

/-- The size, by a contract that leaves all but the draws. -/
theorem size_draws (b : Nat) (cs : Array Value) (T : TypeId) (R C : Int) (w : World) (h : Has w b cs T) (h0 : cs[0]? = some (.int .i64 R)) (h1 : cs[1]? = some (.int .i64 C)) (hw : IntKind.i64.wrap (R * C) = R * C) :
    Calls Try.prog 67 #[.pointer (some ⟨b, 0, none⟩)] w fun e w' => e = .returned (.int .i64 (R * C)) ∧ ∃ n, w' = w.drewN n := by
  have c0 := h.cell 0
  have c1 := h.cell 1
  rw [h0] at c0
  rw [h1] at c1
  have hlt := h.lt
  clear h h0 h1
  go_enter Try.func67, Try.ntmps67
  go_wp2
  go_quiet (fail)
  go_wp2
  go_ret
  exact ⟨rfl, _, rfl⟩

/-- What stands while a page is filled: i seats are in it. -/
structure PgI (w wr : World) (b m clock pb : Nat) (p : Pla) (l : List Sea) (es : List MEnt) (D : List Sea) (r c : Int) (more : Bool) (v : Value) (i : Nat) (j : Nat) : Prop where
  fl : FlX wr b p l m es clock
  page : Has wr pb #[v, .int .i64 (lastAt r c (D.take j)).1, .int .i64 (lastAt r c (D.take j)).2, .int .i64 p.ep, .bool more] 65
  row : wr.ownsRow 0 61 6 v i ((D.take i).flatMap seaL)
  new : ∀ k, v.ownBlock = some k → w.heap.size ≤ k ∧ k ≠ pb ∧ k ≠ w.heap.size + 1
  res : Has wr (w.heap.size + 1) #[.slice none 0 0, .int .i64 0, .int .i64 0, .int .i64 0, .bool false] 65
  pbn : w.heap.size ≤ pb ∧ pb ≠ w.heap.size + 1
  mod : Mod No w wr

theorem PgI.still {w wr w2 : World} {b m clock pb : Nat} {p : Pla} {l : List Sea} {es : List MEnt} {D : List Sea} {r c : Int} {more : Bool} {v : Value} {i j : Nat} (h : PgI w wr b m clock pb p l es D r c more v i j) (hm : Mod No wr w2) : PgI w w2 b m clock pb p l es D r c more v i j :=
  ⟨⟨hm.has h.fl.has (fun x => x), hm.map h.fl.map (fun x => x), h.fl.ok, h.fl.rel⟩, hm.has h.page (fun x => x), hm.owns h.row (fun _ _ x => x), h.new, hm.has h.res (fun x => x), h.pbn, h.mod.trans hm⟩

theorem lastAt_succ (r c : Int) (D : List Sea) (i : Nat) (hi : i < D.length) : lastAt r c (D.take (i + 1)) = (D[i].row, D[i].col) := by
  rw [take_succ D i hi]
  unfold lastAt
  rw [List.getLast?_append]
  simp

/-- A seat more is in the list; the page's end is not yet written. -/
theorem PgI.put {w wr w3 : World} {b m clock pb : Nat} {p : Pla} {l : List Sea} {es : List MEnt} {D : List Sea} {r c : Int} {more : Bool} {v v' : Value} {i : Nat} (h : PgI w wr b m clock pb p l es D r c more v i i) (hi : i < D.length) (o : Obj)
    (ho : w3.ownsRow 0 61 6 v' (i + 1) (((D.take i).flatMap seaL) ++ seaL D[i])) (hg : (wr.alloc o).grownBy w3 v.ownBlock) (hs : Stays (wr.alloc o) v v') (hb : b < w.heap.size) (hm' : m < w.heap.size) :
    PgI w (w3.setCell ⟨pb, 0, none⟩ v') b m clock pb p l es D r c more v' (i + 1) i := by
  have hm1 : Mod (fun k => v.ownBlock = some k) wr w3 := ((Mod.refl _ wr).alloc o).grown hg (fun k hk => .inl hk)
  have hpb := h.page.lt
  have hres := h.res.lt
  have hm2 : Mod (fun k => v.ownBlock = some k ∨ k = pb) wr (w3.setCell ⟨pb, 0, none⟩ v') := (hm1.mono (fun _ _ x => .inl x)).setCell (p := ⟨pb, 0, none⟩) (.inl (.inr rfl)) _
  have hn : ∀ k, k < w.heap.size → ¬ (v.ownBlock = some k ∨ k = pb) := fun k hk => by
    rintro (e | e)
    · have := (h.new k e).1; omega
    · have := h.pbn.1; omega
  have hnew : ∀ k, v'.ownBlock = some k → w.heap.size ≤ k ∧ k ≠ pb ∧ k ≠ w.heap.size + 1 := fun k hk => by
    rcases hs k hk with h1 | h1
    · exact h.new k h1
    · have := h.mod.size
      simp at h1
      omega
  refine ⟨⟨hm2.has h.fl.has (hn b hb), hm2.map h.fl.map (hn m hm'), h.fl.ok, h.fl.rel⟩, ?_, ?_, hnew, hm2.has h.res ?_, h.pbn, h.mod.trans' hm2 (fun k hk hl => hn k hl hk)⟩
  · have hp3 : Has w3 pb _ 65 := hm1.has h.page (fun e => (h.new pb e).2.1 rfl)
    exact hp3.set 0 v'
  · have : (D.take (i + 1)).flatMap seaL = (D.take i).flatMap seaL ++ seaL D[i] := by rw [take_succ D i hi, List.flatMap_append]; simp
    rw [this]
    exact owns_setCell_ne ho (by
      intro e
      exact (hnew pb (by simpa using e)).2.1 rfl) _
  · rintro (e | e)
    · exact (h.new _ e).2.2 rfl
    · exact h.pbn.2 e.symm

theorem PgI.end_ {w wr : World} {b m clock pb : Nat} {p : Pla} {l : List Sea} {es : List MEnt} {D : List Sea} {r c : Int} {more : Bool} {v : Value} {i : Nat} (h : PgI w wr b m clock pb p l es D r c more v (i + 1) i) (hi : i < D.length) (hb : b < w.heap.size) (hm' : m < w.heap.size) :
    PgI w ((wr.setCell ⟨pb, 1, none⟩ (.int .i64 D[i].row)).setCell ⟨pb, 2, none⟩ (.int .i64 D[i].col)) b m clock pb p l es D r c more v (i + 1) (i + 1) := by
  have hm2 : Mod (fun k => k = pb) wr ((wr.setCell ⟨pb, 1, none⟩ (.int .i64 D[i].row)).setCell ⟨pb, 2, none⟩ (.int .i64 D[i].col)) := ((Mod.refl _ wr).at 1 _).at 2 _
  have hn : ∀ k, k < w.heap.size → ¬ k = pb := fun k hk e => by have := h.pbn.1; omega
  refine ⟨⟨hm2.has h.fl.has (hn b hb), hm2.map h.fl.map (hn m hm'), h.fl.ok, h.fl.rel⟩, ?_, hm2.owns h.row (fun k hk e => (h.new k hk).2.1 e), h.new, hm2.has h.res (fun e => h.pbn.2 e.symm), h.pbn, h.mod.trans' hm2 (fun k hk hl => hn k hl hk)⟩
  rw [lastAt_succ r c D i hi]
  exact (h.page.set 1 _).set 2 _
end Go.Proofs.Ythhibagcpjeihaa
/- Another plane: the homeless find seats. -/
namespace Go.Proofs.Ythhibagcpjeihaa
open Go.RowKit Go.WideMaps
open Go.ChangeMaps (setBlock)
open M
set_option linter.unusedVariables false
set_option linter.unusedSimpArgs false
set_option maxRecDepth 100000
set_option maxHeartbeats 4000000

/-- A row of seats without their places, to be read. -/
structure RowE (w : World) (g : Nat) (hs : List Sea) : Prop where
  cur : ∃ cs, Has w g cs 170 ∧ ∀ i (h : i < hs.length), cs[i * 4]? = some (.int .i64 hs[i].st) ∧ cs[i * 4 + 1]? = some (.int .i64 hs[i].pa) ∧ cs[i * 4 + 2]? = some (.int .i64 hs[i].cl) ∧ cs[i * 4 + 3]? = some (.int .i64 hs[i].un)

/-- The flat form of a row: its cells. -/
theorem flat_at4 (f : Sea → List Value) (hf : ∀ x, (f x).length = 4) : ∀ (l : List Sea) (i : Nat) (h : i < l.length) (j : Nat), j < 4 → (l.flatMap f)[i * 4 + j]? = (f l[i])[j]?
  | [], i, h, _, _ => absurd h (Nat.not_lt_zero _)
  | x :: l, 0, h, j, hj => by
    rw [List.flatMap_cons, Nat.zero_mul, Nat.zero_add, List.getElem?_append_left (by rw [hf]; exact hj)]
    rfl
  | x :: l, i + 1, h, j, hj => by
    rw [List.flatMap_cons, List.getElem?_append_right (by rw [hf, Nat.add_mul]; omega), hf]
    rw [show (i + 1) * 4 + j - 4 = i * 4 + j by rw [Nat.add_mul, Nat.one_mul]; omega]
    exact flat_at4 f hf l i (by simpa using h) j hj

theorem rowE_of {w : World} {v : Value} {hs : List Sea} (h : w.ownsRow 0 170 4 v hs.length (hs.flatMap seL)) (hpos : 0 < hs.length) : ∃ g cp, v = .slice (some ⟨g, 0, none⟩) hs.length cp ∧ RowE w g hs := by
  obtain ⟨h0, h1 | ⟨g, cap, cur, hv, hb, hg, hn, hm, hsz, ht⟩⟩ := h
  · exact absurd h1.2 (by omega)
  · refine ⟨g, cap, hv, cur, hg, fun i hi => ?_⟩
    have hk : ∀ j, j < 4 → cur[i * 4 + j]? = (seL hs[i])[j]? := fun j hj => by
      have := flat_at4 seL seL_len hs i hi j hj
      rw [← ht, List.getElem?_take, if_pos (by omega)] at this
      rw [← Array.getElem?_toList, this]
    exact ⟨hk 0 (by omega), hk 1 (by omega), hk 2 (by omega), hk 3 (by omega)⟩

theorem RowE.mod {w w' : World} {g : Nat} {hs : List Sea} {S : Nat → Prop} (h : RowE w g hs) (hm : Mod S w w') (hg : ¬ S g) : RowE w' g hs := by
  obtain ⟨cs, h1, h2⟩ := h.cur
  exact ⟨cs, hm.has h1 hg, h2⟩

/-- While the homeless find seats: those behind n are still to come; the first k seats are taken. -/
structure ReI (w wr : World) (b m' : Nat) (Q : Pla) (acc0 : List Sea) (hs : List Sea) (n k : Nat) : Prop where
  fl : ∃ es' clock', FlX wr b Q ((hs.take n).foldl reseatStep acc0) m' es' clock'
  re : Reseat Q ((hs.take n).foldl reseatStep acc0) (hs.length - n)
  full : ∀ j (h : j < ((hs.take n).foldl reseatStep acc0).length), j < k → ((hs.take n).foldl reseatStep acc0)[j].st ≠ 0
  mod : Mod (fun k => k = b ∨ k = m') w wr

theorem ReI.still {w wr w2 : World} {b m' : Nat} {Q : Pla} {acc0 hs : List Sea} {n k : Nat} (h : ReI w wr b m' Q acc0 hs n k) (hm : Mod No wr w2) : ReI w w2 b m' Q acc0 hs n k := by
  obtain ⟨es', clock', hf⟩ := h.fl
  exact ⟨⟨es', clock', hm.has hf.has (fun x => x), hm.map hf.map (fun x => x), hf.ok, hf.rel⟩, h.re, h.full, h.mod.trans (hm.mono (fun _ _ x => x.elim))⟩

theorem firstFree_eq {acc : List Sea} {k : Nat} (hk : k < acc.length) (h0 : acc[k].st = 0) (hf : ∀ j (h : j < acc.length), j < k → acc[j].st ≠ 0) : firstFree acc = k := by
  unfold firstFree
  rw [List.findIdx_eq hk]
  refine ⟨by simp [h0], fun j hj => ?_⟩
  have := hf j (by omega) hj
  simpa using this

theorem reseatStep_at {acc : List Sea} {k : Nat} (hk : k < acc.length) (h0 : acc[k].st = 0) (hf : ∀ j (h : j < acc.length), j < k → acc[j].st ≠ 0) (s : Sea) : reseatStep acc s = acc.set k (Sea.at s acc[k]) := by
  unfold reseatStep
  rw [firstFree_eq hk h0 hf, List.getD_eq_getElem?_getD, List.getElem?_eq_getElem hk]
  rfl

theorem fold_take {acc0 hs : List Sea} {n : Nat} (hn : n < hs.length) : (hs.take (n + 1)).foldl reseatStep acc0 = reseatStep ((hs.take n).foldl reseatStep acc0) hs[n] := by
  rw [take_succ hs n hn, List.foldl_append]
  rfl

/-- The next seat is free: the next of the homeless takes it. -/
theorem ReI.put {w wr : World} {b m' : Nat} {Q : Pla} {acc0 hs : List Sea} {n k : Nat} (h : ReI w wr b m' Q acc0 hs n k) (hw : ∀ s ∈ hs, s.wf ∧ s.st ≠ 0) (hn : n < hs.length) (hk : k < ((hs.take n).foldl reseatStep acc0).length) (h0 : ((hs.take n).foldl reseatStep acc0)[k].st = 0) :
    Calls Try.prog 102 #[.pointer (some ⟨b, 0, none⟩), .agg #[.int .i64 ((hs.take n).foldl reseatStep acc0)[k].row, .int .i64 ((hs.take n).foldl reseatStep acc0)[k].col], .agg #[.int .i64 hs[n].st, .int .i64 hs[n].pa, .int .i64 hs[n].cl, .int .i64 hs[n].un]] wr fun e w' =>
      e = .returned (.tuple #[]) ∧ ReI w w' b m' Q acc0 hs (n + 1) k ∧ Mod (fun k => k = b ∨ k = m') wr w' := by
  obtain ⟨es', clock', hf⟩ := h.fl
  have hs' := hw _ (List.getElem_mem hn)
  have hff := firstFree_eq hk h0 h.full
  have hre : Reseat Q ((hs.take n).foldl reseatStep acc0) ((hs.length - (n + 1)) + 1) := by rw [show hs.length - (n + 1) + 1 = hs.length - n by omega]; exact h.re
  have hstep := Reseat.step hre hs'.1 hs'.2
  refine (put_exact hf h.re.wf k hk (Sea.at hs[n] ((hs.take n).foldl reseatStep acc0)[k]) (at_wf hs'.1) rfl rfl).mono ?_
  rintro e w' ⟨rfl, hf', hm'⟩
  have e1 : (hs.take (n + 1)).foldl reseatStep acc0 = ((hs.take n).foldl reseatStep acc0).set k (Sea.at hs[n] ((hs.take n).foldl reseatStep acc0)[k]) := by
    rw [fold_take hn]
    exact reseatStep_at hk h0 h.full _
  refine ⟨rfl, ⟨⟨_, _, by rw [e1]; exact hf'⟩, by rw [fold_take hn]; exact hstep, fun j hj hjk => ?_, h.mod.trans hm'⟩, hm'⟩
  simp only [e1] at hj ⊢
  rw [List.getElem_set_ne (by omega)]
  exact h.full j (by simpa using hj) hjk

theorem ReI.on {w wr : World} {b m' : Nat} {Q : Pla} {acc0 hs : List Sea} {n k : Nat} (h : ReI w wr b m' Q acc0 hs n k) (hk : k < ((hs.take n).foldl reseatStep acc0).length) (h0 : ((hs.take n).foldl reseatStep acc0)[k].st ≠ 0) : ReI w wr b m' Q acc0 hs n (k + 1) := by
  refine ⟨h.fl, h.re, fun j hj hjk => ?_, h.mod⟩
  by_cases e : j = k
  · subst e; exact h0
  · exact h.full j hj (by omega)

/-- There is a seat to come. -/
theorem ReI.lt {w wr : World} {b m' : Nat} {Q : Pla} {acc0 hs : List Sea} {n k : Nat} (h : ReI w wr b m' Q acc0 hs n k) (hn : n < hs.length) (hk : k ≤ ((hs.take n).foldl reseatStep acc0).length) : k < ((hs.take n).foldl reseatStep acc0).length := by
  have hre : Reseat Q ((hs.take n).foldl reseatStep acc0) ((hs.length - (n + 1)) + 1) := by rw [show hs.length - (n + 1) + 1 = hs.length - n by omega]; exact h.re
  have hl := firstFree_lt hre
  have h0 := firstFree_at hl
  rcases Nat.lt_or_ge (firstFree ((hs.take n).foldl reseatStep acc0)) k with h1 | h1
  · exact absurd h0 (h.full _ hl h1)
  · omega

theorem seesX {w : World} {b m clock : Nat} {p : Pla} {l : List Sea} {es : List MEnt} (h : FlX w b p l m es clock) (hwf : Wf p l) (i : Nat) (hi : i < l.length) (W : World) (hW : Mod No w W) :
    (Instr.lookup 136 (.map (some m)) (.agg #[.int .i64 l[i].row, .int .i64 l[i].col]) false).run Try.prog W = .ok (.agg #[.int .i64 l[i].st, .int .i64 l[i].pa, .int .i64 l[i].cl, .int .i64 l[i].un]) W := by
  have hplace := (hwf.place_has hi).1
  simp only [Pla.has, decide_eq_true_eq] at hplace
  obtain ⟨B1, B2, B3, B4, _⟩ := hwf.bounds
  simp only at B1 B2 B3 B4
  have := run_lookup W m es clock (hW.map h.map (fun x => x)) h.ok l[i].row l[i].col (by omega) (by omega)
  rw [h.rel.seat i hi] at this
  exact this
end Go.Proofs.Ythhibagcpjeihaa
