import Derived.Test.YtlcbemcamdafjaaCrecountedRowSMaps
import Derived.Test.YtlcbemcamdafjaaCrecountedSwap2
import Derived.Handy
/- Pages of seats: a cursor against the empty one; what a seat is told as. -/
namespace Go.Proofs.Ytlcbemcamdafjaa
open Go.RowKit
open M
set_option linter.unusedVariables false
set_option linter.unusedSimpArgs false
set_option maxRecDepth 100000
set_option maxHeartbeats 2000000

theorem eq2 (n : Nat) (a b c d : Int) (w : World) : (Op.equalIn (n + 2) 32 (.agg #[.int .i64 a, .int .i64 b]) (.agg #[.int .i64 c, .int .i64 d])).run Try.prog w = .ok (a == c && b == d) w := by
  have hs : Try.prog.stoodInHeld 32 = false := by kernel_rfl
  have r : ∀ x y : Int, (Op.equalIn (n + 1) 3 (.int .i64 x) (.int .i64 y)).run Try.prog w = .ok (x == y) w := fun x y => run_equalIn_int w n 3 .i64 .i64 x y Try.underlying3
  have p0 : ∀ x y : Int, (part 3 #[.int .i64 x, .int .i64 y] 0).run Try.prog w = .ok (.int .i64 x) w := fun x y => part3 _ _ _ rfl w
  have p1 : ∀ x y : Int, (part 3 #[.int .i64 x, .int .i64 y] 1).run Try.prog w = .ok (.int .i64 y) w := fun x y => part3 _ _ _ rfl w
  conv => lhs; arg 2; unfold Op.equalIn
  simp [Sem.run_bind, run_underlying Try.underlying32, Sem.run, program, hs, r, p0, p1]
  by_cases h1 : a = c <;> by_cases h2 : b = d <;> simp [h1, h2]

theorem eq3 (a b e c d f : Int) (w : World) : (Op.equalIn 10000 63 (.agg #[.int .i64 a, .int .i64 b, .int .i64 e]) (.agg #[.int .i64 c, .int .i64 d, .int .i64 f])).run Try.prog w = .ok ((a == c && b == d) && e == f) w := by
  have hs : Try.prog.stoodInHeld 63 = false := by kernel_rfl
  have r : ∀ x y : Int, (Op.equalIn 9999 3 (.int .i64 x) (.int .i64 y)).run Try.prog w = .ok (x == y) w := fun x y => run_equalIn_int w 9998 3 .i64 .i64 x y Try.underlying3
  have r2 : ∀ a b c d : Int, (Op.equalIn 9999 32 (.agg #[.int .i64 a, .int .i64 b]) (.agg #[.int .i64 c, .int .i64 d])).run Try.prog w = .ok (a == c && b == d) w := fun a b c d => eq2 9997 a b c d w
  have p0 : ∀ x y z : Int, (part 32 #[.int .i64 x, .int .i64 y, .int .i64 z] 0).run Try.prog w = .ok (.agg #[.int .i64 x, .int .i64 y]) w := fun x y z => by kernel_rfl
  have p1 : ∀ x y z : Int, (part 3 #[.int .i64 x, .int .i64 y, .int .i64 z] 2).run Try.prog w = .ok (.int .i64 z) w := fun x y z => part3 _ _ _ rfl w
  rw [show (10000 : Nat) = 9999 + 1 from rfl]
  conv => lhs; arg 2; unfold Op.equalIn
  simp [Sem.run_bind, run_underlying Try.underlying63, Sem.run, program, hs, r, r2, p0, p1]
  by_cases h1 : a = c <;> by_cases h2 : b = d <;> by_cases h3 : e = f <;> simp [h1, h2, h3]

/-- Is a cursor the empty one? -/
def isZ (a b e : Int) : Bool := (a == 0 && b == 0) && e == 0
theorem eq3z (a b e : Int) (w : World) : (Op.equalIn 10000 63 (.agg #[.int .i64 a, .int .i64 b, .int .i64 e]) (.agg #[.int .i64 0, .int .i64 0, .int .i64 0])).run Try.prog w = .ok (isZ a b e) w := eq3 a b e 0 0 0 w

/-- Has a place so many places ahead of it? -/
theorem ahead_walk (b : Nat) (cs : Array Value) (T : TypeId) (r c C : Int) (w : World) (h : Has w b cs T) (h1 : cs[1]? = some (.int .i64 C)) (hr : 1 ≤ r ∧ r ≤ 1000) (hc : 1 ≤ c ∧ c ≤ 1000) (hC : 1 ≤ C ∧ C ≤ 1000) :
    Calls Try.prog 70 #[.pointer (some ⟨b, 0, none⟩), .agg #[.int .i64 r, .int .i64 c]] w fun e w' => e = .returned (.int .i64 ((r - 1) * C + c - 1)) ∧ Mod No w w' := by
  have c1 := h.cell 1
  rw [h1] at c1
  have hlt := h.lt
  have m0 : 0 ≤ (r - 1) * C := Int.mul_nonneg (by omega) (by omega)
  have m1 : (r - 1) * C ≤ 1000 * 1000 := Int.mul_le_mul (by omega) (by omega) (by omega) (by omega)
  have w1 : IntKind.i64.wrap (r - 1) = r - 1 := wrap_id _ (by omega) (by omega)
  have w2 : IntKind.i64.wrap ((r - 1) * C) = (r - 1) * C := wrap_id _ (by omega) (by omega)
  have w3 : IntKind.i64.wrap ((r - 1) * C + c) = (r - 1) * C + c := wrap_id _ (by omega) (by omega)
  have w4 : IntKind.i64.wrap ((r - 1) * C + c - 1) = (r - 1) * C + c - 1 := wrap_id _ (by omega) (by omega)
  clear h h1 m0 m1
  go_enter Try.func70, Try.ntmps70
  go_wp2
  go_quiet (fail)
  go_wp2
  go_ret
  exact ⟨rfl, ((Mod.refl _ _).alloc _).drewN _⟩

theorem sizeSa : (Try.prog.info? 61).map (·.size) = some 6 := by kernel_rfl
theorem tell_walk (b m : Nat) (cs : Array Value) (r c st pa cl un : Int) (w : World) (h : Has w b cs 121) (h7 : cs[7]? = some (.map (some m)))
    (hL : ∀ W, Mod No w W → (Instr.lookup 119 (.map (some m)) (.agg #[.int .i64 r, .int .i64 c]) false).run Try.prog W = .ok (.agg #[.int .i64 st, .int .i64 pa, .int .i64 cl, .int .i64 un]) W) :
    Calls Try.prog 57 #[.pointer (some ⟨b, 0, none⟩), .agg #[.int .i64 r, .int .i64 c]] w fun e w' => e = .returned (.agg #[.int .i64 r, .int .i64 c, .int .i64 st, .int .i64 pa, .int .i64 cl, .int .i64 un]) ∧ Mod No w w' := by
  have mA : Mod No w ((w.alloc (.cells #[.int .i64 r, .int .i64 c] 32)).alloc (.cells #[.int .i64 0, .int .i64 0, .int .i64 0, .int .i64 0, .int .i64 0, .int .i64 0] 61)) := ((Mod.refl _ w).alloc _).alloc _
  have c7 := (mA.has h (fun x => x)).cell 7
  rw [h7] at c7
  have hlt := (mA.has h (fun x => x)).lt
  have l1 := fun X => hL ((((w.alloc (.cells #[.int .i64 r, .int .i64 c] 32)).alloc (.cells #[.int .i64 0, .int .i64 0, .int .i64 0, .int .i64 0, .int .i64 0, .int .i64 0] 61))).alloc X).drew (mA.alloc X).drew
  have l2 := hL (((w.alloc (.cells #[.int .i64 r, .int .i64 c] 32)).alloc (.cells #[.int .i64 0, .int .i64 0, .int .i64 0, .int .i64 0, .int .i64 0, .int .i64 0] 61))).drew mA.drew
  have BA := hide ((Has.new w #[.int .i64 r, .int .i64 c] 32).alloc (.cells #[.int .i64 0, .int .i64 0, .int .i64 0, .int .i64 0, .int .i64 0, .int .i64 0] 61))
  have bA := ((Has.new w #[.int .i64 r, .int .i64 c] 32).alloc (.cells #[.int .i64 0, .int .i64 0, .int .i64 0, .int .i64 0, .int .i64 0, .int .i64 0] 61)).cell
  have lA := ((Has.new w #[.int .i64 r, .int .i64 c] 32).alloc (.cells #[.int .i64 0, .int .i64 0, .int .i64 0, .int .i64 0, .int .i64 0, .int .i64 0] 61)).lt
  have bR := Has.new (w.alloc (.cells #[.int .i64 r, .int .i64 c] 32)) #[.int .i64 0, .int .i64 0, .int .i64 0, .int .i64 0, .int .i64 0, .int .i64 0] 61
  rw [World.size_alloc] at bR
  have cR := bR.cell
  have fR := bR.frozen
  have lR := bR.lt
  have MA := hide mA
  have BR := hide bR
  clear h h7 hL mA bR
  go_enter Try.func57, Try.ntmps57
  go_wp2
  generalize ((w.alloc (.cells #[.int .i64 r, .int .i64 c] 32)).alloc (.cells #[.int .i64 0, .int .i64 0, .int .i64 0, .int .i64 0, .int .i64 0, .int .i64 0] 61)) = W0 at *
  go_region
  have B1 := ((unhide BA).alloc (.cells #[.int .i64 st, .int .i64 pa, .int .i64 cl, .int .i64 un] 143)).drew
  have R1 := ((unhide BR).alloc (.cells #[.int .i64 st, .int .i64 pa, .int .i64 cl, .int .i64 un] 143)).drew
  have S1 := (Has.new W0 #[.int .i64 st, .int .i64 pa, .int .i64 cl, .int .i64 un] 143).drew
  have M1 := hide ((unhide MA).alloc (.cells #[.int .i64 st, .int .i64 pa, .int .i64 cl, .int .i64 un] 143)).drew
  clear l1 l2 bA lA cR fR lR c7 hlt MA BA BR
  have hne : w.heap.size + 1 ≠ W0.heap.size := by have := R1.ne S1 (by decide); exact this
  generalize (W0.alloc (.cells #[.int .i64 st, .int .i64 pa, .int .i64 cl, .int .i64 un] 143)).drew = W1 at *
  generalize W0.heap.size = sb at *
  have b1 := B1.cell
  have s1 := S1.cell
  have RR := hide R1
  clear B1 S1 R1
  go_wp2_with (first | (refine wpList_store_has rfl 61 _ _ rfl (w.heap.size + 1) #[.int .i64 r, .int .i64 c, .int .i64 st, .int .i64 pa, .int .i64 cl, .int .i64 un] rfl rfl #[.int .i64 0, .int .i64 0, .int .i64 0, .int .i64 0, .int .i64 0, .int .i64 0] 61 (unhide RR) rfl sizeSa (by simp [Value.oneCell']) ?_; intro W2 h2 m2; have M2 := hide ((unhide M1).trans' m2 (fun i hi hl => by omega)); have c2 := h2.cell; have l2 := h2.lt; clear m2))
  have d0 : W2.cell? ⟨w.heap.size + 1, 0, none⟩ = some (.int .i64 r) := c2 0
  have d1 : W2.cell? ⟨w.heap.size + 1, 1, none⟩ = some (.int .i64 c) := c2 1
  have d2 : W2.cell? ⟨w.heap.size + 1, 2, none⟩ = some (.int .i64 st) := c2 2
  have d3 : W2.cell? ⟨w.heap.size + 1, 3, none⟩ = some (.int .i64 pa) := c2 3
  have d4 : W2.cell? ⟨w.heap.size + 1, 4, none⟩ = some (.int .i64 cl) := c2 4
  have d5 : W2.cell? ⟨w.heap.size + 1, 5, none⟩ = some (.int .i64 un) := c2 5
  refine bodyPost_ret (by simp [results, Try.results57, go_sem, d0, d1, d2, d3, d4, d5]; try rfl) rfl ?_
  exact ⟨rfl, unhide M2⟩
end Go.Proofs.Ytlcbemcamdafjaa
