import Derived.Test.YthhibagcpjeihaaLWt1ToWt2
import Derived.Test.YthhibagcpjeihaaLRd3ToSeat
import Derived.Test.YthhibagcpjeihaaLBaseToAppend
import Derived.Deep.DeepCutAuto
import Derived.Handy
namespace Go.Proofs.Ythhibagcpjeihaa
open Go.RowKit
open M
set_option linter.unusedVariables false
set_option linter.unusedSimpArgs false
set_option maxRecDepth 100000
structure EqT (T : TypeId) (n k : Nat) (mk : (Nat → Int) → Value) : Prop where
 part : ∀ (F : Nat → Int) (N off : Nat) (w : World), off + n ≤ N → (part T (tab F N) off).run Try.prog w = .ok (mk fun j => F (off + j)) w
 eq : ∀ (f g : Nat → Int) (m : Nat) (w : World), k ≤ m → ∃ r : Bool, (Op.equalIn m T (mk f) (mk g)).run Try.prog w = .ok r w ∧ (r = true ↔ ∀ j, j < n → f j = g j)
 cells : Try.prog.cellsOf T = n
 info : ∃ i, Try.prog.info? T = some i
theorem EqT.more {T : TypeId} {n k k' : Nat} {mk : (Nat → Int) → Value} (h : EqT T n k mk) (hk : k ≤ k') : EqT T n k' mk := ⟨h.part, fun f g m w hm => h.eq f g m w (by omega), h.cells, h.info⟩
theorem cells_size {T : TypeId} {n : Nat} (h : (Try.prog.info? T).map (·.size) = some n) : Try.prog.cellsOf T = n ∧ ∃ i, Try.prog.info? T = some i ∧ i.size = n := by
 cases hi : Try.prog.info? T with
 | none => rw [hi] at h; cases h
 | some i =>
  rw [hi] at h
  have hs : i.size = n := by simpa using h
  refine ⟨?_, i, rfl, hs⟩
  unfold Program.cellsOf
  rw [hi]
  simpa using hs
theorem EqT.int {T : TypeId} {q : IntKind} (hu : Try.prog.underlying T = some (.int q)) (hs : (Try.prog.info? T).map (·.size) = some 1) : EqT T 1 1 (fun f => .int .i64 (f 0)) := by
 obtain ⟨h1, i, h2, h3⟩ := cells_size hs
 refine ⟨fun F N off w h => ?_, fun f g m w hm => ?_, h1, i, h2⟩
 ·have hg := tab_get F N off (by omega)
  unfold Go.part
  simp [Sem.run_bind, isAgg, run_underlying hu, hg]
 ·obtain ⟨m, rfl⟩ : ∃ d, m = d + 1 := ⟨m - 1, by omega⟩
  refine ⟨f 0 == g 0, run_equalIn_int w m T .i64 q _ _ hu, ?_⟩
  simp only [beq_iff_eq]
  exact ⟨fun e j hj => by rw [show j = 0 by omega]; exact e, fun e => e 0 (by omega)⟩
theorem tab_sub (F : Nat → Int) (N n off : Nat) (h : off + n ≤ N) : (tab F N).extract off (off + n) = tab (fun j => F (off + j)) n := by
 apply Array.ext
 ·simp only [Array.size_extract, tab_size]; omega
 ·intro j h1 h2
  rw [tab_size] at h2
  rw [Array.getElem_extract]
  have e1 := tab_get F N (off + j) (by omega)
  have e2 := tab_get (fun j => F (off + j)) n j h2
  rw [Array.getElem?_eq_getElem (by rw [tab_size]; omega)] at e1
  rw [Array.getElem?_eq_getElem (by rw [tab_size]; omega)] at e2
  rw [Option.some.inj e1, Option.some.inj e2]
theorem part_agg {T : TypeId} {n : Nat} (hr : (Try.prog.underlying T).map (·.isRow) = some true) (hs : (Try.prog.info? T).map (·.size) = some n) (F : Nat → Int) (N off : Nat) (w : World) (h : off + n ≤ N) :
  (part T (tab F N) off).run Try.prog w = .ok (.agg (tab (fun j => F (off + j)) n)) w := by
 obtain ⟨h1, i, h2, h3⟩ := cells_size hs
 cases hu : Try.prog.underlying T with
 | none => rw [hu] at hr; cases hr
 | some d =>
  rw [hu] at hr
  have ha : (isAgg T).run Try.prog w = .ok true w := by
   unfold isAgg
   rw [Sem.run_bind, run_underlying hu w]
   cases d <;> simp_all
  unfold Go.part
  simp only [Sem.run_bind, ha, Result.andThen_ok, if_true, run_sizeOf w h2, Sem.run_pure]
  rw [h1, tab_sub F N n off h]
theorem eqItems_any {e : TypeId} {n k : Nat} {mk : (Nat → Int) → Value} (h : EqT e n k mk) (f g : Nat → Int) (N m : Nat) (hm : k ≤ m) (w : World) : ∀ (is : List Nat), (∀ i ∈ is, i * n + n ≤ N) →
  ∃ r : Bool, (Op.eqItems m e n (tab f N) (tab g N) is).run Try.prog w = .ok r w ∧ (r = true ↔ ∀ i ∈ is, ∀ j, j < n → f (i * n + j) = g (i * n + j))
 | [], _ => ⟨true, by simp [Op.eqItems], by simp⟩
 | i :: is, hi => by
  obtain ⟨r, q1, q2⟩ := h.eq (fun j => f (i * n + j)) (fun j => g (i * n + j)) m w hm
  obtain ⟨s, p1, p2⟩ := eqItems_any h f g N m hm w is (fun x hx => hi x (by simp [hx]))
  simp only [Op.eqItems, Sem.run_bind, h.part f N (i * n) w (hi i (by simp)), h.part g N (i * n) w (hi i (by simp)), Result.andThen_ok, q1]
  cases r with
  | false =>
   refine ⟨false, by simp, ?_⟩
   simp only [Bool.false_eq_true, false_iff] at q2 ⊢
   exact fun a => q2 (a i (by simp))
  | true =>
   refine ⟨s, by simpa using p1, ?_⟩
   rw [p2]
   have q := q2.1 rfl
   exact ⟨fun a x hx => by
    rcases List.mem_cons.1 hx with rfl | hx
    ·exact q
    ·exact a x hx, fun a x hx => a x (by simp [hx])⟩
theorem EqT.array {T e : TypeId} {c n k : Nat} {mk : (Nat → Int) → Value} (h : EqT e n k mk) (hn : 0 < n) (hu : Try.prog.underlying T = some (.array c e)) (hs : (Try.prog.info? T).map (·.size) = some (c * n)) : EqT T (c * n) (k + 1) (fun f => .agg (tab f (c * n))) := by
 obtain ⟨h1, i, h2, h3⟩ := cells_size hs
 obtain ⟨ie, he⟩ := h.info
 refine ⟨fun F N off w ho => part_agg (by rw [hu]; rfl) hs F N off w ho, fun f g m w hm => ?_, h1, i, h2⟩
 obtain ⟨m, rfl⟩ : ∃ d, m = d + 1 := ⟨m - 1, by omega⟩
 rw [run_equalIn_array w m _ _ hu he, h.cells]
 obtain ⟨r, q1, q2⟩ := eqItems_any h f g (c * n) m (by omega) w (List.range c) (fun i hi => by
  have := List.mem_range.1 hi
  have := Nat.mul_le_mul_right n (show i + 1 ≤ c by omega)
  rw [Nat.add_mul] at this
  omega)
 refine ⟨r, q1, q2.trans ⟨fun a j hj => ?_, fun a i hi j hj => a _ ?_⟩⟩
 ·have hq : j / n < c := Nat.div_lt_of_lt_mul (by rw [Nat.mul_comm]; exact hj)
  have := a (j / n) (List.mem_range.2 hq) (j % n) (Nat.mod_lt _ hn)
  rw [show j / n * n + j % n = j by rw [Nat.mul_comm]; exact Nat.div_add_mod j n] at this
  exact this
 ·have := List.mem_range.1 hi
  have := Nat.mul_le_mul_right n (show i + 1 ≤ c by omega)
  rw [Nat.add_mul] at this
  omega
theorem eqFields_any (f g : Nat → Int) (N m : Nat) (w : World) : ∀ (fs : List Field), (∀ x ∈ fs, x.name ≠ "_" ∧ ∃ n k mk, EqT x.type n k mk ∧ k ≤ m ∧ x.offset + n ≤ N) →
  ∃ r : Bool, (Op.eqFields m (tab f N) (tab g N) fs).run Try.prog w = .ok r w ∧ (r = true ↔ ∀ x ∈ fs, ∀ j, j < Try.prog.cellsOf x.type → f (x.offset + j) = g (x.offset + j))
 | [], _ => ⟨true, by simp [Op.eqFields], by simp⟩
 | x :: fs, hx => by
  obtain ⟨h0, n, k, mk, h, hk, ho⟩ := hx x (by simp)
  obtain ⟨r, q1, q2⟩ := h.eq (fun j => f (x.offset + j)) (fun j => g (x.offset + j)) m w hk
  obtain ⟨s, p1, p2⟩ := eqFields_any f g N m w fs (fun y hy => hx y (by simp [hy]))
  simp only [Op.eqFields, if_pos h0, Sem.run_bind, h.part f N x.offset w ho, h.part g N x.offset w ho, Result.andThen_ok, q1]
  rw [← h.cells] at q2
  cases r with
  | false =>
   refine ⟨false, by simp, ?_⟩
   simp only [Bool.false_eq_true, false_iff] at q2 ⊢
   exact fun a => q2 (a x (by simp))
  | true =>
   refine ⟨s, by simpa using p1, ?_⟩
   rw [p2]
   have q := q2.1 rfl
   exact ⟨fun a y hy => by
    rcases List.mem_cons.1 hy with rfl | hy
    ·exact q
    ·exact a y hy, fun a y hy => a y (by simp [hy])⟩
theorem EqT.struct {T : TypeId} {N k : Nat} (L : List (TypeId × Nat × Nat)) (hu : (match Try.prog.underlying T with | some (.struct fs) => fs.toList.map fun x => (x.type, x.offset, x.name == "_") | _ => []) = L.map fun x => (x.1, x.2.1, false)) (hr : (Try.prog.underlying T).map (fun d => match d with | .struct _ => true | _ => false) = some true) (hp : Try.prog.stoodInHeld T = false) (hs : (Try.prog.info? T).map (·.size) = some N)
  (hE : ∀ x ∈ L, ∃ mk, EqT x.1 x.2.2 k mk ∧ x.2.1 + x.2.2 ≤ N) (hc : ∀ j, j < N → ∃ x ∈ L, x.2.1 ≤ j ∧ j < x.2.1 + x.2.2) : EqT T N (k + 1) (fun f => .agg (tab f N)) := by
 obtain ⟨h1, i, h2, h3⟩ := cells_size hs
 cases hd : Try.prog.underlying T with
 | none => rw [hd] at hr; cases hr
 | some d =>
 cases d with
 | struct fs =>
  have hf : Try.prog.underlying T = some (.struct (Try.prog.fieldsOf T)) := by
   unfold Program.fieldsOf
   rw [hd]
  have hfs : Try.prog.fieldsOf T = fs := by
   rw [hf] at hd
   injection hd with hd
   injection hd
  rw [hd] at hu
  have hu' : fs.toList.map (fun x => (x.type, x.offset, x.name == "_")) = L.map fun x => (x.1, x.2.1, false) := hu
  refine ⟨fun F M off w ho => part_agg (by rw [hd]; rfl) hs F M off w ho, fun f g m w hm => ?_, h1, i, h2⟩
  obtain ⟨m, rfl⟩ : ∃ d, m = d + 1 := ⟨m - 1, by omega⟩
  rw [run_equalIn_struct w m T _ _ hf hp, hfs]
  have hx : ∀ x ∈ fs.toList, ∃ y ∈ L, x.type = y.1 ∧ x.offset = y.2.1 ∧ x.name ≠ "_" := fun x hx => by
   have : (x.type, x.offset, x.name == "_") ∈ L.map fun x => (x.1, x.2.1, false) := by rw [← hu']; exact List.mem_map.2 ⟨x, hx, rfl⟩
   obtain ⟨y, hy, e⟩ := List.mem_map.1 this
   injection e with e1 e2
   injection e2 with e2 e3
   exact ⟨y, hy, e1.symm, e2.symm, by simpa using e3.symm⟩
  have hy : ∀ y ∈ L, ∃ x ∈ fs.toList, x.type = y.1 ∧ x.offset = y.2.1 := fun y hy => by
   have : (y.1, y.2.1, false) ∈ fs.toList.map (fun x => (x.type, x.offset, x.name == "_")) := by rw [hu']; exact List.mem_map.2 ⟨y, hy, rfl⟩
   obtain ⟨x, hx, e⟩ := List.mem_map.1 this
   injection e with e1 e2
   injection e2 with e2 e3
   exact ⟨x, hx, e1, e2⟩
  obtain ⟨r, q1, q2⟩ := eqFields_any f g N m w fs.toList (fun x h => by
   obtain ⟨y, a1, a2, a3, a4⟩ := hx x h
   obtain ⟨mk, b1, b2⟩ := hE y a1
   exact ⟨a4, y.2.2, k, mk, by rw [a2]; exact b1, by omega, by rw [a3]; exact b2⟩)
  refine ⟨r, q1, q2.trans ⟨fun a j hj => ?_, fun a x h j hj => a _ ?_⟩⟩
  ·obtain ⟨y, c1, c2, c3⟩ := hc j hj
   obtain ⟨x, d1, d2, d3⟩ := hy y c1
   obtain ⟨mk, b1, b2⟩ := hE y c1
   have := a x d1 (j - y.2.1) (by rw [d2, b1.cells]; omega)
   rw [d3, show y.2.1 + (j - y.2.1) = j by omega] at this
   exact this
  ·obtain ⟨y, a1, a2, a3, a4⟩ := hx x h
   obtain ⟨mk, b1, b2⟩ := hE y a1
   rw [a2, b1.cells] at hj
   rw [a3]
   omega
 | _ => rw [hd] at hr; cases hr
theorem eT_int : EqT 3 1 1 (fun f => .int .i64 (f 0)) := EqT.int Try.underlying3 (by kernel_rfl)
theorem eT_place : EqT 32 2 2 (fun f => .agg (tab f 2)) :=
 EqT.struct [(3, 0, 1), (3, 1, 1)] (by kernel_rfl) (by kernel_rfl) (by kernel_rfl) (by kernel_rfl) (by
  intro x hx
  simp only [List.mem_cons, List.not_mem_nil, or_false] at hx
  rcases hx with rfl | rfl <;> exact ⟨_, eT_int, by decide⟩) (fun j hj => by
  have : j = 0 ∨ j = 1 := by omega
  rcases this with rfl | rfl
  ·exact ⟨_, List.mem_cons_self .., by decide⟩
  ·exact ⟨_, List.mem_cons_of_mem _ (List.mem_cons_self ..), by decide⟩)
theorem eT_four : EqT 33 4 2 (fun f => .agg (tab f 4)) := EqT.array (c := 4) eT_int (by omega) Try.underlying33 (by kernel_rfl)
theorem eT_seat : EqT 61 6 3 (fun f => .agg (tab f 6)) :=
 EqT.struct [(32, 0, 2), (3, 2, 1), (3, 3, 1), (3, 4, 1), (3, 5, 1)] (by kernel_rfl) (by kernel_rfl) (by kernel_rfl) (by kernel_rfl) (by
  intro x hx
  simp only [List.mem_cons, List.not_mem_nil, or_false] at hx
  rcases hx with rfl | rfl | rfl | rfl | rfl
  ·exact ⟨_, eT_place, by decide⟩
  all_goals exact ⟨_, eT_int.more (by omega), by decide⟩) (fun j hj => by
  by_cases h : j < 2
  ·exact ⟨_, List.mem_cons_self .., by show 0 ≤ j; omega, by show j < 0 + 2; omega⟩
  ·refine ⟨(3, j, 1), ?_, Nat.le_refl _, Nat.lt_succ_self _⟩
   have : j = 2 ∨ j = 3 ∨ j = 4 ∨ j = 5 := by omega
   rcases this with rfl | rfl | rfl | rfl <;> simp)
theorem eT_tot : EqT 45 12 3 (fun f => .agg (tab f 12)) :=
 EqT.struct [(33, 0, 4), (33, 4, 4), (33, 8, 4)] (by kernel_rfl) (by kernel_rfl) (by kernel_rfl) (by kernel_rfl) (by
  intro x hx
  simp only [List.mem_cons, List.not_mem_nil, or_false] at hx
  rcases hx with rfl | rfl | rfl <;> exact ⟨_, eT_four, by decide⟩) (fun j hj => by
  refine ⟨(33, j / 4 * 4, 4), ?_, by show j / 4 * 4 ≤ j; omega, by show j < j / 4 * 4 + 4; omega⟩
  have : j / 4 = 0 ∨ j / 4 = 1 ∨ j / 4 = 2 := by omega
  rcases this with e | e | e <;> rw [e] <;> simp)
theorem eT_seats : EqT 82 720 4 (fun f => .agg (tab f 720)) := EqT.array (c := 120) eT_seat (by omega) Try.underlying82 (by kernel_rfl)
theorem eT_all3 : EqT 83 15120 5 (fun f => .agg (tab f 15120)) := EqT.array (c := 21) eT_seats (by omega) Try.underlying83 (by kernel_rfl)
theorem eT_all1 : EqT 81 252 4 (fun f => .agg (tab f 252)) := EqT.array (c := 21) eT_tot (by omega) Try.underlying81 (by kernel_rfl)
theorem eT_all2 : EqT 69 84 3 (fun f => .agg (tab f 84)) := EqT.array (c := 21) eT_four (by omega) Try.underlying69 (by kernel_rfl)
theorem eT_all : EqT 85 15457 6 (fun f => .agg (tab f 15457)) :=
 EqT.struct [(3, 0, 1), (81, 1, 252), (69, 253, 84), (83, 337, 15120)] (by kernel_rfl) (by kernel_rfl) (by kernel_rfl) (by kernel_rfl) (by
  intro x hx
  simp only [List.mem_cons, List.not_mem_nil, or_false] at hx
  rcases hx with rfl | rfl | rfl | rfl
  ·exact ⟨_, eT_int.more (by omega), by decide⟩
  ·exact ⟨_, eT_all1.more (by omega), by decide⟩
  ·exact ⟨_, eT_all2.more (by omega), by decide⟩
  ·exact ⟨_, eT_all3, by decide⟩) (fun j hj => by
  by_cases h0 : j < 1
  ·exact ⟨(3, 0, 1), by simp, by show 0 ≤ j; omega, by show j < 0 + 1; omega⟩
  by_cases h1 : j < 253
  ·exact ⟨(81, 1, 252), by simp, by show 1 ≤ j; omega, by show j < 1 + 252; omega⟩
  by_cases h2 : j < 337
  ·exact ⟨(69, 253, 84), by simp, by show 253 ≤ j; omega, by show j < 253 + 84; omega⟩
  ·exact ⟨(83, 337, 15120), by simp, by show 337 ≤ j; omega, by show j < 337 + 15120; omega⟩)
theorem all_eq (f g : Nat → Int) (w : World) : ∃ r : Bool, (binOp .eql 85 (.agg (tab f 15457)) (.agg (tab g 15457))).run Try.prog w = .ok (.bool r) w ∧ (r = true ↔ tab f 15457 = tab g 15457) := by
 obtain ⟨r, q1, q2⟩ := eT_all.eq f g 10000 w (by omega)
 refine ⟨r, ?_, q2.trans ⟨tab_congr, fun e j hj => ?_⟩⟩
 ·simp only [binOp, Op.equal, Sem.run_bind]
  rw [show Op.maxDepth = 10000 from rfl, q1]
  rfl
 ·have h1 := tab_get f _ j hj
  rw [e, tab_get g _ j hj] at h1
  injection h1 with h1
  injection h1 with _ h1
  exact h1.symm
theorem guardA (op : BinOp) (x y : Operand) (xs ys : Array Value) (w : World) : (eqGuard op 85 x y (.agg xs) (.agg ys)).run Try.prog w = .ok () w := by
 have h : Try.prog.eqGuardType Try.prog.depth 85 = false := by kernel_rfl
 unfold eqGuard
 cases op <;> simp [Sem.run, program, h]
set_option maxHeartbeats 2000000
theorem pick_any (c n : Int) (hc : -9223372036854775808 ≤ c ∧ c ≤ 9223372036854775807) (hn : 0 < n ∧ n ≤ 100000) (w : World) :
  Calls Try.prog 23 #[.int .i64 c, .int .i64 n] w fun e w' => e = .returned (.int .i64 (pickN c n)) ∧ w' = w := by
 unfold pickN
 have hz : n ≠ 0 := by omega
 by_cases h : c < 0
 ·have h1 : IntKind.i64.wrap (c + 1) = c + 1 := wrap_fit _ (by omega) (by omega)
  have h2 : IntKind.i64.wrap (-(c + 1)) = -(c + 1) := wrap_fit _ (by omega) (by omega)
  go_enter Try.func23, Try.ntmps23
  go_wp2
  go_ret
  refine ⟨?_, rfl⟩
  rw [← Int.tmod_eq_emod_of_nonneg (by omega), Int.neg_tmod]
  rfl
 ·go_enter Try.func23, Try.ntmps23
  go_wp2
  go_ret
  exact ⟨rfl, rfl⟩
set_option maxHeartbeats 20000000
def Ints (cs : Array Value) (n : Nat) : Prop := ∀ i, i < n → ∃ x : Int, cs[i]? = some (.int .i64 x) ∧ -9223372036854775808 ≤ x ∧ x ≤ 9223372036854775807
theorem Ints.set {cs : Array Value} {n : Nat} (h : Ints cs n) (o : Nat) (x : Int) (hx : -9223372036854775808 ≤ x ∧ x ≤ 9223372036854775807) : Ints (cs.setIfInBounds o (.int .i64 x)) n := by
 intro i hi
 obtain ⟨y, h1, h2⟩ := h i hi
 by_cases e : o = i
 ·subst e
  refine ⟨x, ?_, hx⟩
  rw [Array.getElem?_setIfInBounds_self_of_lt]
  rcases Array.getElem?_eq_some_iff.1 h1 with ⟨q, _⟩
  exact q
 ·exact ⟨y, by rw [Array.getElem?_setIfInBounds_ne e]; exact h1, h2⟩
structure TameI (w wx : World) : Prop where
 cmd : ∃ cs, cs.size = 16 ∧ Ints cs 16 ∧ Has wx (w.heap.size + 2) cs 37
 res : ∃ cs, cs.size = 16 ∧ Has wx (w.heap.size + 1) cs 37
 mod : Mod No w wx
theorem TameI.cell {w wx : World} (h : TameI w wx) (o : Nat) (ho : o < 16) : ∃ x : Int, wx.cell? ⟨w.heap.size + 2, o, none⟩ = some (.int .i64 x) ∧ -9223372036854775808 ≤ x ∧ x ≤ 9223372036854775807 := by
 obtain ⟨cs, h1, h2, h3⟩ := h.cmd
 obtain ⟨x, q, r⟩ := h2 o ho
 exact ⟨x, by rw [h3.cell, q], r⟩
theorem TameI.froz {w wx : World} (h : TameI w wx) (o : Nat) : wx.frozen? ⟨w.heap.size + 2, o, none⟩ = false := by
 obtain ⟨cs, h1, h2, h3⟩ := h.cmd
 exact h3.frozen o
theorem TameI.lt {w wx : World} (h : TameI w wx) : w.heap.size + 2 < wx.heap.size := by
 obtain ⟨cs, h1, h2, h3⟩ := h.cmd
 exact h3.lt
theorem TameI.set {w wx : World} (h : TameI w wx) (o : Nat) (x : Int) (hx : -9223372036854775808 ≤ x ∧ x ≤ 9223372036854775807) : TameI w (wx.setCell ⟨w.heap.size + 2, o, none⟩ (.int .i64 x)) := by
 obtain ⟨cs, h1, h2, h3⟩ := h.cmd
 obtain ⟨cr, r1, r2⟩ := h.res
 refine ⟨⟨_, by simpa using h1, h2.set o x hx, h3.set o _⟩, ⟨cr, r1, r2.set_ne (by show w.heap.size + 1 ≠ w.heap.size + 2; omega) _⟩, h.mod.setCell (.inr (by show w.heap.size ≤ w.heap.size + 2; omega)) _⟩
theorem TameI.drew {w wx : World} (h : TameI w wx) : TameI w wx.drew := ⟨h.cmd, h.res, h.mod.drew⟩
theorem pick_small (c n : Int) (hn : 0 < n ∧ n ≤ 100000) : -9223372036854775808 ≤ pickN c n ∧ pickN c n ≤ 9223372036854775807 ∧ IntKind.i64.wrap (1 + pickN c n) = 1 + pickN c n ∧ IntKind.i64.wrap (pickN c n + 1) = pickN c n + 1 := by
 have := pickN_range c n hn.1
 exact ⟨by omega, by omega, wrap_fit _ (by omega) (by omega), wrap_fit _ (by omega) (by omega)⟩
theorem size44 : (Try.prog.info? 37).map (·.size) = some 16 := by kernel_rfl
theorem row44 : (Try.prog.underlying 37).map (·.isRow) = some true := by kernel_rfl
theorem Ints.lits {cs : Array Value} (h : Ints cs 16) (hs : cs.size = 16) : ∃ z0 z1 z2 z3 z4 z5 z6 z7 z8 z9 z10 z11 z12 z13 z14 z15 : Int, cs = #[.int .i64 z0, .int .i64 z1, .int .i64 z2, .int .i64 z3, .int .i64 z4, .int .i64 z5, .int .i64 z6, .int .i64 z7, .int .i64 z8, .int .i64 z9, .int .i64 z10, .int .i64 z11, .int .i64 z12, .int .i64 z13, .int .i64 z14, .int .i64 z15] := by
 obtain ⟨z0, q0, _⟩ := h 0 (by omega)
 obtain ⟨z1, q1, _⟩ := h 1 (by omega)
 obtain ⟨z2, q2, _⟩ := h 2 (by omega)
 obtain ⟨z3, q3, _⟩ := h 3 (by omega)
 obtain ⟨z4, q4, _⟩ := h 4 (by omega)
 obtain ⟨z5, q5, _⟩ := h 5 (by omega)
 obtain ⟨z6, q6, _⟩ := h 6 (by omega)
 obtain ⟨z7, q7, _⟩ := h 7 (by omega)
 obtain ⟨z8, q8, _⟩ := h 8 (by omega)
 obtain ⟨z9, q9, _⟩ := h 9 (by omega)
 obtain ⟨z10, q10, _⟩ := h 10 (by omega)
 obtain ⟨z11, q11, _⟩ := h 11 (by omega)
 obtain ⟨z12, q12, _⟩ := h 12 (by omega)
 obtain ⟨z13, q13, _⟩ := h 13 (by omega)
 obtain ⟨z14, q14, _⟩ := h 14 (by omega)
 obtain ⟨z15, q15, _⟩ := h 15 (by omega)
 refine ⟨z0, z1, z2, z3, z4, z5, z6, z7, z8, z9, z10, z11, z12, z13, z14, z15, Array.ext (by rw [hs]; rfl) (fun i h1 h2 => ?_)⟩
 have : i = 0 ∨ i = 1 ∨ i = 2 ∨ i = 3 ∨ i = 4 ∨ i = 5 ∨ i = 6 ∨ i = 7 ∨ i = 8 ∨ i = 9 ∨ i = 10 ∨ i = 11 ∨ i = 12 ∨ i = 13 ∨ i = 14 ∨ i = 15 := by omega
 rcases this with rfl | rfl | rfl | rfl | rfl | rfl | rfl | rfl | rfl | rfl | rfl | rfl | rfl | rfl | rfl | rfl
 ·rw [Array.getElem?_eq_getElem h1] at q0; exact Option.some.inj q0
 ·rw [Array.getElem?_eq_getElem h1] at q1; exact Option.some.inj q1
 ·rw [Array.getElem?_eq_getElem h1] at q2; exact Option.some.inj q2
 ·rw [Array.getElem?_eq_getElem h1] at q3; exact Option.some.inj q3
 ·rw [Array.getElem?_eq_getElem h1] at q4; exact Option.some.inj q4
 ·rw [Array.getElem?_eq_getElem h1] at q5; exact Option.some.inj q5
 ·rw [Array.getElem?_eq_getElem h1] at q6; exact Option.some.inj q6
 ·rw [Array.getElem?_eq_getElem h1] at q7; exact Option.some.inj q7
 ·rw [Array.getElem?_eq_getElem h1] at q8; exact Option.some.inj q8
 ·rw [Array.getElem?_eq_getElem h1] at q9; exact Option.some.inj q9
 ·rw [Array.getElem?_eq_getElem h1] at q10; exact Option.some.inj q10
 ·rw [Array.getElem?_eq_getElem h1] at q11; exact Option.some.inj q11
 ·rw [Array.getElem?_eq_getElem h1] at q12; exact Option.some.inj q12
 ·rw [Array.getElem?_eq_getElem h1] at q13; exact Option.some.inj q13
 ·rw [Array.getElem?_eq_getElem h1] at q14; exact Option.some.inj q14
 ·rw [Array.getElem?_eq_getElem h1] at q15; exact Option.some.inj q15
theorem tamed_start (x0 x1 x2 x3 x4 x5 x6 x7 x8 x9 x10 x11 x12 x13 x14 x15 k fu : Int) (kp sp fa : Value) (hi : Ints #[.int .i64 x0, .int .i64 x1, .int .i64 x2, .int .i64 x3, .int .i64 x4, .int .i64 x5, .int .i64 x6, .int .i64 x7, .int .i64 x8, .int .i64 x9, .int .i64 x10, .int .i64 x11, .int .i64 x12, .int .i64 x13, .int .i64 x14, .int .i64 x15] 16) (w : World) : TameI w (((w.alloc (.cells #[.int .i64 x0, .int .i64 x1, .int .i64 x2, .int .i64 x3, .int .i64 x4, .int .i64 x5, .int .i64 x6, .int .i64 x7, .int .i64 x8, .int .i64 x9, .int .i64 x10, .int .i64 x11, .int .i64 x12, .int .i64 x13, .int .i64 x14, .int .i64 x15, .int .i64 k, .int .i64 fu, kp, sp, fa] 41)).alloc (.cells #[.int .i64 0, .int .i64 0, .int .i64 0, .int .i64 0, .int .i64 0, .int .i64 0, .int .i64 0, .int .i64 0, .int .i64 0, .int .i64 0, .int .i64 0, .int .i64 0, .int .i64 0, .int .i64 0, .int .i64 0, .int .i64 0] 37)).alloc (.cells #[.int .i64 x0, .int .i64 x1, .int .i64 x2, .int .i64 x3, .int .i64 x4, .int .i64 x5, .int .i64 x6, .int .i64 x7, .int .i64 x8, .int .i64 x9, .int .i64 x10, .int .i64 x11, .int .i64 x12, .int .i64 x13, .int .i64 x14, .int .i64 x15] 37)) := by
 refine ⟨⟨#[.int .i64 x0, .int .i64 x1, .int .i64 x2, .int .i64 x3, .int .i64 x4, .int .i64 x5, .int .i64 x6, .int .i64 x7, .int .i64 x8, .int .i64 x9, .int .i64 x10, .int .i64 x11, .int .i64 x12, .int .i64 x13, .int .i64 x14, .int .i64 x15], rfl, hi, ?_⟩, ⟨#[.int .i64 0, .int .i64 0, .int .i64 0, .int .i64 0, .int .i64 0, .int .i64 0, .int .i64 0, .int .i64 0, .int .i64 0, .int .i64 0, .int .i64 0, .int .i64 0, .int .i64 0, .int .i64 0, .int .i64 0, .int .i64 0], rfl, ?_⟩, (((Mod.refl No w).alloc _).alloc _).alloc _⟩
 ·have := Has.new ((w.alloc (.cells #[.int .i64 x0, .int .i64 x1, .int .i64 x2, .int .i64 x3, .int .i64 x4, .int .i64 x5, .int .i64 x6, .int .i64 x7, .int .i64 x8, .int .i64 x9, .int .i64 x10, .int .i64 x11, .int .i64 x12, .int .i64 x13, .int .i64 x14, .int .i64 x15, .int .i64 k, .int .i64 fu, kp, sp, fa] 41)).alloc (.cells #[.int .i64 0, .int .i64 0, .int .i64 0, .int .i64 0, .int .i64 0, .int .i64 0, .int .i64 0, .int .i64 0, .int .i64 0, .int .i64 0, .int .i64 0, .int .i64 0, .int .i64 0, .int .i64 0, .int .i64 0, .int .i64 0] 37)) #[.int .i64 x0, .int .i64 x1, .int .i64 x2, .int .i64 x3, .int .i64 x4, .int .i64 x5, .int .i64 x6, .int .i64 x7, .int .i64 x8, .int .i64 x9, .int .i64 x10, .int .i64 x11, .int .i64 x12, .int .i64 x13, .int .i64 x14, .int .i64 x15] 37
  simp only [World.size_alloc] at this
  exact this
 ·have := (Has.new (w.alloc (.cells #[.int .i64 x0, .int .i64 x1, .int .i64 x2, .int .i64 x3, .int .i64 x4, .int .i64 x5, .int .i64 x6, .int .i64 x7, .int .i64 x8, .int .i64 x9, .int .i64 x10, .int .i64 x11, .int .i64 x12, .int .i64 x13, .int .i64 x14, .int .i64 x15, .int .i64 k, .int .i64 fu, kp, sp, fa] 41)) #[.int .i64 0, .int .i64 0, .int .i64 0, .int .i64 0, .int .i64 0, .int .i64 0, .int .i64 0, .int .i64 0, .int .i64 0, .int .i64 0, .int .i64 0, .int .i64 0, .int .i64 0, .int .i64 0, .int .i64 0, .int .i64 0] 37).alloc (.cells #[.int .i64 x0, .int .i64 x1, .int .i64 x2, .int .i64 x3, .int .i64 x4, .int .i64 x5, .int .i64 x6, .int .i64 x7, .int .i64 x8, .int .i64 x9, .int .i64 x10, .int .i64 x11, .int .i64 x12, .int .i64 x13, .int .i64 x14, .int .i64 x15] 37)
  simp only [World.size_alloc] at this
  exact this
def dropSeq : Nat → Code → Code
 | 0, c => c
 | n + 1, .seq _ b => dropSeq n b
 | _, c => c
noncomputable def tameRest (n : Nat) : Code := dropSeq n (Try.f17.body.getD .skip)
theorem tame_d (w wd : World) (s0 s4 s5 s6 s7 s8 s9 s10 s11 s12 s13 s14 s15 s16 s17 s18 s19 s20 s21 s22 s23 s24 s25 s26 s27 s28 s29 s30 s31 s32 s33 s34 s35 s36 s37 s38 s39 s40 s41 s42 s43 s44 s45 s46 s47 s48 s49 s50 s51 s52 s53 s54 s55 s56 s57 s58 s59 s60 s61 s62 s63 s64 s65 s66 s67 s68 s69 s70 s71 s72 s73 s74 s75 s76 s77 s78 s79 s80 s81 s82 s83 s84 s85 s86 s87 s88 s89 s90 s91 s92 s93 s94 s95 s96 s97 s98 s99 s100 s101 s102 s103 s104 s105 s106 s107 s108 s109 s110 s111 s112 s113 s114 s115 s116 s117 s118 s119 s120 s121 : Value) (T : Hid (TameI w wd)) :
  Code.wp Try.prog (tameRest 10) (bodyPost Try.prog Try.f17 fun e w' => ∃ cs, e = .returned (.agg cs) ∧ cs.size = 16 ∧ Ints cs 16 ∧ Mod No w w') ⟨#[s0, .pointer (some ⟨w.heap.size, 0, none⟩), .pointer (some ⟨w.heap.size + 1, 0, none⟩), .pointer (some ⟨w.heap.size + 1 + 1, 0, none⟩), s4, s5, s6, s7, s8, s9, s10, s11, s12, s13, s14, s15, s16, s17, s18, s19, s20, s21, s22, s23, s24, s25, s26, s27, s28, s29, s30, s31, s32, s33, s34, s35, s36, s37, s38, s39, s40, s41, s42, s43, s44, s45, s46, s47, s48, s49, s50, s51, s52, s53, s54, s55, s56, s57, s58, s59, s60, s61, s62, s63, s64, s65, s66, s67, s68, s69, s70, s71, s72, s73, s74, s75, s76, s77, s78, s79, s80, s81, s82, s83, s84, s85, s86, s87, s88, s89, s90, s91, s92, s93, s94, s95, s96, s97, s98, s99, s100, s101, s102, s103, s104, s105, s106, s107, s108, s109, s110, s111, s112, s113, s114, s115, s116, s117, s118, s119, s120, s121], []⟩ wd := by
 conv => arg 2; whnf
 go_wp2_with fail
 go_loopw [4, 5] (fun s4 s5 wr => ∃ (m : Int) (j : Nat), s4 = .int .i64 m ∧ s5 = .int .i64 j ∧ 0 ≤ m ∧ m ≤ 8 ∧ j ≤ 4 ∧ Hid (TameI w wr)) (fun _ i _ => 4 - (intOf i).toNat)
 case atStart => exact ⟨8, 0, rfl, rfl, by omega, by omega, by omega, T⟩
 case round =>
  obtain ⟨m, j, rfl, rfl, hm0, hm8, hj, T2⟩ := hrel
  clear T
  obtain ⟨y12, c12, r12⟩ := (unhide T2).cell 12 (by omega)
  obtain ⟨y13, c13, r13⟩ := (unhide T2).cell 13 (by omega)
  obtain ⟨y14, c14, r14⟩ := (unhide T2).cell 14 (by omega)
  obtain ⟨y15, c15, r15⟩ := (unhide T2).cell 15 (by omega)
  have f0 := (unhide T2).froz
  have lt0 := (unhide T2).lt
  have hm1 := wrap_fit (m + 1) (by omega) (by omega)
  by_cases hj4 : j < 4
  case neg =>
   have hj4i : ¬ (j : Int) < 4 := by omega
   go_upto_region 22 with fail
   obtain ⟨cs, hz, hI, hC⟩ := (unhide T2).cmd
   obtain ⟨cr, hrz, hR⟩ := (unhide T2).res
   have HM := hide (unhide T2).mod
   clear c12 c13 c14 c15 f0 r12 r13 r14 r15 
   obtain ⟨z0, z1, z2, z3, z4, z5, z6, z7, z8, z9, z10, z11, z12, z13, z14, z15, rfl⟩ := hI.lits hz
   have HI := hide hI
   clear hI
   refine wp_region_list ?_
   refine (wpList_load_has rfl 37 _ rfl (w.heap.size + 1 + 1) 0 rfl #[.int .i64 z0, .int .i64 z1, .int .i64 z2, .int .i64 z3, .int .i64 z4, .int .i64 z5, .int .i64 z6, .int .i64 z7, .int .i64 z8, .int .i64 z9, .int .i64 z10, .int .i64 z11, .int .i64 z12, .int .i64 z13, .int .i64 z14, .int .i64 z15] 37 hC #[.int .i64 z0, .int .i64 z1, .int .i64 z2, .int .i64 z3, .int .i64 z4, .int .i64 z5, .int .i64 z6, .int .i64 z7, .int .i64 z8, .int .i64 z9, .int .i64 z10, .int .i64 z11, .int .i64 z12, .int .i64 z13, .int .i64 z14, .int .i64 z15] (fun j v h => by rw [Nat.zero_add]; simpa using h) row44 size44 ?_)
   refine (wpList_store_has rfl 37 _ _ rfl (w.heap.size + 1) _ rfl rfl cr 37 hR hrz.symm size44 (by simp [Value.oneCell']) ?_)
   intro w5 h5 m5
   have d0 : w5.cell? ⟨w.heap.size + 1, 0, none⟩ = some (.int .i64 z0) := h5.cell 0
   have d1 : w5.cell? ⟨w.heap.size + 1, 1, none⟩ = some (.int .i64 z1) := h5.cell 1
   have d2 : w5.cell? ⟨w.heap.size + 1, 2, none⟩ = some (.int .i64 z2) := h5.cell 2
   have d3 : w5.cell? ⟨w.heap.size + 1, 3, none⟩ = some (.int .i64 z3) := h5.cell 3
   have d4 : w5.cell? ⟨w.heap.size + 1, 4, none⟩ = some (.int .i64 z4) := h5.cell 4
   have d5 : w5.cell? ⟨w.heap.size + 1, 5, none⟩ = some (.int .i64 z5) := h5.cell 5
   have d6 : w5.cell? ⟨w.heap.size + 1, 6, none⟩ = some (.int .i64 z6) := h5.cell 6
   have d7 : w5.cell? ⟨w.heap.size + 1, 7, none⟩ = some (.int .i64 z7) := h5.cell 7
   have d8 : w5.cell? ⟨w.heap.size + 1, 8, none⟩ = some (.int .i64 z8) := h5.cell 8
   have d9 : w5.cell? ⟨w.heap.size + 1, 9, none⟩ = some (.int .i64 z9) := h5.cell 9
   have d10 : w5.cell? ⟨w.heap.size + 1, 10, none⟩ = some (.int .i64 z10) := h5.cell 10
   have d11 : w5.cell? ⟨w.heap.size + 1, 11, none⟩ = some (.int .i64 z11) := h5.cell 11
   have d12 : w5.cell? ⟨w.heap.size + 1, 12, none⟩ = some (.int .i64 z12) := h5.cell 12
   have d13 : w5.cell? ⟨w.heap.size + 1, 13, none⟩ = some (.int .i64 z13) := h5.cell 13
   have d14 : w5.cell? ⟨w.heap.size + 1, 14, none⟩ = some (.int .i64 z14) := h5.cell 14
   have d15 : w5.cell? ⟨w.heap.size + 1, 15, none⟩ = some (.int .i64 z15) := h5.cell 15
   have M5 := hide ((unhide HM).trans' (S := No) m5 (fun i e hl => by subst e; omega))
   have l5 := h5.lt
   clear m5 h5 hR hC
   go_wp2
   refine bodyPost_ret (by simp [results, Try.results17, go_sem, d0, d1, d2, d3, d4, d5, d6, d7, d8, d9, d10, d11, d12, d13, d14, d15]; try rfl) rfl ?_
   exact ⟨_, rfl, rfl, unhide HI, unhide M5⟩
  have hj4i : (j : Int) < 4 := by omega
  by_cases hg : pickN y12 9 > 0
  case neg =>
   go_wp2_with fail
   refine (pick_any y12 9 r12 (by omega) _).mono ?_
   rintro e w1 ⟨rfl, rfl⟩
   go_upto_region 22 with fail
   obtain ⟨cs, hz, hI, hC⟩ := (unhide T2).cmd
   obtain ⟨cr, hrz, hR⟩ := (unhide T2).res
   have HM := hide (unhide T2).mod
   clear c12 c13 c14 c15 f0 r12 r13 r14 r15 
   obtain ⟨z0, z1, z2, z3, z4, z5, z6, z7, z8, z9, z10, z11, z12, z13, z14, z15, rfl⟩ := hI.lits hz
   have HI := hide hI
   clear hI
   refine wp_region_list ?_
   refine (wpList_load_has rfl 37 _ rfl (w.heap.size + 1 + 1) 0 rfl #[.int .i64 z0, .int .i64 z1, .int .i64 z2, .int .i64 z3, .int .i64 z4, .int .i64 z5, .int .i64 z6, .int .i64 z7, .int .i64 z8, .int .i64 z9, .int .i64 z10, .int .i64 z11, .int .i64 z12, .int .i64 z13, .int .i64 z14, .int .i64 z15] 37 hC #[.int .i64 z0, .int .i64 z1, .int .i64 z2, .int .i64 z3, .int .i64 z4, .int .i64 z5, .int .i64 z6, .int .i64 z7, .int .i64 z8, .int .i64 z9, .int .i64 z10, .int .i64 z11, .int .i64 z12, .int .i64 z13, .int .i64 z14, .int .i64 z15] (fun j v h => by rw [Nat.zero_add]; simpa using h) row44 size44 ?_)
   refine (wpList_store_has rfl 37 _ _ rfl (w.heap.size + 1) _ rfl rfl cr 37 hR hrz.symm size44 (by simp [Value.oneCell']) ?_)
   intro w5 h5 m5
   have d0 : w5.cell? ⟨w.heap.size + 1, 0, none⟩ = some (.int .i64 z0) := h5.cell 0
   have d1 : w5.cell? ⟨w.heap.size + 1, 1, none⟩ = some (.int .i64 z1) := h5.cell 1
   have d2 : w5.cell? ⟨w.heap.size + 1, 2, none⟩ = some (.int .i64 z2) := h5.cell 2
   have d3 : w5.cell? ⟨w.heap.size + 1, 3, none⟩ = some (.int .i64 z3) := h5.cell 3
   have d4 : w5.cell? ⟨w.heap.size + 1, 4, none⟩ = some (.int .i64 z4) := h5.cell 4
   have d5 : w5.cell? ⟨w.heap.size + 1, 5, none⟩ = some (.int .i64 z5) := h5.cell 5
   have d6 : w5.cell? ⟨w.heap.size + 1, 6, none⟩ = some (.int .i64 z6) := h5.cell 6
   have d7 : w5.cell? ⟨w.heap.size + 1, 7, none⟩ = some (.int .i64 z7) := h5.cell 7
   have d8 : w5.cell? ⟨w.heap.size + 1, 8, none⟩ = some (.int .i64 z8) := h5.cell 8
   have d9 : w5.cell? ⟨w.heap.size + 1, 9, none⟩ = some (.int .i64 z9) := h5.cell 9
   have d10 : w5.cell? ⟨w.heap.size + 1, 10, none⟩ = some (.int .i64 z10) := h5.cell 10
   have d11 : w5.cell? ⟨w.heap.size + 1, 11, none⟩ = some (.int .i64 z11) := h5.cell 11
   have d12 : w5.cell? ⟨w.heap.size + 1, 12, none⟩ = some (.int .i64 z12) := h5.cell 12
   have d13 : w5.cell? ⟨w.heap.size + 1, 13, none⟩ = some (.int .i64 z13) := h5.cell 13
   have d14 : w5.cell? ⟨w.heap.size + 1, 14, none⟩ = some (.int .i64 z14) := h5.cell 14
   have d15 : w5.cell? ⟨w.heap.size + 1, 15, none⟩ = some (.int .i64 z15) := h5.cell 15
   have M5 := hide ((unhide HM).trans' (S := No) m5 (fun i e hl => by subst e; omega))
   have l5 := h5.lt
   clear m5 h5 hR hC
   go_wp2
   refine bodyPost_ret (by simp [results, Try.results17, go_sem, d0, d1, d2, d3, d4, d5, d6, d7, d8, d9, d10, d11, d12, d13, d14, d15]; try rfl) rfl ?_
   exact ⟨_, rfl, rfl, unhide HI, unhide M5⟩
  have : j = 0 ∨ j = 1 ∨ j = 2 ∨ j = 3 := by omega
  rcases this with rfl | rfl | rfl | rfl
  ·have qq := pickN_range y12 (m + 1) (by omega)
   have T3 := hide ((unhide T2).set 12 (pickN y12 (m + 1)) (by omega))
   have hj1 : IntKind.i64.wrap ((0 : Int) + 1) = 1 := wrap_fit _ (by omega) (by omega)
   clear T2
   go_wp2_with fail
   refine (pick_any y12 9 r12 (by omega) _).mono ?_
   rintro e w1 ⟨rfl, rfl⟩
   go_wp2_with fail
   refine (pick_any y12 (m + 1) r12 (by omega) _).mono ?_
   rintro e w1 ⟨rfl, rfl⟩
   go_wp2
   exact ⟨⟨_, 1, rfl, rfl, by omega, by omega, by omega, T3⟩, by simp [intOf]⟩
  ·have qq := pickN_range y13 (m + 1) (by omega)
   have T3 := hide ((unhide T2).set 13 (pickN y13 (m + 1)) (by omega))
   have hj1 : IntKind.i64.wrap ((1 : Int) + 1) = 2 := wrap_fit _ (by omega) (by omega)
   clear T2
   go_wp2_with fail
   refine (pick_any y12 9 r12 (by omega) _).mono ?_
   rintro e w1 ⟨rfl, rfl⟩
   go_wp2_with fail
   refine (pick_any y13 (m + 1) r13 (by omega) _).mono ?_
   rintro e w1 ⟨rfl, rfl⟩
   go_wp2
   exact ⟨⟨_, 2, rfl, rfl, by omega, by omega, by omega, T3⟩, by simp [intOf]⟩
  ·have qq := pickN_range y14 (m + 1) (by omega)
   have T3 := hide ((unhide T2).set 14 (pickN y14 (m + 1)) (by omega))
   have hj1 : IntKind.i64.wrap ((2 : Int) + 1) = 3 := wrap_fit _ (by omega) (by omega)
   clear T2
   go_wp2_with fail
   refine (pick_any y12 9 r12 (by omega) _).mono ?_
   rintro e w1 ⟨rfl, rfl⟩
   go_wp2_with fail
   refine (pick_any y14 (m + 1) r14 (by omega) _).mono ?_
   rintro e w1 ⟨rfl, rfl⟩
   go_wp2
   exact ⟨⟨_, 3, rfl, rfl, by omega, by omega, by omega, T3⟩, by simp [intOf]⟩
  ·have qq := pickN_range y15 (m + 1) (by omega)
   have T3 := hide ((unhide T2).set 15 (pickN y15 (m + 1)) (by omega))
   have hj1 : IntKind.i64.wrap ((3 : Int) + 1) = 4 := wrap_fit _ (by omega) (by omega)
   clear T2
   go_wp2_with fail
   refine (pick_any y12 9 r12 (by omega) _).mono ?_
   rintro e w1 ⟨rfl, rfl⟩
   go_wp2_with fail
   refine (pick_any y15 (m + 1) r15 (by omega) _).mono ?_
   rintro e w1 ⟨rfl, rfl⟩
   go_wp2
   exact ⟨⟨_, 4, rfl, rfl, by omega, by omega, by omega, T3⟩, by simp [intOf]⟩
theorem tame_c (w wd : World) (s0 s4 s5 s6 s7 s8 s9 s10 s11 s12 s13 s14 s15 s16 s17 s18 s19 s20 s21 s22 s23 s24 s25 s26 s27 s28 s29 s30 s31 s32 s33 s34 s35 s36 s37 s38 s39 s40 s41 s42 s43 s44 s45 s46 s47 s48 s49 s50 s51 s52 s53 s54 s55 s56 s57 s58 s59 s60 s61 s62 s63 s64 s65 s66 s67 s68 s69 s70 s71 s72 s73 s74 s75 s76 s77 s78 s79 s80 s81 s82 s83 s84 s85 s86 s87 s88 s89 s90 s91 s92 s93 s94 s95 s96 s97 s98 s99 s100 s101 s102 s103 s104 s105 s106 s107 s108 s109 s110 s111 s112 s113 s114 s115 s116 s117 s118 s119 s120 s121 : Value) (T : Hid (TameI w wd)) :
  Code.wp Try.prog (tameRest 8) (bodyPost Try.prog Try.f17 fun e w' => ∃ cs, e = .returned (.agg cs) ∧ cs.size = 16 ∧ Ints cs 16 ∧ Mod No w w') ⟨#[s0, .pointer (some ⟨w.heap.size, 0, none⟩), .pointer (some ⟨w.heap.size + 1, 0, none⟩), .pointer (some ⟨w.heap.size + 1 + 1, 0, none⟩), s4, s5, s6, s7, s8, s9, s10, s11, s12, s13, s14, s15, s16, s17, s18, s19, s20, s21, s22, s23, s24, s25, s26, s27, s28, s29, s30, s31, s32, s33, s34, s35, s36, s37, s38, s39, s40, s41, s42, s43, s44, s45, s46, s47, s48, s49, s50, s51, s52, s53, s54, s55, s56, s57, s58, s59, s60, s61, s62, s63, s64, s65, s66, s67, s68, s69, s70, s71, s72, s73, s74, s75, s76, s77, s78, s79, s80, s81, s82, s83, s84, s85, s86, s87, s88, s89, s90, s91, s92, s93, s94, s95, s96, s97, s98, s99, s100, s101, s102, s103, s104, s105, s106, s107, s108, s109, s110, s111, s112, s113, s114, s115, s116, s117, s118, s119, s120, s121], []⟩ wd := by
 conv => arg 2; whnf
 obtain ⟨y0, c0, r0⟩ := (unhide T).cell 0 (by omega)
 obtain ⟨y8, c8, r8⟩ := (unhide T).cell 8 (by omega)
 have f0 := (unhide T).froz
 have lt0 := (unhide T).lt
 have p8 := pick_small y8 20 (by omega)
 have q8 := pickN_range y8 20 (by omega)
 go_upto_if 61 with fail
 go_cut [] (fun wx => Hid (TameI w wx))
 case first =>
  by_cases h : y0 = 8
  ·subst h
   go_wp2_with fail
   refine (pick_any y8 20 r8 (by omega) _).mono ?_
   rintro e w1 ⟨rfl, rfl⟩
   have T2 := hide ((unhide T).set 8 (1 + pickN y8 20) (by omega))
   go_wp2
   go_meet
   exact T2
  ·go_wp2
   go_meet
   exact T
 case rest =>
  clear T c0 c8 f0 lt0 r0 r8 p8 q8 y0 y8
  have T := hcut
  clear hcut
  generalize wc = wd4 at *
  obtain ⟨y9, c9, r9⟩ := (unhide T).cell 9 (by omega)
  obtain ⟨y10, c10, r10⟩ := (unhide T).cell 10 (by omega)
  obtain ⟨y11, c11, r11⟩ := (unhide T).cell 11 (by omega)
  have f0 := (unhide T).froz
  have lt0 := (unhide T).lt
  have p9 := pick_small y9 5 (by omega)
  have q9 := pickN_range y9 5 (by omega)
  have p10 := pick_small y10 3 (by omega)
  have q10 := pickN_range y10 3 (by omega)
  have n11 := wrap_fit (1 + pickN y9 5 + 1) (by omega) (by omega)
  have q11 := pickN_range y11 (1 + pickN y9 5 + 1) (by omega)
  go_wp2_with fail
  refine (pick_any y9 9 r9 (by omega) _).mono ?_
  rintro e w1 ⟨rfl, rfl⟩
  go_upto_if 71 with fail
  go_cut [] (fun wx => Hid (TameI w wx))
  case first =>
   by_cases h : pickN y9 9 > 0
   ·go_wp2_with fail
    refine (pick_any y9 5 r9 (by omega) _).mono ?_
    rintro e w1 ⟨rfl, rfl⟩
    go_wp2_with fail
    refine (pick_any y10 3 r10 (by omega) _).mono ?_
    rintro e w1 ⟨rfl, rfl⟩
    go_wp2_with fail
    refine (pick_any y11 (1 + pickN y9 5 + 1) r11 (by omega) _).mono ?_
    rintro e w1 ⟨rfl, rfl⟩
    have T2 := hide ((((unhide T).set 9 (1 + pickN y9 5) (by omega)).set 10 (1 + pickN y10 3) (by omega)).set 11 (pickN y11 (1 + pickN y9 5 + 1)) (by omega))
    go_wp2
    go_meet
    exact T2
   ·go_wp2
    go_meet
    exact T
  case rest =>
   apply_assumption
   exact tame_d w _ _ _ _ _ _ _ _ _ _ _ _ _ _ _ _ _ _ _ _ _ _ _ _ _ _ _ _ _ _ _ _ _ _ _ _ _ _ _ _ _ _ _ _ _ _ _ _ _ _ _ _ _ _ _ _ _ _ _ _ _ _ _ _ _ _ _ _ _ _ _ _ _ _ _ _ _ _ _ _ _ _ _ _ _ _ _ _ _ _ _ _ _ _ _ _ _ _ _ _ _ _ _ _ _ _ _ _ _ _ _ _ _ _ _ _ _ _ _ _ hcut
theorem tame_b (w wd : World) (s0 s4 s5 s6 s7 s8 s9 s10 s11 s12 s13 s14 s15 s16 s17 s18 s19 s20 s21 s22 s23 s24 s25 s26 s27 s28 s29 s30 s31 s32 s33 s34 s35 s36 s37 s38 s39 s40 s41 s42 s43 s44 s45 s46 s47 s48 s49 s50 s51 s52 s53 s54 s55 s56 s57 s58 s59 s60 s61 s62 s63 s64 s65 s66 s67 s68 s69 s70 s71 s72 s73 s74 s75 s76 s77 s78 s79 s80 s81 s82 s83 s84 s85 s86 s87 s88 s89 s90 s91 s92 s93 s94 s95 s96 s97 s98 s99 s100 s101 s102 s103 s104 s105 s106 s107 s108 s109 s110 s111 s112 s113 s114 s115 s116 s117 s118 s119 s120 s121 : Value) (T : Hid (TameI w wd)) :
  Code.wp Try.prog (tameRest 6) (bodyPost Try.prog Try.f17 fun e w' => ∃ cs, e = .returned (.agg cs) ∧ cs.size = 16 ∧ Ints cs 16 ∧ Mod No w w') ⟨#[s0, .pointer (some ⟨w.heap.size, 0, none⟩), .pointer (some ⟨w.heap.size + 1, 0, none⟩), .pointer (some ⟨w.heap.size + 1 + 1, 0, none⟩), s4, s5, s6, s7, s8, s9, s10, s11, s12, s13, s14, s15, s16, s17, s18, s19, s20, s21, s22, s23, s24, s25, s26, s27, s28, s29, s30, s31, s32, s33, s34, s35, s36, s37, s38, s39, s40, s41, s42, s43, s44, s45, s46, s47, s48, s49, s50, s51, s52, s53, s54, s55, s56, s57, s58, s59, s60, s61, s62, s63, s64, s65, s66, s67, s68, s69, s70, s71, s72, s73, s74, s75, s76, s77, s78, s79, s80, s81, s82, s83, s84, s85, s86, s87, s88, s89, s90, s91, s92, s93, s94, s95, s96, s97, s98, s99, s100, s101, s102, s103, s104, s105, s106, s107, s108, s109, s110, s111, s112, s113, s114, s115, s116, s117, s118, s119, s120, s121], []⟩ wd := by
 conv => arg 2; whnf
 obtain ⟨y6, c6, r6⟩ := (unhide T).cell 6 (by omega)
 obtain ⟨y7, c7, r7⟩ := (unhide T).cell 7 (by omega)
 have f0 := (unhide T).froz
 have lt0 := (unhide T).lt
 have p6 := pick_small y6 4 (by omega)
 have q6 := pickN_range y6 4 (by omega)
 have p7 := pick_small y7 4 (by omega)
 have q7 := pickN_range y7 4 (by omega)
 have T1 := hide ((unhide T).set 6 (1 + pickN y6 4) (by omega))
 clear T
 go_wp2_with fail
 refine (pick_any y6 4 r6 (by omega) _).mono ?_
 rintro e w1 ⟨rfl, rfl⟩
 go_wp2_with fail
 refine (pick_any y7 9 r7 (by omega) _).mono ?_
 rintro e w1 ⟨rfl, rfl⟩
 go_upto_if 54 with fail
 go_cut [] (fun wx => Hid (TameI w wx))
 case first =>
  by_cases h : pickN y7 9 > 0
  ·go_wp2_with fail
   refine (pick_any y7 4 r7 (by omega) _).mono ?_
   rintro e w1 ⟨rfl, rfl⟩
   have T2 := hide ((unhide T1).set 7 (pickN y7 4) (by omega))
   go_wp2
   go_meet
   exact T2
  ·go_wp2
   go_meet
   exact T1
 case rest =>
  apply_assumption
  exact tame_c w _ _ _ _ _ _ _ _ _ _ _ _ _ _ _ _ _ _ _ _ _ _ _ _ _ _ _ _ _ _ _ _ _ _ _ _ _ _ _ _ _ _ _ _ _ _ _ _ _ _ _ _ _ _ _ _ _ _ _ _ _ _ _ _ _ _ _ _ _ _ _ _ _ _ _ _ _ _ _ _ _ _ _ _ _ _ _ _ _ _ _ _ _ _ _ _ _ _ _ _ _ _ _ _ _ _ _ _ _ _ _ _ _ _ _ _ _ _ _ _ hcut
end Go.Proofs.Ythhibagcpjeihaa
