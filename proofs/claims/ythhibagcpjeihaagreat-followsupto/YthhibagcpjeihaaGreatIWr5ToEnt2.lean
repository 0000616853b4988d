import Derived.Test.YthhibagcpjeihaaGreatIPg2ToWr4
import Derived.Test.YthhibagcpjeihaaGreatILook7ToRef7
namespace Go.Proofs.YthhibagcpjeihaaGreat
open Go.RowKit
open M
set_option linter.unusedVariables false
set_option linter.unusedSimpArgs false
set_option maxRecDepth 100000
set_option maxHeartbeats 4000000
theorem wta1_1 (v : Value) (w : World) : (Instr.typeAssert (.iface 189 v) 123 189 true).run Tryz.prog w = .ok (.tuple #[v, .bool true]) w := by kernel_rfl
theorem wta2_1 (v : Value) (w : World) : (Instr.typeAssert (.iface 202 v) 123 189 true).run Tryz.prog w = .ok (.tuple #[.agg #[.int .i64 0, .int .i64 0, .int .i64 0, .int .i64 0, .int .i64 0, .int .i64 0, .int .i64 0], .bool false]) w := by kernel_rfl
theorem wta2_2 (v : Value) (w : World) : (Instr.typeAssert (.iface 202 v) 123 202 true).run Tryz.prog w = .ok (.tuple #[v, .bool true]) w := by kernel_rfl
theorem wta3_1 (v : Value) (w : World) : (Instr.typeAssert (.iface 214 v) 123 189 true).run Tryz.prog w = .ok (.tuple #[.agg #[.int .i64 0, .int .i64 0, .int .i64 0, .int .i64 0, .int .i64 0, .int .i64 0, .int .i64 0], .bool false]) w := by kernel_rfl
theorem wta3_2 (v : Value) (w : World) : (Instr.typeAssert (.iface 214 v) 123 202 true).run Tryz.prog w = .ok (.tuple #[.agg #[.int .i64 0, .int .i64 0, .int .i64 0, .int .i64 0, .int .i64 0, .int .i64 0], .bool false]) w := by kernel_rfl
theorem wta3_3 (v : Value) (w : World) : (Instr.typeAssert (.iface 214 v) 123 214 true).run Tryz.prog w = .ok (.tuple #[v, .bool true]) w := by kernel_rfl
theorem wta4_1 (v : Value) (w : World) : (Instr.typeAssert (.iface 216 v) 123 189 true).run Tryz.prog w = .ok (.tuple #[.agg #[.int .i64 0, .int .i64 0, .int .i64 0, .int .i64 0, .int .i64 0, .int .i64 0, .int .i64 0], .bool false]) w := by kernel_rfl
theorem wta4_2 (v : Value) (w : World) : (Instr.typeAssert (.iface 216 v) 123 202 true).run Tryz.prog w = .ok (.tuple #[.agg #[.int .i64 0, .int .i64 0, .int .i64 0, .int .i64 0, .int .i64 0, .int .i64 0], .bool false]) w := by kernel_rfl
theorem wta4_3 (v : Value) (w : World) : (Instr.typeAssert (.iface 216 v) 123 214 true).run Tryz.prog w = .ok (.tuple #[.agg #[.int .i64 0, .int .i64 0], .bool false]) w := by kernel_rfl
theorem wta4_4 (v : Value) (w : World) : (Instr.typeAssert (.iface 216 v) 123 216 true).run Tryz.prog w = .ok (.tuple #[v, .bool true]) w := by kernel_rfl
theorem wta5_1 (v : Value) (w : World) : (Instr.typeAssert (.iface 212 v) 123 189 true).run Tryz.prog w = .ok (.tuple #[.agg #[.int .i64 0, .int .i64 0, .int .i64 0, .int .i64 0, .int .i64 0, .int .i64 0, .int .i64 0], .bool false]) w := by kernel_rfl
theorem wta5_2 (v : Value) (w : World) : (Instr.typeAssert (.iface 212 v) 123 202 true).run Tryz.prog w = .ok (.tuple #[.agg #[.int .i64 0, .int .i64 0, .int .i64 0, .int .i64 0, .int .i64 0, .int .i64 0], .bool false]) w := by kernel_rfl
theorem wta5_3 (v : Value) (w : World) : (Instr.typeAssert (.iface 212 v) 123 214 true).run Tryz.prog w = .ok (.tuple #[.agg #[.int .i64 0, .int .i64 0], .bool false]) w := by kernel_rfl
theorem wta5_4 (v : Value) (w : World) : (Instr.typeAssert (.iface 212 v) 123 216 true).run Tryz.prog w = .ok (.tuple #[.agg #[.int .i64 0, .int .i64 0, .int .i64 0, .int .i64 0], .bool false]) w := by kernel_rfl
theorem wta5_5 (v : Value) (w : World) : (Instr.typeAssert (.iface 212 v) 123 212 true).run Tryz.prog w = .ok (.tuple #[v, .bool true]) w := by kernel_rfl
theorem wta6_1 (v : Value) (w : World) : (Instr.typeAssert (.iface 159 v) 123 189 true).run Tryz.prog w = .ok (.tuple #[.agg #[.int .i64 0, .int .i64 0, .int .i64 0, .int .i64 0, .int .i64 0, .int .i64 0, .int .i64 0], .bool false]) w := by kernel_rfl
theorem wta6_2 (v : Value) (w : World) : (Instr.typeAssert (.iface 159 v) 123 202 true).run Tryz.prog w = .ok (.tuple #[.agg #[.int .i64 0, .int .i64 0, .int .i64 0, .int .i64 0, .int .i64 0, .int .i64 0], .bool false]) w := by kernel_rfl
theorem wta6_3 (v : Value) (w : World) : (Instr.typeAssert (.iface 159 v) 123 214 true).run Tryz.prog w = .ok (.tuple #[.agg #[.int .i64 0, .int .i64 0], .bool false]) w := by kernel_rfl
theorem wta6_4 (v : Value) (w : World) : (Instr.typeAssert (.iface 159 v) 123 216 true).run Tryz.prog w = .ok (.tuple #[.agg #[.int .i64 0, .int .i64 0, .int .i64 0, .int .i64 0], .bool false]) w := by kernel_rfl
theorem wta6_5 (v : Value) (w : World) : (Instr.typeAssert (.iface 159 v) 123 212 true).run Tryz.prog w = .ok (.tuple #[.agg #[.int .i64 0, .int .i64 0, .int .i64 0], .bool false]) w := by kernel_rfl
theorem wta6_6 (v : Value) (w : World) : (Instr.typeAssert (.iface 159 v) 123 159 true).run Tryz.prog w = .ok (.tuple #[v, .bool true]) w := by kernel_rfl
theorem wta7_1 (v : Value) (w : World) : (Instr.typeAssert (.iface 196 v) 123 189 true).run Tryz.prog w = .ok (.tuple #[.agg #[.int .i64 0, .int .i64 0, .int .i64 0, .int .i64 0, .int .i64 0, .int .i64 0, .int .i64 0], .bool false]) w := by kernel_rfl
theorem wta7_2 (v : Value) (w : World) : (Instr.typeAssert (.iface 196 v) 123 202 true).run Tryz.prog w = .ok (.tuple #[.agg #[.int .i64 0, .int .i64 0, .int .i64 0, .int .i64 0, .int .i64 0, .int .i64 0], .bool false]) w := by kernel_rfl
theorem wta7_3 (v : Value) (w : World) : (Instr.typeAssert (.iface 196 v) 123 214 true).run Tryz.prog w = .ok (.tuple #[.agg #[.int .i64 0, .int .i64 0], .bool false]) w := by kernel_rfl
theorem wta7_4 (v : Value) (w : World) : (Instr.typeAssert (.iface 196 v) 123 216 true).run Tryz.prog w = .ok (.tuple #[.agg #[.int .i64 0, .int .i64 0, .int .i64 0, .int .i64 0], .bool false]) w := by kernel_rfl
theorem wta7_5 (v : Value) (w : World) : (Instr.typeAssert (.iface 196 v) 123 212 true).run Tryz.prog w = .ok (.tuple #[.agg #[.int .i64 0, .int .i64 0, .int .i64 0], .bool false]) w := by kernel_rfl
theorem wta7_6 (v : Value) (w : World) : (Instr.typeAssert (.iface 196 v) 123 159 true).run Tryz.prog w = .ok (.tuple #[.agg #[.int .i64 0], .bool false]) w := by kernel_rfl
theorem wta7_7 (v : Value) (w : World) : (Instr.typeAssert (.iface 196 v) 123 196 true).run Tryz.prog w = .ok (.tuple #[v, .bool true]) w := by kernel_rfl
attribute [local go_sem] wta1_1
attribute [local go_sem] wta2_1 wta2_2
attribute [local go_sem] wta3_1 wta3_2 wta3_3
attribute [local go_sem] wta4_1 wta4_2 wta4_3 wta4_4
attribute [local go_sem] wta5_1 wta5_2 wta5_3 wta5_4 wta5_5
attribute [local go_sem] wta6_1 wta6_2 wta6_3 wta6_4 wta6_5 wta6_6
attribute [local go_sem] wta7_1 wta7_2 wta7_3 wta7_4 wta7_5 wta7_6 wta7_7
theorem WrX.box2 {O : Nat → Prop} {w : World} {wb : Nat} {v : Value} {xs : List Int} {now : Int} (h : WrX O w wb v xs now) (o o' : Obj) : WrX (fun k => (O k ∧ k ≠ w.heap.size) ∧ k ≠ w.heap.size + 1) ((w.alloc o).alloc o') wb v xs now := by
 have := (h.box o).box o'
 rw [World.size_alloc] at this
 exact this
theorem Up.box2 {O : Nat → Prop} {w : World} (h : Up O w) (o o' : Obj) : Up (fun k => (O k ∧ k ≠ w.heap.size) ∧ k ≠ w.heap.size + 1) ((w.alloc o).alloc o') := by
 have := (h.box o).box o'
 rw [World.size_alloc] at this
 exact this
theorem Wrote.unbox2 {O : Nat → Prop} {w w2 : World} {wb : Nat} {xs : List Int} {now : Int} {o o' : Obj} (h : Wrote (fun k => (O k ∧ k ≠ w.heap.size) ∧ k ≠ w.heap.size + 1) ((w.alloc o).alloc o') w2 wb xs now) : Wrote O w w2 wb xs now := by
 obtain ⟨⟨v, hx⟩, hm⟩ := h
 exact ⟨⟨v, hx.wide (fun _ q => q.1.1)⟩, ((((Mod.refl No w).alloc o).alloc o').mono (fun _ _ x => x.elim)).trans (hm.mono (fun _ _ q => q.1.1))⟩
theorem Has.new2 (w : World) (o : Obj) (cs : Array Value) (T : TypeId) : Has ((w.alloc o).alloc (.cells cs T)) (w.heap.size + 1) cs T := by
 have := Has.new (w.alloc o) cs T
 rw [World.size_alloc] at this
 exact this
theorem wentry_start {O : Nat → Prop} {w : World} {wb : Nat} {xs : List Int} {now : Int} (h : ∃ v, WrX O w wb v xs now) (hO : Up O w) (hl : xs.length < 1099511627600) (f : Int) (hf : 0 ≤ f ∧ f < 32) (p : Pla) (hp : Pla.fit p) :
  Calls Tryz.prog 110 #[.pointer (some ⟨wb, 0, none⟩), .agg #[.int .i64 f, .iface 189 (.agg #[.int .i64 p.rows, .int .i64 p.cols, .int .i64 p.front, .int .i64 p.l0, .int .i64 p.l1, .int .i64 p.l2, .int .i64 p.l3])]] w fun e w' => e = .returned (.tuple #[]) ∧ Wrote O w w' wb (xs ++ ((32 * 1 + f) :: planeB p)) now := by
 obtain ⟨v, h⟩ := h
 have B1 := hide (Has.new2 w (.cells #[.int .i64 f, .iface 189 (.agg #[.int .i64 p.rows, .int .i64 p.cols, .int .i64 p.front, .int .i64 p.l0, .int .i64 p.l1, .int .i64 p.l2, .int .i64 p.l3])] 125) #[.int .i64 p.rows, .int .i64 p.cols, .int .i64 p.front, .int .i64 p.l0, .int .i64 p.l1, .int .i64 p.l2, .int .i64 p.l3] 189)
 have HO1 := hide (hO.box2 (.cells #[.int .i64 f, .iface 189 (.agg #[.int .i64 p.rows, .int .i64 p.cols, .int .i64 p.front, .int .i64 p.l0, .int .i64 p.l1, .int .i64 p.l2, .int .i64 p.l3])] 125) (.cells #[.int .i64 p.rows, .int .i64 p.cols, .int .i64 p.front, .int .i64 p.l0, .int .i64 p.l1, .int .i64 p.l2, .int .i64 p.l3] 189))
 have HN := hide (whead_w ⟨v, h.box2 (.cells #[.int .i64 f, .iface 189 (.agg #[.int .i64 p.rows, .int .i64 p.cols, .int .i64 p.front, .int .i64 p.l0, .int .i64 p.l1, .int .i64 p.l2, .int .i64 p.l3])] 125) (.cells #[.int .i64 p.rows, .int .i64 p.cols, .int .i64 p.front, .int .i64 p.l0, .int .i64 p.l1, .int .i64 p.l2, .int .i64 p.l3] 189)⟩ (unhide HO1) (by omega) 1 f (by omega) hf)
 clear h hO
 have HPL := hide hp
 clear hp
 go_enter Tryz.func110, Tryz.ntmps110
 go_wp2_with fail
 refine (unhide HN).mono ?_
 rintro e w1 ⟨rfl, q1⟩
 have b1 := q1.mod.has (unhide B1) (fun q => q.2 rfl)
 have c0 : w1.cell? ⟨w.heap.size + 1, 0, none⟩ = some (.int .i64 p.rows) := b1.cell 0
 have c1 : w1.cell? ⟨w.heap.size + 1, 1, none⟩ = some (.int .i64 p.cols) := b1.cell 1
 have c2 : w1.cell? ⟨w.heap.size + 1, 2, none⟩ = some (.int .i64 p.front) := b1.cell 2
 have c3 : w1.cell? ⟨w.heap.size + 1, 3, none⟩ = some (.int .i64 p.l0) := b1.cell 3
 have c4 : w1.cell? ⟨w.heap.size + 1, 4, none⟩ = some (.int .i64 p.l1) := b1.cell 4
 have c5 : w1.cell? ⟨w.heap.size + 1, 5, none⟩ = some (.int .i64 p.l2) := b1.cell 5
 have c6 : w1.cell? ⟨w.heap.size + 1, 6, none⟩ = some (.int .i64 p.l3) := b1.cell 6
 have hlt := b1.lt
 have HO2 := hide ((unhide HO1).mod q1.mod)
 have Q1 := hide q1
 have HN2 := hide (wplane_any q1.ex (unhide HO2) (by simp only [List.length_append, List.length_singleton]; omega) p (unhide HPL))
 clear q1 b1 HN B1
 go_wp2_with fail
 refine (unhide HN2).mono ?_
 rintro e w2 ⟨rfl, q2⟩
 have Q2 := hide ((q2.after (unhide Q1).mod (fun _ _ x => x)).unbox2)
 clear q2 HN2 Q1
 go_wp2
 go_end0
 refine ⟨rfl, ?_⟩
 have q := unhide Q2
 rw [List.append_assoc] at q
 exact q
theorem wentry_fill {O : Nat → Prop} {w : World} {wb : Nat} {xs : List Int} {now : Int} (h : ∃ v, WrX O w wb v xs now) (hO : Up O w) (hl : xs.length < 1099511627600) (f : Int) (hf : 0 ≤ f ∧ f < 32) (s : Sea) (hs : SFit now s) :
  Calls Tryz.prog 110 #[.pointer (some ⟨wb, 0, none⟩), .agg #[.int .i64 f, .iface 202 (.agg #[.int .i64 s.row, .int .i64 s.col, .int .i64 s.st, .int .i64 s.pa, .int .i64 s.cl, .int .i64 s.un])]] w fun e w' => e = .returned (.tuple #[]) ∧ Wrote O w w' wb (xs ++ ((32 * 2 + f) :: fillB now s)) now := by
 obtain ⟨v, h⟩ := h
 have B1 := hide (Has.new2 w (.cells #[.int .i64 f, .iface 202 (.agg #[.int .i64 s.row, .int .i64 s.col, .int .i64 s.st, .int .i64 s.pa, .int .i64 s.cl, .int .i64 s.un])] 125) #[.int .i64 s.row, .int .i64 s.col, .int .i64 s.st, .int .i64 s.pa, .int .i64 s.cl, .int .i64 s.un] 202)
 have HO1 := hide (hO.box2 (.cells #[.int .i64 f, .iface 202 (.agg #[.int .i64 s.row, .int .i64 s.col, .int .i64 s.st, .int .i64 s.pa, .int .i64 s.cl, .int .i64 s.un])] 125) (.cells #[.int .i64 s.row, .int .i64 s.col, .int .i64 s.st, .int .i64 s.pa, .int .i64 s.cl, .int .i64 s.un] 202))
 have HN := hide (whead_w ⟨v, h.box2 (.cells #[.int .i64 f, .iface 202 (.agg #[.int .i64 s.row, .int .i64 s.col, .int .i64 s.st, .int .i64 s.pa, .int .i64 s.cl, .int .i64 s.un])] 125) (.cells #[.int .i64 s.row, .int .i64 s.col, .int .i64 s.st, .int .i64 s.pa, .int .i64 s.cl, .int .i64 s.un] 202)⟩ (unhide HO1) (by omega) 2 f (by omega) hf)
 clear h hO
 have HS := hide hs
 clear hs
 go_enter Tryz.func110, Tryz.ntmps110
 go_wp2_with fail
 refine (unhide HN).mono ?_
 rintro e w1 ⟨rfl, q1⟩
 have b1 := q1.mod.has (unhide B1) (fun q => q.2 rfl)
 have c0 : w1.cell? ⟨w.heap.size + 1, 0, none⟩ = some (.int .i64 s.row) := b1.cell 0
 have c1 : w1.cell? ⟨w.heap.size + 1, 1, none⟩ = some (.int .i64 s.col) := b1.cell 1
 have c2 : w1.cell? ⟨w.heap.size + 1, 2, none⟩ = some (.int .i64 s.st) := b1.cell 2
 have c3 : w1.cell? ⟨w.heap.size + 1, 3, none⟩ = some (.int .i64 s.pa) := b1.cell 3
 have c4 : w1.cell? ⟨w.heap.size + 1, 4, none⟩ = some (.int .i64 s.cl) := b1.cell 4
 have c5 : w1.cell? ⟨w.heap.size + 1, 5, none⟩ = some (.int .i64 s.un) := b1.cell 5
 have hlt := b1.lt
 have HO2 := hide ((unhide HO1).mod q1.mod)
 have Q1 := hide q1
 have HN2 := hide (wfill_any q1.ex (unhide HO2) (by simp only [List.length_append, List.length_singleton]; omega) s (unhide HS))
 clear q1 b1 HN B1
 go_wp2_with fail
 refine (unhide HN2).mono ?_
 rintro e w2 ⟨rfl, q2⟩
 have Q2 := hide ((q2.after (unhide Q1).mod (fun _ _ x => x)).unbox2)
 clear q2 HN2 Q1
 go_wp2
 go_end0
 refine ⟨rfl, ?_⟩
 have q := unhide Q2
 rw [List.append_assoc] at q
 exact q
theorem wentry_empty {O : Nat → Prop} {w : World} {wb : Nat} {xs : List Int} {now : Int} (h : ∃ v, WrX O w wb v xs now) (hO : Up O w) (hl : xs.length < 1099511627600) (f : Int) (hf : 0 ≤ f ∧ f < 32) (r c : Int) (hr : 1 ≤ r ∧ r ≤ 20) (hc : 1 ≤ c ∧ c ≤ 6) :
  Calls Tryz.prog 110 #[.pointer (some ⟨wb, 0, none⟩), .agg #[.int .i64 f, .iface 214 (.agg #[.int .i64 r, .int .i64 c])]] w fun e w' => e = .returned (.tuple #[]) ∧ Wrote O w w' wb (xs ++ ((32 * 3 + f) :: placeB r c)) now := by
 obtain ⟨v, h⟩ := h
 have B1 := hide (Has.new2 w (.cells #[.int .i64 f, .iface 214 (.agg #[.int .i64 r, .int .i64 c])] 125) #[.int .i64 r, .int .i64 c] 214)
 have HO1 := hide (hO.box2 (.cells #[.int .i64 f, .iface 214 (.agg #[.int .i64 r, .int .i64 c])] 125) (.cells #[.int .i64 r, .int .i64 c] 214))
 have HN := hide (whead_w ⟨v, h.box2 (.cells #[.int .i64 f, .iface 214 (.agg #[.int .i64 r, .int .i64 c])] 125) (.cells #[.int .i64 r, .int .i64 c] 214)⟩ (unhide HO1) (by omega) 3 f (by omega) hf)
 clear h hO
 go_enter Tryz.func110, Tryz.ntmps110
 go_wp2_with fail
 refine (unhide HN).mono ?_
 rintro e w1 ⟨rfl, q1⟩
 have b1 := q1.mod.has (unhide B1) (fun q => q.2 rfl)
 have c0 : w1.cell? ⟨w.heap.size + 1, 0, none⟩ = some (.int .i64 r) := b1.cell 0
 have c1 : w1.cell? ⟨w.heap.size + 1, 1, none⟩ = some (.int .i64 c) := b1.cell 1
 have hlt := b1.lt
 have HO2 := hide ((unhide HO1).mod q1.mod)
 have Q1 := hide q1
 have HN2 := hide (wplace_any q1.ex (unhide HO2) (by simp only [List.length_append, List.length_singleton]; omega) r c hr hc)
 clear q1 b1 HN B1
 go_wp2_with fail
 refine (unhide HN2).mono ?_
 rintro e w2 ⟨rfl, q2⟩
 have Q2 := hide ((q2.after (unhide Q1).mod (fun _ _ x => x)).unbox2)
 clear q2 HN2 Q1
 go_wp2
 go_end0
 refine ⟨rfl, ?_⟩
 have q := unhide Q2
 rw [List.append_assoc] at q
 exact q
theorem wentry_shift {O : Nat → Prop} {w : World} {wb : Nat} {xs : List Int} {now : Int} (h : ∃ v, WrX O w wb v xs now) (hO : Up O w) (hl : xs.length < 1099511627600) (f : Int) (hf : 0 ≤ f ∧ f < 32) (r c rt ct : Int) (hr : 1 ≤ r ∧ r ≤ 20) (hc : 1 ≤ c ∧ c ≤ 6) (hr2 : 1 ≤ rt ∧ rt ≤ 20) (hc2 : 1 ≤ ct ∧ ct ≤ 6) :
  Calls Tryz.prog 110 #[.pointer (some ⟨wb, 0, none⟩), .agg #[.int .i64 f, .iface 216 (.agg #[.int .i64 r, .int .i64 c, .int .i64 rt, .int .i64 ct])]] w fun e w' => e = .returned (.tuple #[]) ∧ Wrote O w w' wb (xs ++ ((32 * 4 + f) :: (placeB r c ++ placeB rt ct))) now := by
 obtain ⟨v, h⟩ := h
 have B1 := hide (Has.new2 w (.cells #[.int .i64 f, .iface 216 (.agg #[.int .i64 r, .int .i64 c, .int .i64 rt, .int .i64 ct])] 125) #[.int .i64 r, .int .i64 c, .int .i64 rt, .int .i64 ct] 216)
 have HO1 := hide (hO.box2 (.cells #[.int .i64 f, .iface 216 (.agg #[.int .i64 r, .int .i64 c, .int .i64 rt, .int .i64 ct])] 125) (.cells #[.int .i64 r, .int .i64 c, .int .i64 rt, .int .i64 ct] 216))
 have HN := hide (whead_w ⟨v, h.box2 (.cells #[.int .i64 f, .iface 216 (.agg #[.int .i64 r, .int .i64 c, .int .i64 rt, .int .i64 ct])] 125) (.cells #[.int .i64 r, .int .i64 c, .int .i64 rt, .int .i64 ct] 216)⟩ (unhide HO1) (by omega) 4 f (by omega) hf)
 clear h hO
 have l1 : (placeB r c).length ≤ 9 := (numB_len _).2
 go_enter Tryz.func110, Tryz.ntmps110
 go_wp2_with fail
 refine (unhide HN).mono ?_
 rintro e w1 ⟨rfl, q1⟩
 have b1 := q1.mod.has (unhide B1) (fun q => q.2 rfl)
 have c0 : w1.cell? ⟨w.heap.size + 1, 0, none⟩ = some (.int .i64 r) := b1.cell 0
 have c1 : w1.cell? ⟨w.heap.size + 1, 1, none⟩ = some (.int .i64 c) := b1.cell 1
 have c2 : w1.cell? ⟨w.heap.size + 1, 2, none⟩ = some (.int .i64 rt) := b1.cell 2
 have c3 : w1.cell? ⟨w.heap.size + 1, 3, none⟩ = some (.int .i64 ct) := b1.cell 3
 have hlt := b1.lt
 have HO2 := hide ((unhide HO1).mod q1.mod)
 have Q1 := hide q1
 have HN2 := hide (wplace_any q1.ex (unhide HO2) (by simp only [List.length_append, List.length_singleton]; omega) r c hr hc)
 have BB := hide b1
 clear q1 b1 HN B1
 go_wp2_with fail
 refine (unhide HN2).mono ?_
 rintro e w2 ⟨rfl, q2⟩
 have b2 := q2.mod.has (unhide BB) (fun q => q.2 rfl)
 have d2 : w2.cell? ⟨w.heap.size + 1, 2, none⟩ = some (.int .i64 rt) := b2.cell 2
 have d3 : w2.cell? ⟨w.heap.size + 1, 3, none⟩ = some (.int .i64 ct) := b2.cell 3
 have hlt2 := b2.lt
 have HN3 := hide (wplace_any q2.ex ((unhide HO2).mod q2.mod) (by simp only [List.length_append, List.length_singleton]; omega) rt ct hr2 hc2)
 have Q2 := hide (q2.after (unhide Q1).mod (fun _ _ x => x))
 clear q2 b2 HN2 Q1 BB c0 c1 c2 c3
 go_wp2_with fail
 refine (unhide HN3).mono ?_
 rintro e w3 ⟨rfl, q3⟩
 have Q3 := hide ((q3.after (unhide Q2).mod (fun _ _ x => x)).unbox2)
 clear q3 HN3 Q2
 go_wp2
 go_end0
 refine ⟨rfl, ?_⟩
 have q := unhide Q3
 rw [List.append_assoc, List.append_assoc] at q
 exact q
theorem wentry_refit {O : Nat → Prop} {w : World} {wb : Nat} {xs : List Int} {now : Int} (h : ∃ v, WrX O w wb v xs now) (hO : Up O w) (hl : xs.length < 1099511627600) (f : Int) (hf : 0 ≤ f ∧ f < 32) (r c k : Int) (hr : 0 ≤ r ∧ r < 9223372036854775808) (hc : 0 ≤ c ∧ c < 9223372036854775808) (hk : 0 ≤ k ∧ k < 9223372036854775808) :
  Calls Tryz.prog 110 #[.pointer (some ⟨wb, 0, none⟩), .agg #[.int .i64 f, .iface 212 (.agg #[.int .i64 r, .int .i64 c, .int .i64 k])]] w fun e w' => e = .returned (.tuple #[]) ∧ Wrote O w w' wb (xs ++ ((32 * 5 + f) :: (numB r ++ numB c ++ numB k))) now := by
 obtain ⟨v, h⟩ := h
 have B1 := hide (Has.new2 w (.cells #[.int .i64 f, .iface 212 (.agg #[.int .i64 r, .int .i64 c, .int .i64 k])] 125) #[.int .i64 r, .int .i64 c, .int .i64 k] 212)
 have HO1 := hide (hO.box2 (.cells #[.int .i64 f, .iface 212 (.agg #[.int .i64 r, .int .i64 c, .int .i64 k])] 125) (.cells #[.int .i64 r, .int .i64 c, .int .i64 k] 212))
 have HN := hide (whead_w ⟨v, h.box2 (.cells #[.int .i64 f, .iface 212 (.agg #[.int .i64 r, .int .i64 c, .int .i64 k])] 125) (.cells #[.int .i64 r, .int .i64 c, .int .i64 k] 212)⟩ (unhide HO1) (by omega) 5 f (by omega) hf)
 clear h hO
 go_enter Tryz.func110, Tryz.ntmps110
 go_wp2_with fail
 refine (unhide HN).mono ?_
 rintro e w1 ⟨rfl, q1⟩
 have b1 := q1.mod.has (unhide B1) (fun q => q.2 rfl)
 have c0 : w1.cell? ⟨w.heap.size + 1, 0, none⟩ = some (.int .i64 r) := b1.cell 0
 have c1 : w1.cell? ⟨w.heap.size + 1, 1, none⟩ = some (.int .i64 c) := b1.cell 1
 have c2 : w1.cell? ⟨w.heap.size + 1, 2, none⟩ = some (.int .i64 k) := b1.cell 2
 have hlt := b1.lt
 have HO2 := hide ((unhide HO1).mod q1.mod)
 have Q1 := hide q1
 have HN2 := hide (wshape_any q1.ex (unhide HO2) (by simp only [List.length_append, List.length_singleton]; omega) r c k hr hc hk)
 clear q1 b1 HN B1
 go_wp2_with fail
 refine (unhide HN2).mono ?_
 rintro e w2 ⟨rfl, q2⟩
 have Q2 := hide ((q2.after (unhide Q1).mod (fun _ _ x => x)).unbox2)
 clear q2 HN2 Q1
 go_wp2
 go_end0
 refine ⟨rfl, ?_⟩
 have q := unhide Q2
 rw [List.append_assoc] at q
 exact q
theorem wentry_pass {O : Nat → Prop} {w : World} {wb : Nat} {xs : List Int} {now : Int} (h : ∃ v, WrX O w wb v xs now) (hO : Up O w) (hl : xs.length < 1099511627600) (f : Int) (nw : Int) (hn : 0 ≤ now ∧ now ≤ nw ∧ nw ≤ 4611686018427387904) :
  Calls Tryz.prog 110 #[.pointer (some ⟨wb, 0, none⟩), .agg #[.int .i64 f, .iface 159 (.agg #[.int .i64 nw])]] w fun e w' => e = .returned (.tuple #[]) ∧ Wrote O w w' wb (xs ++ (192 :: numB (nw - now))) nw := by
 obtain ⟨v, h⟩ := h
 have B1 := hide (Has.new2 w (.cells #[.int .i64 f, .iface 159 (.agg #[.int .i64 nw])] 125) #[.int .i64 nw] 159)
 have HO1 := hide (hO.box2 (.cells #[.int .i64 f, .iface 159 (.agg #[.int .i64 nw])] 125) (.cells #[.int .i64 nw] 159))
 have HN := hide (whead_w ⟨v, h.box2 (.cells #[.int .i64 f, .iface 159 (.agg #[.int .i64 nw])] 125) (.cells #[.int .i64 nw] 159)⟩ (unhide HO1) (by omega) 6 0 (by omega) (by omega))
 clear h hO
 go_enter Tryz.func110, Tryz.ntmps110
 go_wp2_with fail
 refine (unhide HN).mono ?_
 rintro e w1 ⟨rfl, q1⟩
 have b1 := q1.mod.has (unhide B1) (fun q => q.2 rfl)
 have c0 : w1.cell? ⟨w.heap.size + 1, 0, none⟩ = some (.int .i64 nw) := b1.cell 0
 have hlt := b1.lt
 have HO2 := hide ((unhide HO1).mod q1.mod)
 have Q1 := hide q1
 obtain ⟨v1, hv1⟩ := q1.ex
 have d1 : w1.cell? ⟨wb, 1, none⟩ = some (.int .i64 now) := hv1.has.cell 1
 have lt4 := hv1.has.lt
 have hw : IntKind.i64.wrap (nw - now) = nw - now := wrap_id _ (by omega) (by omega)
 have HN2 := hide (wnum_w ⟨v1, hv1.mod (S := No) ((Mod.refl No w1).drewN 1) (fun _ _ x => x)⟩ ((unhide HO2).mod ((Mod.refl No w1).drewN 1)) (by simp only [List.length_append, List.length_singleton]; omega) (nw - now) (by omega))
 have HM := hide ((Mod.refl No w1).drewN 1)
 have BB := hide b1
 clear hv1 q1 b1 HN B1
 go_wp2_with fail
 go_region_law (refine step_call rfl 109 _ _ rfl #[.pointer (some ⟨wb, 0, none⟩), .int .i64 (nw - now)] (by simp [Act.eval, Act.put]) (fun W => by kernel_rfl) (.tuple #[]) _ (unhide HN2) ?_; intro w2 q2; have b2 := (unhide HM |>.mono (S' := fun k => (O k ∧ k ≠ w.heap.size) ∧ k ≠ w.heap.size + 1) (fun _ _ x => x.elim) |>.trans q2.mod).has (unhide BB) (fun q => q.2 rfl); have e0 : w2.cell? ⟨w.heap.size + 1, 0, none⟩ = some (.int .i64 nw) := b2.cell 0; have hlt2 := b2.lt; obtain ⟨v2, hv2⟩ := q2.ex; obtain ⟨a2, s2, rfl⟩ := slice_of_owns hv2.row; have g1 : w2.cell? ⟨wb, 1, none⟩ = some (.int .i64 now) := hv2.has.cell 1; have gf := hv2.has.frozen; have gl := hv2.has.lt; have Q2 := hide (q2.mod); have HV2 := hide hv2; clear q2 b2 hv2)
 all_goals go_wp2
 all_goals go_end0
 all_goals
  refine ⟨rfl, ?_⟩
  have hv2 := unhide HV2
  have hset : WrX (fun k => (O k ∧ k ≠ w.heap.size) ∧ k ≠ w.heap.size + 1) (w2.setCell ⟨wb, 1, none⟩ (.int .i64 nw)) wb _ (xs ++ [32 * 6 + 0] ++ numB (nw - now)) nw := ⟨hv2.has.set 1 _, owns_setCell_ne hv2.row (fun e => (hv2.own wb e).2 rfl) _, hv2.own, hv2.ge, hv2.len⟩
  have m2 := (((unhide Q1).mod.trans ((unhide HM).mono (fun _ _ x => x.elim))).trans (unhide Q2)).setCell (p := ⟨wb, 1, none⟩) (.inl hv2.ge) (.int .i64 nw)
  rw [List.append_assoc] at hset
  exact Wrote.unbox2 ⟨⟨_, hset⟩, m2⟩
theorem mod_c0 {w w' : World} (h : Mod No w w') {a : Addr} {v : Value} (hc : w.cell? a = some v) : w'.cell? a = some v := by
 have hl := World.block_lt_of_cell? w a hc
 unfold World.cell? at hc ⊢
 rw [h.block _ hl (fun x => x)]
 exact hc
def timeAt (now : Int) (es : List Ent) (i : Nat) : Int := (es.take i).foldl entNow now
theorem timeAt_succ (now : Int) (es : List Ent) (i : Nat) (hi : i < es.length) : timeAt now es (i + 1) = entNow (timeAt now es i) es[i] := by
 unfold timeAt
 rw [List.take_succ_eq_append_getElem hi, List.foldl_append]
 rfl
def entsTo (now : Int) (es : List Ent) (i : Nat) : List Int := entsB now (es.take i)
theorem entsB_append (now : Int) (es fs : List Ent) : entsB now (es ++ fs) = entsB now es ++ entsB (es.foldl entNow now) fs := by
 induction es generalizing now with
 | nil => rfl
 | cons e es ih => simp only [List.cons_append, entsB, ih, List.append_assoc, List.foldl_cons]
theorem entsTo_succ (now : Int) (es : List Ent) (i : Nat) (hi : i < es.length) : entsTo now es (i + 1) = entsTo now es i ++ entB (timeAt now es i) es[i] := by
 unfold entsTo timeAt
 rw [List.take_succ_eq_append_getElem hi, entsB_append]
 simp [entsB]
theorem Wrote.start {w w' : World} {now : Int} : WrX (fun k => w.heap.size ≤ k) (w.alloc (.cells #[.slice none 0 0, .int .i64 now] 193)) w.heap.size (.slice none 0 0) [] now :=
 ⟨Has.new w _ _, World.ownsRow_nil _ _ _ _, fun k hk => by simp [Value.ownBlock] at hk, Nat.le_refl _, by simp⟩
structure Recorded (w w' : World) (v : Value) (l : List Int) : Prop where
 row : w'.ownsRow 0 5 1 v l.length (u8s l)
 new : ∀ k, v.ownBlock = some k → w.heap.size ≤ k
 mod : Mod No w w'
theorem record_any (now : Int) (b o n cap : Nat) (w : World) (es : List Ent) (hn : es.length = n) (hn2 : 1 ≤ n ∧ n ≤ 21) (fv : Nat → Int) (tv : Nat → TypeId) (vv : Nat → Value)
  (hc : ∀ i, i < n → w.cell? ⟨b, o + i * 2, none⟩ = some (.int .i64 (fv i)) ∧ w.cell? ⟨b, o + i * 2 + 1, none⟩ = some (.iface (tv i) (vv i))) (hb : b < w.heap.size)
  (hlen : ∀ i, i ≤ n → (entsTo now es i).length ≤ 500000)
  (HE : ∀ i (hi : i < es.length) W, Mod No w W → ∀ wb xs, xs.length ≤ 600000 → (∃ v, WrX (fun k => w.heap.size ≤ k) W wb v xs (timeAt now es i)) →
   Calls Tryz.prog 110 #[.pointer (some ⟨wb, 0, none⟩), .agg #[.int .i64 (fv i), .iface (tv i) (vv i)]] W fun e W' => e = .returned (.tuple #[]) ∧ Wrote (fun k => w.heap.size ≤ k) W W' wb (xs ++ entB (timeAt now es i) es[i]) (entNow (timeAt now es i) es[i])) :
  Calls Tryz.prog 81 #[.int .i64 now, .slice (some ⟨b, o, none⟩) n cap] w fun e w' => ∃ v, e = .returned v ∧ Recorded w w' v (recB now es) := by
 have HN := hide (wnum_w (O := fun k => w.heap.size ≤ k) ⟨_, Wrote.start (w := w) (w' := w) (now := now)⟩ (fun k hk => Nat.le_trans ((Mod.refl No w).alloc _).size hk) (by simp) (n : Int) (by omega))
 have M0 := hide ((Mod.refl No w).alloc (.cells #[.slice none 0 0, .int .i64 now] 193))
 have HC := hide hc
 have HL := hide hlen
 have HE := hide HE
 have HB := hide hb
 have HEN := hide hn
 have HTS := hide (timeAt_succ now es)
 have HES := hide (entsTo_succ now es)
 obtain ⟨i5, q0, q1, q2, q3⟩ := info_parts info5
 clear hc hlen hn
 go_enter Tryz.func81, Tryz.ntmps81
 go_wp2_with fail
 refine (unhide HN).mono ?_
 rintro e w1 ⟨rfl, h1⟩
 have H1 := hide h1
 have hz := h1.mod.size
 clear h1 HN
 go_wp2_with fail
 go_loopw [15] (fun s wr => ∃ i : Nat, s = .int .i64 i ∧ i ≤ n ∧ Hid (Mod No w wr) ∧ Hid (∃ v, WrX (fun k => w.heap.size ≤ k) wr w.heap.size v (numB (n : Int) ++ entsTo now es i) (timeAt now es i))) (fun s _ => n - (intOf s).toNat)
 case atStart =>
  refine ⟨0, rfl, by omega, ?_, ?_⟩
  ·exact (unhide M0).trans' (unhide H1).mod (fun k (q : w.heap.size ≤ k) hk => by omega)
  ·have := (unhide H1).ex
   rw [List.nil_append] at this
   show Hid (∃ v, WrX (fun k => w.heap.size ≤ k) w1 w.heap.size v (numB (n : Int) ++ []) now)
   rw [List.append_nil]
   exact this
 case round =>
  obtain ⟨i, rfl, hi, M1, W1⟩ := hrel
  clear H1 hz M0
  by_cases hin : i < n
  ·have hini : (i : Int) < (n : Int) := by omega
   have hi0 : (0 : Int) ≤ i := by omega
   have hi1 : IntKind.i64.wrap ((i : Int) + 1) = ((i + 1 : Nat) : Int) := by rw [wrap_id _ (by omega) (by omega)]; rfl
   have c0 := mod_c0 (unhide M1) ((unhide HC) i hin).1
   have c1 := mod_c0 (unhide M1) ((unhide HC) i hin).2
   have bl := Nat.lt_of_lt_of_le (unhide HB) (unhide M1).size
   have mA : Mod No wr (wr.alloc (.cells #[.int .i64 (fv i), .iface (tv i) (vv i)] 125)) := (Mod.refl _ _).alloc _
   have HEI := hide ((unhide HE) i (by have := unhide HEN; omega) _ ((unhide M1).trans mA) w.heap.size (numB (n : Int) ++ entsTo now es i) (by
    have h1 := (unhide HL) i hi
    have h2 := (numB_len (n : Int)).2
    simp only [List.length_append]
    omega) (by
    obtain ⟨v, hv⟩ := unhide W1
    exact ⟨v, hv.mod mA (fun _ _ x => x)⟩))
   have MA := hide mA
   clear mA
   generalize tv i = ti at *
   generalize vv i = vi at *
   generalize fv i = fi at *
   go_wp2_with fail
   refine (unhide HEI).mono ?_
   rintro e w3 ⟨rfl, q3⟩
   have hil : i < es.length := by have := unhide HEN; omega
   have W3 := hide q3.ex
   have M3 := hide (((unhide M1).trans (unhide MA)).trans' q3.mod (fun k (q : w.heap.size ≤ k) hk => by omega))
   have E1 := hide ((unhide HTS) i hil)
   have E2 := hide ((unhide HES) i hil)
   clear q3 HEI
   go_wp2
   refine ⟨⟨i + 1, rfl, by omega, M3, ?_⟩, by simp [intOf]; omega⟩
   rw [unhide E1, unhide E2, ← List.append_assoc]
   exact W3
  ·have hini : ¬ (i : Int) < (n : Int) := by omega
   obtain rfl : i = n := by omega
   obtain ⟨v, hv⟩ := unhide W1
   obtain ⟨a, c, rfl⟩ := slice_of_owns hv.row
   have hc : wr.cell? ⟨w.heap.size, 0, none⟩ = some (.slice a (numB (i : Int) ++ entsTo now es i).length c) := hv.has.cell 0
   have hlt := hv.has.lt
   have mA : Mod No wr (wr.alloc (.cells #[.int .u8 229] 5)) := (Mod.refl _ _).alloc _
   have HOWN := hide (mA.owns hv.row (fun _ _ x => x))
   have HR := hide (byte_reads wr 229 5)
   have HV := hide hv
   have hlen := (unhide HL) i hi
   have hlen2 := (numB_len (i : Int)).2
   have HXL := hide (show (numB (i : Int) ++ entsTo now es i).length = (numB (i : Int)).length + (entsTo now es i).length by simp)
   have HREC := hide (show recB now es = numB (i : Int) ++ entsTo now es i ++ [229] from by
    unfold recB entsTo
    rw [unhide HEN, List.take_of_length_le (by have := unhide HEN; omega)])
   have MA := hide ((unhide M1).trans mA)
   clear hv mA hlen W1
   generalize hX : numB (i : Int) ++ entsTo now es i = X at *
   clear hX
   have hxl : X.length ≤ 600000 := by have := unhide HXL; have := (unhide HL) i hi; omega
   go_wp2_with (at_builtin; refine wpList_append_row rfl (.tmp 23) (.tmp 24) 103 rfl 5 i5 _ 1 1 Tryz.underlying103 q0 q1 q2 q3 rfl (by decide) (.slice a X.length c) X.length (u8s X) (by simp [Act.eval]) (by exact unhide HOWN) (.slice (some ⟨wr.heap.size, 0, none⟩) 1 1) 1 [.int .u8 229] (by simp [Act.eval]) (by exact unhide HR) rfl (by intro u hu; simp at hu; subst hu; rfl) (by unfold maxLen; omega) (by omega) ?_; intro v1 w1 ho hg hs; obtain ⟨a1, c1, rfl⟩ := slice_of_owns ho)
   go_ret
   have hv := unhide HV
   refine ⟨_, rfl, ?_⟩
   show Recorded w w1 (.slice a1 (X.length + 1) c1) (recB now es)
   rw [unhide HREC]
   refine ⟨?_, fun k hk => ?_, (unhide MA).grown hg (fun k hk => .inr (hv.own k hk).1)⟩
   ·unfold u8s at ho ⊢
    rw [List.length_append, List.map_append]
    exact ho
   ·rcases hs k hk with e | e
    ·exact (hv.own k e).1
    ·rw [World.size_alloc] at e
     have := (unhide M1).size
     omega
def chV (e : Ent) : Value :=
 if e.kind = 1 then startV e.pla
 else if e.kind = 2 then fillV e.sea.row e.sea.col e.sea.st e.sea.pa e.sea.cl e.sea.un
 else if e.kind = 3 then emptyV e.sea.row e.sea.col
 else if e.kind = 4 then shiftV e.sea.row e.sea.col e.tr e.tc
 else if e.kind = 5 then refitV e.pla
 else passV e.now
structure CFit (now : Int) (e : Ent) : Prop where
 kind : 1 ≤ e.kind ∧ e.kind ≤ 6
 fl : e.kind ≠ 6 → 0 ≤ e.fl ∧ e.fl < 32
 start : e.kind = 1 → (0 ≤ e.pla.rows ∧ e.pla.rows < 128) ∧ (0 ≤ e.pla.cols ∧ e.pla.cols < 128) ∧ (0 ≤ e.pla.front ∧ e.pla.front < 128) ∧ ∀ k, 0 ≤ e.pla.lim k ∧ e.pla.lim k < 16384
 fill : e.kind = 2 → SFit now e.sea
 at_ : e.kind = 3 ∨ e.kind = 4 → (1 ≤ e.sea.row ∧ e.sea.row ≤ 20) ∧ (1 ≤ e.sea.col ∧ e.sea.col ≤ 6)
 dest : e.kind = 4 → (1 ≤ e.tr ∧ e.tr ≤ 20) ∧ (1 ≤ e.tc ∧ e.tc ≤ 6)
 refit : e.kind = 5 → (0 ≤ e.pla.rows ∧ e.pla.rows < 128) ∧ (0 ≤ e.pla.cols ∧ e.pla.cols < 128) ∧ (0 ≤ e.pla.front ∧ e.pla.front < 128)
 pass : e.kind = 6 → 0 ≤ now ∧ now ≤ e.now ∧ e.now ≤ 4611686018427387904
theorem wentry_any {O : Nat → Prop} {w : World} {wb : Nat} {xs : List Int} {now : Int} (h : ∃ v, WrX O w wb v xs now) (hO : Up O w) (hl : xs.length < 1099511627600) (e : Ent) (hf : CFit now e) :
  Calls Tryz.prog 110 #[.pointer (some ⟨wb, 0, none⟩), .agg #[.int .i64 e.fl, chV e]] w fun r w' => r = .returned (.tuple #[]) ∧ Wrote O w w' wb (xs ++ entB now e) (entNow now e) := by
 unfold chV entB entNow
 have hk := hf.kind
 by_cases k1 : e.kind = 1
 ·rw [if_pos k1, if_pos k1, if_neg (by omega)]
  obtain ⟨p1, p2, p3, p4⟩ := hf.start k1
  exact wentry_start h hO hl e.fl (hf.fl (by omega)) e.pla ⟨by omega, by omega, by omega, fun k => by have := p4 k; omega⟩
 rw [if_neg k1, if_neg k1]
 by_cases k2 : e.kind = 2
 ·rw [if_pos k2, if_pos k2, if_neg (by omega)]
  exact wentry_fill h hO hl e.fl (hf.fl (by omega)) e.sea (hf.fill k2)
 rw [if_neg k2, if_neg k2]
 by_cases k3 : e.kind = 3
 ·rw [if_pos k3, if_pos k3, if_neg (by omega)]
  exact wentry_empty h hO hl e.fl (hf.fl (by omega)) _ _ (hf.at_ (.inl k3)).1 (hf.at_ (.inl k3)).2
 rw [if_neg k3, if_neg k3]
 by_cases k4 : e.kind = 4
 ·rw [if_pos k4, if_pos k4, if_neg (by omega)]
  exact wentry_shift h hO hl e.fl (hf.fl (by omega)) _ _ _ _ (hf.at_ (.inr k4)).1 (hf.at_ (.inr k4)).2 (hf.dest k4).1 (hf.dest k4).2
 rw [if_neg k4, if_neg k4]
 by_cases k5 : e.kind = 5
 ·rw [if_pos k5, if_pos k5, if_neg (by omega)]
  obtain ⟨p1, p2, p3⟩ := hf.refit k5
  exact wentry_refit h hO hl e.fl (hf.fl (by omega)) _ _ _ (by omega) (by omega) (by omega)
 rw [if_neg k5, if_neg k5]
 have k6 : e.kind = 6 := by omega
 rw [if_pos k6, if_pos k6]
 have p := hf.pass k6
 exact wentry_pass h hO hl e.fl e.now ⟨p.1, p.2.1, p.2.2⟩
theorem entB_len {now : Int} {e : Ent} (hf : CFit now e) : (entB now e).length ≤ 40 := by
 unfold entB
 have hk := hf.kind
 by_cases k1 : e.kind = 1
 ·rw [if_pos k1]
  obtain ⟨p1, p2, p3, p4⟩ := hf.start k1
  have a := shapeB_len e.pla
  have l0 := numB_two (p4 0).2
  have l1 := numB_two (p4 1).2
  have l2 := numB_two (p4 2).2
  have l3 := numB_two (p4 3).2
  simp only [planeB, List.length_cons, List.length_append]
  simp only [Pla.lim] at l0 l1 l2 l3
  omega
 rw [if_neg k1]
 by_cases k2 : e.kind = 2
 ·rw [if_pos k2]
  have := fillB_len now e.sea
  simp only [List.length_cons]
  omega
 rw [if_neg k2]
 have a := (numB_len ((e.sea.row - 1) * 6 + e.sea.col - 1)).2
 have b := (numB_len ((e.tr - 1) * 6 + e.tc - 1)).2
 have c := shapeB_len e.pla
 have d := (numB_len (e.now - now)).2
 by_cases k3 : e.kind = 3
 ·rw [if_pos k3]
  simp only [placeB, List.length_cons]
  omega
 rw [if_neg k3]
 by_cases k4 : e.kind = 4
 ·rw [if_pos k4]
  simp only [placeB, List.length_cons, List.length_append]
  omega
 rw [if_neg k4]
 by_cases k5 : e.kind = 5
 ·rw [if_pos k5]
  simp only [List.length_cons]
  omega
 rw [if_neg k5, if_pos (by omega)]
 simp only [List.length_cons]
 omega
def isB (b : Int) : Prop := 0 ≤ b ∧ b < 256
theorem all_app {l r : List Int} (h : ∀ b ∈ l, isB b) (h' : ∀ b ∈ r, isB b) : ∀ b ∈ l ++ r, isB b := fun b hb => by
 rcases List.mem_append.1 hb with q | q
 ·exact h b q
 ·exact h' b q
theorem all_cons {a : Int} {r : List Int} (h : isB a) (h' : ∀ b ∈ r, isB b) : ∀ b ∈ a :: r, isB b := fun b hb => by
 rcases List.mem_cons.1 hb with q | q
 ·subst q; exact h
 ·exact h' b q
theorem all_nil : ∀ b ∈ ([] : List Int), isB b := fun b hb => by cases hb
theorem num_isB {x : Int} (h : x < 9223372036854775808) : ∀ b ∈ numB x, isB b := numB_byte h
theorem fillB_byte {now : Int} {s : Sea} (h : SFit now s) : ∀ b ∈ fillB now s, isB b := by
 obtain ⟨h1, h2, h3, h4, h5, h6, h7⟩ := h
 unfold fillB placeB
 refine all_app (all_app (all_app (num_isB (by omega)) (num_isB (by omega))) ?_) ?_
 ·split
  ·exact all_nil
  ·exact num_isB (by omega)
 ·split
  ·rename_i e
   have := h6 e
   exact num_isB (by omega)
  ·exact all_nil
theorem entB_byte {now : Int} {e : Ent} (hf : CFit now e) : ∀ b ∈ entB now e, isB b := by
 unfold entB
 have hk := hf.kind
 have hfl := hf.fl
 by_cases k1 : e.kind = 1
 ·rw [if_pos k1]
  obtain ⟨p1, p2, p3, p4⟩ := hf.start k1
  have l0 := p4 0
  have l1 := p4 1
  have l2 := p4 2
  have l3 := p4 3
  simp only [Pla.lim] at l0 l1 l2 l3
  have := hfl (by omega)
  refine all_cons ⟨by omega, by omega⟩ ?_
  unfold planeB shapeB
  exact all_app (all_app (all_app (all_app (all_app (all_app (num_isB (by omega)) (num_isB (by omega))) (num_isB (by omega))) (num_isB (by omega))) (num_isB (by omega))) (num_isB (by omega))) (num_isB (by omega))
 rw [if_neg k1]
 by_cases k2 : e.kind = 2
 ·rw [if_pos k2]
  have := hfl (by omega)
  exact all_cons ⟨by omega, by omega⟩ (fillB_byte (hf.fill k2))
 rw [if_neg k2]
 by_cases k3 : e.kind = 3
 ·rw [if_pos k3]
  have := hfl (by omega)
  have := hf.at_ (.inl k3)
  exact all_cons ⟨by omega, by omega⟩ (num_isB (by omega))
 rw [if_neg k3]
 by_cases k4 : e.kind = 4
 ·rw [if_pos k4]
  have := hfl (by omega)
  have := hf.at_ (.inr k4)
  have := hf.dest k4
  exact all_cons ⟨by omega, by omega⟩ (all_app (num_isB (by omega)) (num_isB (by omega)))
 rw [if_neg k4]
 by_cases k5 : e.kind = 5
 ·rw [if_pos k5]
  have := hfl (by omega)
  have := hf.refit k5
  exact all_cons ⟨by omega, by omega⟩ (all_app (all_app (num_isB (by omega)) (num_isB (by omega))) (num_isB (by omega)))
 rw [if_neg k5, if_pos (by omega)]
 have := hf.pass (by omega)
 exact all_cons ⟨by omega, by omega⟩ (num_isB (by omega))
theorem rec1_len {now : Int} {e : Ent} (hf : CFit now e) : (recB now [e]).length ≤ 42 := by
 have := entB_len hf
 have h1 : numB (([e] : List Ent).length : Int) = [1] := numB_one (by simp) (by simp)
 unfold recB
 rw [h1]
 simp only [entsB, List.length_append, List.length_cons, List.length_nil, List.append_nil]
 omega
theorem rec1_byte {now : Int} {e : Ent} (hf : CFit now e) : ∀ b ∈ recB now [e], 0 ≤ b ∧ b < 256 := by
 have h1 : numB (([e] : List Ent).length : Int) = [1] := numB_one (by simp) (by simp)
 unfold recB
 rw [h1]
 simp only [entsB, List.append_nil]
 exact all_app (all_app (all_cons ⟨by omega, by omega⟩ all_nil) (entB_byte hf)) (all_cons ⟨by omega, by omega⟩ all_nil)
end Go.Proofs.YthhibagcpjeihaaGreat
