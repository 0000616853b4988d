import Derived.Test.YthhibagcpjeihaaGreatHTapeToWr1
import Derived.Test.YthhibagcpjeihaaGreatHPTapeToSto1
import Derived.Test.YthhibagcpjeihaaGreatHReckonToPut2
namespace Go.Proofs.YthhibagcpjeihaaGreat
open Go.RowKit
open M
set_option linter.unusedVariables false
set_option linter.unusedSimpArgs false
set_option maxRecDepth 100000
set_option maxHeartbeats 4000000
structure Wrote (O : Nat → Prop) (w w' : World) (wb : Nat) (xs : List Int) (now : Int) : Prop where
 ex : ∃ v', WrX O w' wb v' xs now
 mod : Mod O w w'
theorem Wrote.after {O S : Nat → Prop} {w w1 w2 : World} {wb : Nat} {xs : List Int} {now : Int} (h : Wrote O w1 w2 wb xs now) (hm : Mod S w w1) (hs : ∀ k, k < w.heap.size → S k → O k) : Wrote O w w2 wb xs now :=
 ⟨h.ex, (hm.mono hs).trans h.mod⟩
theorem Wrote.unbox {O : Nat → Prop} {w w2 : World} {wb : Nat} {xs : List Int} {now : Int} {o : Obj} (h : Wrote (fun k => O k ∧ k ≠ w.heap.size) (w.alloc o) w2 wb xs now) : Wrote O w w2 wb xs now := by
 obtain ⟨⟨v, hx⟩, hm⟩ := h
 exact ⟨⟨v, hx.wide (fun _ q => q.1)⟩, (((Mod.refl No w).alloc o).mono (fun _ _ x => x.elim)).trans (hm.mono (fun _ _ q => q.1))⟩
def Up (O : Nat → Prop) (w : World) : Prop := ∀ k, w.heap.size ≤ k → O k
theorem Up.box {O : Nat → Prop} {w : World} (h : Up O w) (o : Obj) : Up (fun k => O k ∧ k ≠ w.heap.size) (w.alloc o) := fun k hk => by
 rw [World.size_alloc] at hk
 exact ⟨h k (by omega), by omega⟩
theorem Up.mod {O S : Nat → Prop} {w w' : World} (h : Up O w) (hm : Mod S w w') : Up O w' := fun k hk => h k (Nat.le_trans hm.size hk)
theorem wnum_w {O : Nat → Prop} {w : World} {wb : Nat} {xs : List Int} {now : Int} (h : ∃ v, WrX O w wb v xs now) (hO : Up O w) (hl : xs.length < 1099511627766) (n : Int) (hn : 0 ≤ n ∧ n < 9223372036854775808) :
  Calls Tryz.prog 109 #[.pointer (some ⟨wb, 0, none⟩), .int .i64 n] w fun e w' => e = .returned (.tuple #[]) ∧ Wrote O w w' wb (xs ++ numB n) now := by
 obtain ⟨v, h⟩ := h
 exact (wnum_any h hO hl n hn).mono fun e w' ⟨q1, q2, q3⟩ => ⟨q1, q2, q3⟩
theorem whead_w {O : Nat → Prop} {w : World} {wb : Nat} {xs : List Int} {now : Int} (h : ∃ v, WrX O w wb v xs now) (hO : Up O w) (hl : xs.length < 1099511627776) (k f : Int) (hk : 1 ≤ k ∧ k ≤ 7) (hf : 0 ≤ f ∧ f < 32) :
  Calls Tryz.prog 124 #[.pointer (some ⟨wb, 0, none⟩), .int .i64 k, .int .i64 f] w fun e w' => e = .returned (.tuple #[]) ∧ Wrote O w w' wb (xs ++ [32 * k + f]) now := by
 obtain ⟨v, h⟩ := h
 exact (whead_any h hO hl k f hk hf).mono fun e w' ⟨q1, q2, q3⟩ => ⟨q1, q2, q3⟩
theorem wplace_any {O : Nat → Prop} {w : World} {wb : Nat} {xs : List Int} {now : Int} (h : ∃ v, WrX O w wb v xs now) (hO : Up O w) (hl : xs.length < 1099511627766) (r c : Int) (hr : 1 ≤ r ∧ r ≤ 20) (hc : 1 ≤ c ∧ c ≤ 6) :
  Calls Tryz.prog 127 #[.pointer (some ⟨wb, 0, none⟩), .agg #[.int .i64 r, .int .i64 c]] w fun e w' => e = .returned (.tuple #[]) ∧ Wrote O w w' wb (xs ++ placeB r c) now := by
 obtain ⟨v, h⟩ := h
 have HN := hide (wnum_w ⟨v, h.box (.cells #[.int .i64 r, .int .i64 c] 36)⟩ (hO.box _) hl ((r - 1) * 6 + c - 1) (by omega))
 clear h hO
 unfold placeB
 go_enter Tryz.func127, Tryz.ntmps127
 go_wp2_with fail
 refine (unhide HN).mono ?_
 rintro e w1 ⟨rfl, h1⟩
 have FIN := hide h1.unbox
 clear h1 HN
 go_wp2
 go_end0
 exact ⟨rfl, unhide FIN⟩
theorem wshape_any {O : Nat → Prop} {w : World} {wb : Nat} {xs : List Int} {now : Int} (h : ∃ v, WrX O w wb v xs now) (hO : Up O w) (hl : xs.length < 1099511627740) (a b c : Int) (ha : 0 ≤ a ∧ a < 9223372036854775808) (hb : 0 ≤ b ∧ b < 9223372036854775808) (hc : 0 ≤ c ∧ c < 9223372036854775808) :
  Calls Tryz.prog 128 #[.pointer (some ⟨wb, 0, none⟩), .int .i64 a, .int .i64 b, .int .i64 c] w fun e w' => e = .returned (.tuple #[]) ∧ Wrote O w w' wb (xs ++ (numB a ++ numB b ++ numB c)) now := by
 have la := (numB_len a).2
 have lb := (numB_len b).2
 have HN := hide (wnum_w h hO (by omega) a ha)
 have HO := hide hO
 clear h hO
 go_enter Tryz.func128, Tryz.ntmps128
 go_wp2_with fail
 refine (unhide HN).mono ?_
 rintro e w1 ⟨rfl, h1⟩
 have HN1 := hide (wnum_w h1.ex ((unhide HO).mod h1.mod) (by simp; omega) b hb)
 have M1 := hide h1.mod
 clear h1 HN
 go_wp2_with fail
 refine (unhide HN1).mono ?_
 rintro e w2 ⟨rfl, h2⟩
 have M2 := hide ((unhide M1).trans h2.mod)
 have HN2 := hide (wnum_w h2.ex ((unhide HO).mod (unhide M2)) (by simp; omega) c hc)
 clear h2 HN1
 go_wp2_with fail
 refine (unhide HN2).mono ?_
 rintro e w3 ⟨rfl, h3⟩
 have H3 := hide h3
 clear h3 HN2
 go_wp2
 go_end0
 refine ⟨rfl, ?_⟩
 rw [← List.append_assoc, ← List.append_assoc]
 exact (unhide H3).after (unhide M2) (fun _ _ x => x)
theorem lims_idx (l0 l1 l2 l3 : Int) (p : Pla) (hp : p.l0 = l0 ∧ p.l1 = l1 ∧ p.l2 = l2 ∧ p.l3 = l3) (k : Nat) (hk : k < 4) (w : World) :
  (Instr.index 37 (.agg #[.int .i64 l0, .int .i64 l1, .int .i64 l2, .int .i64 l3]) (.int .i64 (k : Int))).run Tryz.prog w = .ok (.int .i64 (p.lim k)) w := by
 obtain ⟨rfl, rfl, rfl, rfl⟩ := hp
 have : k = 0 ∨ k = 1 ∨ k = 2 ∨ k = 3 := by omega
 rcases this with rfl | rfl | rfl | rfl
 ·exact idx40_0 _ _ _ _ _
 ·exact idx40_1 _ _ _ _ _
 ·exact idx40_2 _ _ _ _ _
 ·exact idx40_3 _ _ _ _ _
def limsB (p : Pla) : Nat → List Int
 | 0 => []
 | k + 1 => limsB p k ++ numB (p.lim k)
theorem limsB_len (p : Pla) (k : Nat) : (limsB p k).length ≤ 9 * k := by
 induction k with
 | zero => simp [limsB]
 | succ k ih =>
  have := (numB_len (p.lim k)).2
  simp only [limsB, List.length_append]
  omega
theorem planeB_lims (p : Pla) : planeB p = shapeB p ++ limsB p 4 := by
 simp [planeB, limsB, Pla.lim]
def Pla.fit (p : Pla) : Prop := (0 ≤ p.rows ∧ p.rows < 9223372036854775808) ∧ (0 ≤ p.cols ∧ p.cols < 9223372036854775808) ∧ (0 ≤ p.front ∧ p.front < 9223372036854775808) ∧ ∀ k, 0 ≤ p.lim k ∧ p.lim k < 9223372036854775808
theorem shapeB_len (p : Pla) : (shapeB p).length ≤ 27 := by
 have a := (numB_len p.rows).2
 have b := (numB_len p.cols).2
 have c := (numB_len p.front).2
 simp only [shapeB, List.length_append]
 omega
theorem wplane_any {O : Nat → Prop} {w : World} {wb : Nat} {xs : List Int} {now : Int} (h : ∃ v, WrX O w wb v xs now) (hO : Up O w) (hl : xs.length < 1099511627700) (p : Pla) (hp : Pla.fit p) :
  Calls Tryz.prog 125 #[.pointer (some ⟨wb, 0, none⟩), .agg #[.int .i64 p.rows, .int .i64 p.cols, .int .i64 p.front, .int .i64 p.l0, .int .i64 p.l1, .int .i64 p.l2, .int .i64 p.l3]] w fun e w' => e = .returned (.tuple #[]) ∧ Wrote O w w' wb (xs ++ planeB p) now := by
 obtain ⟨v, h⟩ := h
 have B0 := hide (Has.new w #[.int .i64 p.rows, .int .i64 p.cols, .int .i64 p.front, .int .i64 p.l0, .int .i64 p.l1, .int .i64 p.l2, .int .i64 p.l3] 39)
 have hsl := shapeB_len p
 have HO := hide (hO.box (.cells #[.int .i64 p.rows, .int .i64 p.cols, .int .i64 p.front, .int .i64 p.l0, .int .i64 p.l1, .int .i64 p.l2, .int .i64 p.l3] 39))
 have HN := hide (wshape_any ⟨v, h.box (.cells #[.int .i64 p.rows, .int .i64 p.cols, .int .i64 p.front, .int .i64 p.l0, .int .i64 p.l1, .int .i64 p.l2, .int .i64 p.l3] 39)⟩ (unhide HO) (by omega) p.rows p.cols p.front hp.1 hp.2.1 hp.2.2.1)
 rw [planeB_lims]
 have HL := hide fun k hk W => lims_idx p.l0 p.l1 p.l2 p.l3 p ⟨rfl, rfl, rfl, rfl⟩ k hk W
 have HF := hide hp.2.2.2
 clear h hp hO
 unfold shapeB at *
 generalize hP : numB p.rows ++ numB p.cols ++ numB p.front = PB at *
 clear hP
 go_enter Tryz.func125, Tryz.ntmps125
 go_wp2_with fail
 refine (unhide HN).mono ?_
 rintro e w1 ⟨rfl, h1⟩
 have b1 := h1.mod.has (unhide B0) (fun q => q.2 rfl)
 have c3 : w1.cell? ⟨w.heap.size, 3, none⟩ = some (.int .i64 p.l0) := b1.cell 3
 have c4 : w1.cell? ⟨w.heap.size, 4, none⟩ = some (.int .i64 p.l1) := b1.cell 4
 have c5 : w1.cell? ⟨w.heap.size, 5, none⟩ = some (.int .i64 p.l2) := b1.cell 5
 have c6 : w1.cell? ⟨w.heap.size, 6, none⟩ = some (.int .i64 p.l3) := b1.cell 6
 have hlt := b1.lt
 have H1 := hide h1
 clear h1 HN B0 b1
 go_wp2_with fail
 go_loopw [16] (fun s wr => ∃ k : Nat, s = .int .i64 k ∧ k ≤ 4 ∧ Hid (Wrote (fun k => O k ∧ k ≠ w.heap.size) (w.alloc (.cells #[.int .i64 p.rows, .int .i64 p.cols, .int .i64 p.front, .int .i64 p.l0, .int .i64 p.l1, .int .i64 p.l2, .int .i64 p.l3] 39)) wr wb (xs ++ PB ++ limsB p k) now)) (fun s _ => 4 - (intOf s).toNat)
 case atStart => exact ⟨0, rfl, by omega, by rw [limsB, List.append_nil]; exact H1⟩
 case round =>
  obtain ⟨k, rfl, hk, H2⟩ := hrel
  clear H1 c3 c4 c5 c6 hlt
  by_cases h4 : k < 4
  ·have h4i : (k : Int) < 4 := by omega
   have h0i : (0 : Int) ≤ k := by omega
   have hk1 : IntKind.i64.wrap ((k : Int) + 1) = ((k + 1 : Nat) : Int) := by rw [wrap_id _ (by omega) (by omega)]; rfl
   have hix := (unhide HL) k h4 wr
   have hll := limsB_len p k
   have HN := hide (wnum_w (unhide H2).ex ((unhide HO).mod (unhide H2).mod) (by simp only [List.length_append]; omega) (p.lim k) ((unhide HF) k))
   clear hll
   go_wp2_with fail
   refine (unhide HN).mono ?_
   rintro e w2 ⟨rfl, h2⟩
   have H3 := hide (h2.after (unhide H2).mod (fun _ _ x => x))
   clear h2 HN H2 hix
   go_wp2
   refine ⟨⟨k + 1, rfl, by omega, ?_⟩, by simp [intOf]; omega⟩
   rw [limsB, ← List.append_assoc]
   exact H3
  ·have h4i : ¬ (k : Int) < 4 := by omega
   obtain rfl : k = 4 := by omega
   go_wp2
   go_end0
   refine ⟨rfl, ?_⟩
   rw [← List.append_assoc]
   exact (unhide H2).unbox
structure SFit (now : Int) (s : Sea) : Prop where
 row : 1 ≤ s.row ∧ s.row ≤ 20
 col : 1 ≤ s.col ∧ s.col ≤ 6
 st : 0 ≤ s.st ∧ s.st ≤ 3
 cl : 0 ≤ s.cl ∧ s.cl ≤ 3
 pa : 0 ≤ s.pa ∧ s.pa ≤ 1000
 un : s.st = 1 → now ≤ s.un ∧ s.un - now ≤ 4611686018427387904
 now : 0 ≤ now ∧ now ≤ 4611686018427387904
theorem fillB_len (now : Int) (s : Sea) : (fillB now s).length ≤ 36 := by
 have a := (numB_len ((s.row - 1) * 6 + s.col - 1)).2
 have b := (numB_len (s.st * 4 + s.cl)).2
 have c := (numB_len s.pa).2
 have d := (numB_len (s.un - now)).2
 unfold fillB placeB
 simp only [List.length_append]
 have e : (if s.st = 3 then [] else numB s.pa).length ≤ 9 := by
  split
  ·simp
  ·exact c
 have f : (if s.st = 1 then numB (s.un - now) else []).length ≤ 9 := by
  split
  ·exact d
  ·simp
 omega
theorem wfill_any {O : Nat → Prop} {w : World} {wb : Nat} {xs : List Int} {now : Int} (h : ∃ v, WrX O w wb v xs now) (hO : Up O w) (hl : xs.length < 1099511627700) (s : Sea) (hs : SFit now s) :
  Calls Tryz.prog 126 #[.pointer (some ⟨wb, 0, none⟩), .agg #[.int .i64 s.row, .int .i64 s.col, .int .i64 s.st, .int .i64 s.pa, .int .i64 s.cl, .int .i64 s.un]] w fun e w' => e = .returned (.tuple #[]) ∧ Wrote O w w' wb (xs ++ fillB now s) now := by
 obtain ⟨v, h⟩ := h
 obtain ⟨h1, h2, h3, h4, h5, h6, h7⟩ := hs
 have l1 := (numB_len ((s.row - 1) * 6 + s.col - 1)).2
 have l2 := (numB_len (s.st * 4 + s.cl)).2
 have l3 := (numB_len s.pa).2
 have B0 := hide (Has.new w #[.int .i64 s.row, .int .i64 s.col, .int .i64 s.st, .int .i64 s.pa, .int .i64 s.cl, .int .i64 s.un] 202)
 have HO := hide (hO.box (.cells #[.int .i64 s.row, .int .i64 s.col, .int .i64 s.st, .int .i64 s.pa, .int .i64 s.cl, .int .i64 s.un] 202))
 have HN := hide (wplace_any ⟨v, h.box (.cells #[.int .i64 s.row, .int .i64 s.col, .int .i64 s.st, .int .i64 s.pa, .int .i64 s.cl, .int .i64 s.un] 202)⟩ (unhide HO) (by omega) s.row s.col h1 h2)
 have h6 := hide h6
 clear h hO
 have hpl : (placeB s.row s.col).length ≤ 9 := l1
 have HF := hide (show fillB now s = placeB s.row s.col ++ numB (s.st * 4 + s.cl) ++ (if s.st = 3 then [] else numB s.pa) ++ (if s.st = 1 then numB (s.un - now) else []) from rfl)
 generalize fillB now s = F at *
 generalize placeB s.row s.col = P at *
 go_enter Tryz.func126, Tryz.ntmps126
 go_wp2_with fail
 refine (unhide HN).mono ?_
 rintro e w1 ⟨rfl, q1⟩
 have b1 := q1.mod.has (unhide B0) (fun q => q.2 rfl)
 have c2 : w1.cell? ⟨w.heap.size, 2, none⟩ = some (.int .i64 s.st) := b1.cell 2
 have c3 : w1.cell? ⟨w.heap.size, 3, none⟩ = some (.int .i64 s.pa) := b1.cell 3
 have c4 : w1.cell? ⟨w.heap.size, 4, none⟩ = some (.int .i64 s.cl) := b1.cell 4
 have c5 : w1.cell? ⟨w.heap.size, 5, none⟩ = some (.int .i64 s.un) := b1.cell 5
 have hlt := b1.lt
 have hsz := q1.mod.size
 have HO1 := hide ((unhide HO).mod q1.mod)
 have Q1 := hide q1
 have NE := hide (show ¬ w1.heap.size = w.heap.size by omega)
 clear q1 HN B0 b1
 go_upto_region 3 with fail
 obtain ⟨v1, hv1⟩ := (unhide Q1).ex
 have HN := hide (wnum_w ⟨v1, hv1.box (.cells #[.int .i64 s.st, .int .i64 s.pa, .int .i64 s.cl, .int .i64 s.un] 199)⟩ ((unhide HO1).box _) (by simp only [List.length_append]; omega) (s.st * 4 + s.cl) (by omega))
 have B1 := hide (Has.new w1 #[.int .i64 s.st, .int .i64 s.pa, .int .i64 s.cl, .int .i64 s.un] 199)
 have HO2 := hide ((unhide HO1).box (.cells #[.int .i64 s.st, .int .i64 s.pa, .int .i64 s.cl, .int .i64 s.un] 199))
 clear hv1 c2 c3 c4 c5
 go_wp2_with fail
 refine (unhide HN).mono ?_
 rintro e w2 ⟨rfl, q2⟩
 have b2 := q2.mod.has (unhide B1) (fun q => q.2 rfl)
 have c0 : w2.cell? ⟨w1.heap.size, 0, none⟩ = some (.int .i64 s.st) := b2.cell 0
 have c1 : w2.cell? ⟨w1.heap.size, 1, none⟩ = some (.int .i64 s.pa) := b2.cell 1
 have lt2 := b2.lt
 have HO3 := hide ((unhide HO2).mod q2.mod)
 have Q2 := hide q2
 have B2 := hide b2
 clear q2 b2 HN B1
 by_cases k3 : s.st = 3
 ·have k3b : (s.st != 3) = false := by simp [k3]
  have k1b : (s.st == 1) = false := by simp [k3]
  have K1 := hide (show ¬ s.st = 1 by omega)
  have K3 := hide k3
  clear k3
  have FIN := hide ((unhide Q2).unbox)
  go_wp2
  go_end0
  refine ⟨rfl, ?_⟩
  rw [unhide HF, if_pos (unhide K3), if_neg (unhide K1), List.append_nil, List.append_nil, ← List.append_assoc]
  exact ((unhide FIN).after (unhide Q1).mod (fun _ _ x => x)).unbox
 ·have k3b : (s.st != 3) = true := by simp [k3]
  have K3 := hide k3
  clear k3
  have HN := hide (wnum_w (unhide Q2).ex (unhide HO3) (by simp only [List.length_append]; omega) s.pa (by omega))
  go_wp2_with fail
  refine (unhide HN).mono ?_
  rintro e w3 ⟨rfl, q3⟩
  have b3 := q3.mod.has (unhide B2) (fun q => q.2 rfl)
  have d0 : w3.cell? ⟨w1.heap.size, 0, none⟩ = some (.int .i64 s.st) := b3.cell 0
  have d3 : w3.cell? ⟨w1.heap.size, 3, none⟩ = some (.int .i64 s.un) := b3.cell 3
  have lt3 := b3.lt
  have HO4 := hide ((unhide HO3).mod q3.mod)
  have Q3 := hide (q3.after (unhide Q2).mod (fun _ _ x => x))
  clear q3 b3 HN c0 c1 B2
  by_cases k1 : s.st = 1
  case neg =>
   have k1b : (s.st == 1) = false := by simp [k1]
   have K1 := hide k1
   clear k1
   have FIN := hide ((unhide Q3).unbox)
   go_wp2
   go_end0
   refine ⟨rfl, ?_⟩
   rw [unhide HF, if_neg (unhide K3), if_neg (unhide K1), List.append_nil, ← List.append_assoc, ← List.append_assoc]
   exact ((unhide FIN).after (unhide Q1).mod (fun _ _ x => x)).unbox
  ·have k1b : (s.st == 1) = true := by simp [k1]
   have h6 := (unhide h6) k1
   have K1 := hide k1
   clear k1
   obtain ⟨v3, hv3⟩ := (unhide Q3).ex
   have c0 : w3.cell? ⟨wb, 1, none⟩ = some (.int .i64 now) := hv3.has.cell 1
   have lt4 := hv3.has.lt
   have hw : IntKind.i64.wrap (s.un - now) = s.un - now := wrap_id _ (by omega) (by omega)
   have HN := hide fun n => wnum_w ⟨v3, hv3.mod (S := No) ((Mod.refl No w3).drewN n) (fun _ _ x => x)⟩ ((unhide HO4).mod ((Mod.refl No w3).drewN n)) (by simp only [List.length_append]; omega) (s.un - now) (by omega)
   have HM := hide fun n => (Mod.refl No w3).drewN n
   clear hv3 HO4 HO3 HO2 HO1 HO
   go_wp2_with fail
   go_region_law (refine step_call rfl 109 _ _ rfl #[.pointer (some ⟨wb, 0, none⟩), .int .i64 (s.un - now)] (by simp [Act.eval, Act.put]) (fun W => by kernel_rfl) (.tuple #[]) _ ((unhide HN) 1) ?_; intro w5 hk5)
   all_goals go_wp2
   all_goals go_end0
   all_goals
    refine ⟨rfl, ?_⟩
    rw [unhide HF, if_neg (unhide K3), if_pos (unhide K1), ← List.append_assoc, ← List.append_assoc, ← List.append_assoc]
    have q5 := (hk5.after ((unhide HM) 1) (fun _ _ x => x.elim)).after (unhide Q3).mod (fun _ _ x => x)
    exact (q5.unbox.after (unhide Q1).mod (fun _ _ x => x)).unbox
theorem wta1_1 (v : Value) (w : World) : (Instr.typeAssert (.iface 189 v) 123 189 true).run Tryz.prog w = .ok (.tuple #[v, .bool true]) w := by kernel_rfl
theorem wta2_1 (v : Value) (w : World) : (Instr.typeAssert (.iface 202 v) 123 189 true).run Tryz.prog w = .ok (.tuple #[.agg #[.int .i64 0, .int .i64 0, .int .i64 0, .int .i64 0, .int .i64 0, .int .i64 0, .int .i64 0], .bool false]) w := by kernel_rfl
theorem wta2_2 (v : Value) (w : World) : (Instr.typeAssert (.iface 202 v) 123 202 true).run Tryz.prog w = .ok (.tuple #[v, .bool true]) w := by kernel_rfl
theorem wta3_1 (v : Value) (w : World) : (Instr.typeAssert (.iface 214 v) 123 189 true).run Tryz.prog w = .ok (.tuple #[.agg #[.int .i64 0, .int .i64 0, .int .i64 0, .int .i64 0, .int .i64 0, .int .i64 0, .int .i64 0], .bool false]) w := by kernel_rfl
theorem wta3_2 (v : Value) (w : World) : (Instr.typeAssert (.iface 214 v) 123 202 true).run Tryz.prog w = .ok (.tuple #[.agg #[.int .i64 0, .int .i64 0, .int .i64 0, .int .i64 0, .int .i64 0, .int .i64 0], .bool false]) w := by kernel_rfl
theorem wta3_3 (v : Value) (w : World) : (Instr.typeAssert (.iface 214 v) 123 214 true).run Tryz.prog w = .ok (.tuple #[v, .bool true]) w := by kernel_rfl
theorem wta4_1 (v : Value) (w : World) : (Instr.typeAssert (.iface 216 v) 123 189 true).run Tryz.prog w = .ok (.tuple #[.agg #[.int .i64 0, .int .i64 0, .int .i64 0, .int .i64 0, .int .i64 0, .int .i64 0, .int .i64 0], .bool false]) w := by kernel_rfl
theorem wta4_2 (v : Value) (w : World) : (Instr.typeAssert (.iface 216 v) 123 202 true).run Tryz.prog w = .ok (.tuple #[.agg #[.int .i64 0, .int .i64 0, .int .i64 0, .int .i64 0, .int .i64 0, .int .i64 0], .bool false]) w := by kernel_rfl
theorem wta4_3 (v : Value) (w : World) : (Instr.typeAssert (.iface 216 v) 123 214 true).run Tryz.prog w = .ok (.tuple #[.agg #[.int .i64 0, .int .i64 0], .bool false]) w := by kernel_rfl
theorem wta4_4 (v : Value) (w : World) : (Instr.typeAssert (.iface 216 v) 123 216 true).run Tryz.prog w = .ok (.tuple #[v, .bool true]) w := by kernel_rfl
theorem wta5_1 (v : Value) (w : World) : (Instr.typeAssert (.iface 212 v) 123 189 true).run Tryz.prog w = .ok (.tuple #[.agg #[.int .i64 0, .int .i64 0, .int .i64 0, .int .i64 0, .int .i64 0, .int .i64 0, .int .i64 0], .bool false]) w := by kernel_rfl
theorem wta5_2 (v : Value) (w : World) : (Instr.typeAssert (.iface 212 v) 123 202 true).run Tryz.prog w = .ok (.tuple #[.agg #[.int .i64 0, .int .i64 0, .int .i64 0, .int .i64 0, .int .i64 0, .int .i64 0], .bool false]) w := by kernel_rfl
theorem wta5_3 (v : Value) (w : World) : (Instr.typeAssert (.iface 212 v) 123 214 true).run Tryz.prog w = .ok (.tuple #[.agg #[.int .i64 0, .int .i64 0], .bool false]) w := by kernel_rfl
theorem wta5_4 (v : Value) (w : World) : (Instr.typeAssert (.iface 212 v) 123 216 true).run Tryz.prog w = .ok (.tuple #[.agg #[.int .i64 0, .int .i64 0, .int .i64 0, .int .i64 0], .bool false]) w := by kernel_rfl
theorem wta5_5 (v : Value) (w : World) : (Instr.typeAssert (.iface 212 v) 123 212 true).run Tryz.prog w = .ok (.tuple #[v, .bool true]) w := by kernel_rfl
theorem wta6_1 (v : Value) (w : World) : (Instr.typeAssert (.iface 159 v) 123 189 true).run Tryz.prog w = .ok (.tuple #[.agg #[.int .i64 0, .int .i64 0, .int .i64 0, .int .i64 0, .int .i64 0, .int .i64 0, .int .i64 0], .bool false]) w := by kernel_rfl
theorem wta6_2 (v : Value) (w : World) : (Instr.typeAssert (.iface 159 v) 123 202 true).run Tryz.prog w = .ok (.tuple #[.agg #[.int .i64 0, .int .i64 0, .int .i64 0, .int .i64 0, .int .i64 0, .int .i64 0], .bool false]) w := by kernel_rfl
theorem wta6_3 (v : Value) (w : World) : (Instr.typeAssert (.iface 159 v) 123 214 true).run Tryz.prog w = .ok (.tuple #[.agg #[.int .i64 0, .int .i64 0], .bool false]) w := by kernel_rfl
theorem wta6_4 (v : Value) (w : World) : (Instr.typeAssert (.iface 159 v) 123 216 true).run Tryz.prog w = .ok (.tuple #[.agg #[.int .i64 0, .int .i64 0, .int .i64 0, .int .i64 0], .bool false]) w := by kernel_rfl
theorem wta6_5 (v : Value) (w : World) : (Instr.typeAssert (.iface 159 v) 123 212 true).run Tryz.prog w = .ok (.tuple #[.agg #[.int .i64 0, .int .i64 0, .int .i64 0], .bool false]) w := by kernel_rfl
theorem wta6_6 (v : Value) (w : World) : (Instr.typeAssert (.iface 159 v) 123 159 true).run Tryz.prog w = .ok (.tuple #[v, .bool true]) w := by kernel_rfl
theorem wta7_1 (v : Value) (w : World) : (Instr.typeAssert (.iface 196 v) 123 189 true).run Tryz.prog w = .ok (.tuple #[.agg #[.int .i64 0, .int .i64 0, .int .i64 0, .int .i64 0, .int .i64 0, .int .i64 0, .int .i64 0], .bool false]) w := by kernel_rfl
theorem wta7_2 (v : Value) (w : World) : (Instr.typeAssert (.iface 196 v) 123 202 true).run Tryz.prog w = .ok (.tuple #[.agg #[.int .i64 0, .int .i64 0, .int .i64 0, .int .i64 0, .int .i64 0, .int .i64 0], .bool false]) w := by kernel_rfl
theorem wta7_3 (v : Value) (w : World) : (Instr.typeAssert (.iface 196 v) 123 214 true).run Tryz.prog w = .ok (.tuple #[.agg #[.int .i64 0, .int .i64 0], .bool false]) w := by kernel_rfl
theorem wta7_4 (v : Value) (w : World) : (Instr.typeAssert (.iface 196 v) 123 216 true).run Tryz.prog w = .ok (.tuple #[.agg #[.int .i64 0, .int .i64 0, .int .i64 0, .int .i64 0], .bool false]) w := by kernel_rfl
theorem wta7_5 (v : Value) (w : World) : (Instr.typeAssert (.iface 196 v) 123 212 true).run Tryz.prog w = .ok (.tuple #[.agg #[.int .i64 0, .int .i64 0, .int .i64 0], .bool false]) w := by kernel_rfl
theorem wta7_6 (v : Value) (w : World) : (Instr.typeAssert (.iface 196 v) 123 159 true).run Tryz.prog w = .ok (.tuple #[.agg #[.int .i64 0], .bool false]) w := by kernel_rfl
theorem wta7_7 (v : Value) (w : World) : (Instr.typeAssert (.iface 196 v) 123 196 true).run Tryz.prog w = .ok (.tuple #[v, .bool true]) w := by kernel_rfl
attribute [local go_sem] wta1_1
attribute [local go_sem] wta2_1 wta2_2
attribute [local go_sem] wta3_1 wta3_2 wta3_3
attribute [local go_sem] wta4_1 wta4_2 wta4_3 wta4_4
attribute [local go_sem] wta5_1 wta5_2 wta5_3 wta5_4 wta5_5
attribute [local go_sem] wta6_1 wta6_2 wta6_3 wta6_4 wta6_5 wta6_6
attribute [local go_sem] wta7_1 wta7_2 wta7_3 wta7_4 wta7_5 wta7_6 wta7_7
theorem WrX.box2 {O : Nat → Prop} {w : World} {wb : Nat} {v : Value} {xs : List Int} {now : Int} (h : WrX O w wb v xs now) (o o' : Obj) : WrX (fun k => (O k ∧ k ≠ w.heap.size) ∧ k ≠ w.heap.size + 1) ((w.alloc o).alloc o') wb v xs now := by
 have := (h.box o).box o'
 rw [World.size_alloc] at this
 exact this
theorem Up.box2 {O : Nat → Prop} {w : World} (h : Up O w) (o o' : Obj) : Up (fun k => (O k ∧ k ≠ w.heap.size) ∧ k ≠ w.heap.size + 1) ((w.alloc o).alloc o') := by
 have := (h.box o).box o'
 rw [World.size_alloc] at this
 exact this
theorem Wrote.unbox2 {O : Nat → Prop} {w w2 : World} {wb : Nat} {xs : List Int} {now : Int} {o o' : Obj} (h : Wrote (fun k => (O k ∧ k ≠ w.heap.size) ∧ k ≠ w.heap.size + 1) ((w.alloc o).alloc o') w2 wb xs now) : Wrote O w w2 wb xs now := by
 obtain ⟨⟨v, hx⟩, hm⟩ := h
 exact ⟨⟨v, hx.wide (fun _ q => q.1.1)⟩, ((((Mod.refl No w).alloc o).alloc o').mono (fun _ _ x => x.elim)).trans (hm.mono (fun _ _ q => q.1.1))⟩
theorem Has.new2 (w : World) (o : Obj) (cs : Array Value) (T : TypeId) : Has ((w.alloc o).alloc (.cells cs T)) (w.heap.size + 1) cs T := by
 have := Has.new (w.alloc o) cs T
 rw [World.size_alloc] at this
 exact this
theorem wentry_start {O : Nat → Prop} {w : World} {wb : Nat} {xs : List Int} {now : Int} (h : ∃ v, WrX O w wb v xs now) (hO : Up O w) (hl : xs.length < 1099511627600) (f : Int) (hf : 0 ≤ f ∧ f < 32) (p : Pla) (hp : Pla.fit p) :
  Calls Tryz.prog 110 #[.pointer (some ⟨wb, 0, none⟩), .agg #[.int .i64 f, .iface 189 (.agg #[.int .i64 p.rows, .int .i64 p.cols, .int .i64 p.front, .int .i64 p.l0, .int .i64 p.l1, .int .i64 p.l2, .int .i64 p.l3])]] w fun e w' => e = .returned (.tuple #[]) ∧ Wrote O w w' wb (xs ++ ((32 * 1 + f) :: planeB p)) now := by
 obtain ⟨v, h⟩ := h
 have B1 := hide (Has.new2 w (.cells #[.int .i64 f, .iface 189 (.agg #[.int .i64 p.rows, .int .i64 p.cols, .int .i64 p.front, .int .i64 p.l0, .int .i64 p.l1, .int .i64 p.l2, .int .i64 p.l3])] 125) #[.int .i64 p.rows, .int .i64 p.cols, .int .i64 p.front, .int .i64 p.l0, .int .i64 p.l1, .int .i64 p.l2, .int .i64 p.l3] 189)
 have HO1 := hide (hO.box2 (.cells #[.int .i64 f, .iface 189 (.agg #[.int .i64 p.rows, .int .i64 p.cols, .int .i64 p.front, .int .i64 p.l0, .int .i64 p.l1, .int .i64 p.l2, .int .i64 p.l3])] 125) (.cells #[.int .i64 p.rows, .int .i64 p.cols, .int .i64 p.front, .int .i64 p.l0, .int .i64 p.l1, .int .i64 p.l2, .int .i64 p.l3] 189))
 have HN := hide (whead_w ⟨v, h.box2 (.cells #[.int .i64 f, .iface 189 (.agg #[.int .i64 p.rows, .int .i64 p.cols, .int .i64 p.front, .int .i64 p.l0, .int .i64 p.l1, .int .i64 p.l2, .int .i64 p.l3])] 125) (.cells #[.int .i64 p.rows, .int .i64 p.cols, .int .i64 p.front, .int .i64 p.l0, .int .i64 p.l1, .int .i64 p.l2, .int .i64 p.l3] 189)⟩ (unhide HO1) (by omega) 1 f (by omega) hf)
 clear h hO
 have HPL := hide hp
 clear hp
 go_enter Tryz.func110, Tryz.ntmps110
 go_wp2_with fail
 refine (unhide HN).mono ?_
 rintro e w1 ⟨rfl, q1⟩
 have b1 := q1.mod.has (unhide B1) (fun q => q.2 rfl)
 have c0 : w1.cell? ⟨w.heap.size + 1, 0, none⟩ = some (.int .i64 p.rows) := b1.cell 0
 have c1 : w1.cell? ⟨w.heap.size + 1, 1, none⟩ = some (.int .i64 p.cols) := b1.cell 1
 have c2 : w1.cell? ⟨w.heap.size + 1, 2, none⟩ = some (.int .i64 p.front) := b1.cell 2
 have c3 : w1.cell? ⟨w.heap.size + 1, 3, none⟩ = some (.int .i64 p.l0) := b1.cell 3
 have c4 : w1.cell? ⟨w.heap.size + 1, 4, none⟩ = some (.int .i64 p.l1) := b1.cell 4
 have c5 : w1.cell? ⟨w.heap.size + 1, 5, none⟩ = some (.int .i64 p.l2) := b1.cell 5
 have c6 : w1.cell? ⟨w.heap.size + 1, 6, none⟩ = some (.int .i64 p.l3) := b1.cell 6
 have hlt := b1.lt
 have HO2 := hide ((unhide HO1).mod q1.mod)
 have Q1 := hide q1
 have HN2 := hide (wplane_any q1.ex (unhide HO2) (by simp only [List.length_append, List.length_singleton]; omega) p (unhide HPL))
 clear q1 b1 HN B1
 go_wp2_with fail
 refine (unhide HN2).mono ?_
 rintro e w2 ⟨rfl, q2⟩
 have Q2 := hide ((q2.after (unhide Q1).mod (fun _ _ x => x)).unbox2)
 clear q2 HN2 Q1
 go_wp2
 go_end0
 refine ⟨rfl, ?_⟩
 have q := unhide Q2
 rw [List.append_assoc] at q
 exact q
theorem wentry_fill {O : Nat → Prop} {w : World} {wb : Nat} {xs : List Int} {now : Int} (h : ∃ v, WrX O w wb v xs now) (hO : Up O w) (hl : xs.length < 1099511627600) (f : Int) (hf : 0 ≤ f ∧ f < 32) (s : Sea) (hs : SFit now s) :
  Calls Tryz.prog 110 #[.pointer (some ⟨wb, 0, none⟩), .agg #[.int .i64 f, .iface 202 (.agg #[.int .i64 s.row, .int .i64 s.col, .int .i64 s.st, .int .i64 s.pa, .int .i64 s.cl, .int .i64 s.un])]] w fun e w' => e = .returned (.tuple #[]) ∧ Wrote O w w' wb (xs ++ ((32 * 2 + f) :: fillB now s)) now := by
 obtain ⟨v, h⟩ := h
 have B1 := hide (Has.new2 w (.cells #[.int .i64 f, .iface 202 (.agg #[.int .i64 s.row, .int .i64 s.col, .int .i64 s.st, .int .i64 s.pa, .int .i64 s.cl, .int .i64 s.un])] 125) #[.int .i64 s.row, .int .i64 s.col, .int .i64 s.st, .int .i64 s.pa, .int .i64 s.cl, .int .i64 s.un] 202)
 have HO1 := hide (hO.box2 (.cells #[.int .i64 f, .iface 202 (.agg #[.int .i64 s.row, .int .i64 s.col, .int .i64 s.st, .int .i64 s.pa, .int .i64 s.cl, .int .i64 s.un])] 125) (.cells #[.int .i64 s.row, .int .i64 s.col, .int .i64 s.st, .int .i64 s.pa, .int .i64 s.cl, .int .i64 s.un] 202))
 have HN := hide (whead_w ⟨v, h.box2 (.cells #[.int .i64 f, .iface 202 (.agg #[.int .i64 s.row, .int .i64 s.col, .int .i64 s.st, .int .i64 s.pa, .int .i64 s.cl, .int .i64 s.un])] 125) (.cells #[.int .i64 s.row, .int .i64 s.col, .int .i64 s.st, .int .i64 s.pa, .int .i64 s.cl, .int .i64 s.un] 202)⟩ (unhide HO1) (by omega) 2 f (by omega) hf)
 clear h hO
 have HS := hide hs
 clear hs
 go_enter Tryz.func110, Tryz.ntmps110
 go_wp2_with fail
 refine (unhide HN).mono ?_
 rintro e w1 ⟨rfl, q1⟩
 have b1 := q1.mod.has (unhide B1) (fun q => q.2 rfl)
 have c0 : w1.cell? ⟨w.heap.size + 1, 0, none⟩ = some (.int .i64 s.row) := b1.cell 0
 have c1 : w1.cell? ⟨w.heap.size + 1, 1, none⟩ = some (.int .i64 s.col) := b1.cell 1
 have c2 : w1.cell? ⟨w.heap.size + 1, 2, none⟩ = some (.int .i64 s.st) := b1.cell 2
 have c3 : w1.cell? ⟨w.heap.size + 1, 3, none⟩ = some (.int .i64 s.pa) := b1.cell 3
 have c4 : w1.cell? ⟨w.heap.size + 1, 4, none⟩ = some (.int .i64 s.cl) := b1.cell 4
 have c5 : w1.cell? ⟨w.heap.size + 1, 5, none⟩ = some (.int .i64 s.un) := b1.cell 5
 have hlt := b1.lt
 have HO2 := hide ((unhide HO1).mod q1.mod)
 have Q1 := hide q1
 have HN2 := hide (wfill_any q1.ex (unhide HO2) (by simp only [List.length_append, List.length_singleton]; omega) s (unhide HS))
 clear q1 b1 HN B1
 go_wp2_with fail
 refine (unhide HN2).mono ?_
 rintro e w2 ⟨rfl, q2⟩
 have Q2 := hide ((q2.after (unhide Q1).mod (fun _ _ x => x)).unbox2)
 clear q2 HN2 Q1
 go_wp2
 go_end0
 refine ⟨rfl, ?_⟩
 have q := unhide Q2
 rw [List.append_assoc] at q
 exact q
theorem wentry_empty {O : Nat → Prop} {w : World} {wb : Nat} {xs : List Int} {now : Int} (h : ∃ v, WrX O w wb v xs now) (hO : Up O w) (hl : xs.length < 1099511627600) (f : Int) (hf : 0 ≤ f ∧ f < 32) (r c : Int) (hr : 1 ≤ r ∧ r ≤ 20) (hc : 1 ≤ c ∧ c ≤ 6) :
  Calls Tryz.prog 110 #[.pointer (some ⟨wb, 0, none⟩), .agg #[.int .i64 f, .iface 214 (.agg #[.int .i64 r, .int .i64 c])]] w fun e w' => e = .returned (.tuple #[]) ∧ Wrote O w w' wb (xs ++ ((32 * 3 + f) :: placeB r c)) now := by
 obtain ⟨v, h⟩ := h
 have B1 := hide (Has.new2 w (.cells #[.int .i64 f, .iface 214 (.agg #[.int .i64 r, .int .i64 c])] 125) #[.int .i64 r, .int .i64 c] 214)
 have HO1 := hide (hO.box2 (.cells #[.int .i64 f, .iface 214 (.agg #[.int .i64 r, .int .i64 c])] 125) (.cells #[.int .i64 r, .int .i64 c] 214))
 have HN := hide (whead_w ⟨v, h.box2 (.cells #[.int .i64 f, .iface 214 (.agg #[.int .i64 r, .int .i64 c])] 125) (.cells #[.int .i64 r, .int .i64 c] 214)⟩ (unhide HO1) (by omega) 3 f (by omega) hf)
 clear h hO
 go_enter Tryz.func110, Tryz.ntmps110
 go_wp2_with fail
 refine (unhide HN).mono ?_
 rintro e w1 ⟨rfl, q1⟩
 have b1 := q1.mod.has (unhide B1) (fun q => q.2 rfl)
 have c0 : w1.cell? ⟨w.heap.size + 1, 0, none⟩ = some (.int .i64 r) := b1.cell 0
 have c1 : w1.cell? ⟨w.heap.size + 1, 1, none⟩ = some (.int .i64 c) := b1.cell 1
 have hlt := b1.lt
 have HO2 := hide ((unhide HO1).mod q1.mod)
 have Q1 := hide q1
 have HN2 := hide (wplace_any q1.ex (unhide HO2) (by simp only [List.length_append, List.length_singleton]; omega) r c hr hc)
 clear q1 b1 HN B1
 go_wp2_with fail
 refine (unhide HN2).mono ?_
 rintro e w2 ⟨rfl, q2⟩
 have Q2 := hide ((q2.after (unhide Q1).mod (fun _ _ x => x)).unbox2)
 clear q2 HN2 Q1
 go_wp2
 go_end0
 refine ⟨rfl, ?_⟩
 have q := unhide Q2
 rw [List.append_assoc] at q
 exact q
theorem wentry_shift {O : Nat → Prop} {w : World} {wb : Nat} {xs : List Int} {now : Int} (h : ∃ v, WrX O w wb v xs now) (hO : Up O w) (hl : xs.length < 1099511627600) (f : Int) (hf : 0 ≤ f ∧ f < 32) (r c rt ct : Int) (hr : 1 ≤ r ∧ r ≤ 20) (hc : 1 ≤ c ∧ c ≤ 6) (hr2 : 1 ≤ rt ∧ rt ≤ 20) (hc2 : 1 ≤ ct ∧ ct ≤ 6) :
  Calls Tryz.prog 110 #[.pointer (some ⟨wb, 0, none⟩), .agg #[.int .i64 f, .iface 216 (.agg #[.int .i64 r, .int .i64 c, .int .i64 rt, .int .i64 ct])]] w fun e w' => e = .returned (.tuple #[]) ∧ Wrote O w w' wb (xs ++ ((32 * 4 + f) :: (placeB r c ++ placeB rt ct))) now := by
 obtain ⟨v, h⟩ := h
 have B1 := hide (Has.new2 w (.cells #[.int .i64 f, .iface 216 (.agg #[.int .i64 r, .int .i64 c, .int .i64 rt, .int .i64 ct])] 125) #[.int .i64 r, .int .i64 c, .int .i64 rt, .int .i64 ct] 216)
 have HO1 := hide (hO.box2 (.cells #[.int .i64 f, .iface 216 (.agg #[.int .i64 r, .int .i64 c, .int .i64 rt, .int .i64 ct])] 125) (.cells #[.int .i64 r, .int .i64 c, .int .i64 rt, .int .i64 ct] 216))
 have HN := hide (whead_w ⟨v, h.box2 (.cells #[.int .i64 f, .iface 216 (.agg #[.int .i64 r, .int .i64 c, .int .i64 rt, .int .i64 ct])] 125) (.cells #[.int .i64 r, .int .i64 c, .int .i64 rt, .int .i64 ct] 216)⟩ (unhide HO1) (by omega) 4 f (by omega) hf)
 clear h hO
 have l1 : (placeB r c).length ≤ 9 := (numB_len _).2
 go_enter Tryz.func110, Tryz.ntmps110
 go_wp2_with fail
 refine (unhide HN).mono ?_
 rintro e w1 ⟨rfl, q1⟩
 have b1 := q1.mod.has (unhide B1) (fun q => q.2 rfl)
 have c0 : w1.cell? ⟨w.heap.size + 1, 0, none⟩ = some (.int .i64 r) := b1.cell 0
 have c1 : w1.cell? ⟨w.heap.size + 1, 1, none⟩ = some (.int .i64 c) := b1.cell 1
 have c2 : w1.cell? ⟨w.heap.size + 1, 2, none⟩ = some (.int .i64 rt) := b1.cell 2
 have c3 : w1.cell? ⟨w.heap.size + 1, 3, none⟩ = some (.int .i64 ct) := b1.cell 3
 have hlt := b1.lt
 have HO2 := hide ((unhide HO1).mod q1.mod)
 have Q1 := hide q1
 have HN2 := hide (wplace_any q1.ex (unhide HO2) (by simp only [List.length_append, List.length_singleton]; omega) r c hr hc)
 have BB := hide b1
 clear q1 b1 HN B1
 go_wp2_with fail
 refine (unhide HN2).mono ?_
 rintro e w2 ⟨rfl, q2⟩
 have b2 := q2.mod.has (unhide BB) (fun q => q.2 rfl)
 have d2 : w2.cell? ⟨w.heap.size + 1, 2, none⟩ = some (.int .i64 rt) := b2.cell 2
 have d3 : w2.cell? ⟨w.heap.size + 1, 3, none⟩ = some (.int .i64 ct) := b2.cell 3
 have hlt2 := b2.lt
 have HN3 := hide (wplace_any q2.ex ((unhide HO2).mod q2.mod) (by simp only [List.length_append, List.length_singleton]; omega) rt ct hr2 hc2)
 have Q2 := hide (q2.after (unhide Q1).mod (fun _ _ x => x))
 clear q2 b2 HN2 Q1 BB c0 c1 c2 c3
 go_wp2_with fail
 refine (unhide HN3).mono ?_
 rintro e w3 ⟨rfl, q3⟩
 have Q3 := hide ((q3.after (unhide Q2).mod (fun _ _ x => x)).unbox2)
 clear q3 HN3 Q2
 go_wp2
 go_end0
 refine ⟨rfl, ?_⟩
 have q := unhide Q3
 rw [List.append_assoc, List.append_assoc] at q
 exact q
theorem wentry_refit {O : Nat → Prop} {w : World} {wb : Nat} {xs : List Int} {now : Int} (h : ∃ v, WrX O w wb v xs now) (hO : Up O w) (hl : xs.length < 1099511627600) (f : Int) (hf : 0 ≤ f ∧ f < 32) (r c k : Int) (hr : 0 ≤ r ∧ r < 9223372036854775808) (hc : 0 ≤ c ∧ c < 9223372036854775808) (hk : 0 ≤ k ∧ k < 9223372036854775808) :
  Calls Tryz.prog 110 #[.pointer (some ⟨wb, 0, none⟩), .agg #[.int .i64 f, .iface 212 (.agg #[.int .i64 r, .int .i64 c, .int .i64 k])]] w fun e w' => e = .returned (.tuple #[]) ∧ Wrote O w w' wb (xs ++ ((32 * 5 + f) :: (numB r ++ numB c ++ numB k))) now := by
 obtain ⟨v, h⟩ := h
 have B1 := hide (Has.new2 w (.cells #[.int .i64 f, .iface 212 (.agg #[.int .i64 r, .int .i64 c, .int .i64 k])] 125) #[.int .i64 r, .int .i64 c, .int .i64 k] 212)
 have HO1 := hide (hO.box2 (.cells #[.int .i64 f, .iface 212 (.agg #[.int .i64 r, .int .i64 c, .int .i64 k])] 125) (.cells #[.int .i64 r, .int .i64 c, .int .i64 k] 212))
 have HN := hide (whead_w ⟨v, h.box2 (.cells #[.int .i64 f, .iface 212 (.agg #[.int .i64 r, .int .i64 c, .int .i64 k])] 125) (.cells #[.int .i64 r, .int .i64 c, .int .i64 k] 212)⟩ (unhide HO1) (by omega) 5 f (by omega) hf)
 clear h hO
 go_enter Tryz.func110, Tryz.ntmps110
 go_wp2_with fail
 refine (unhide HN).mono ?_
 rintro e w1 ⟨rfl, q1⟩
 have b1 := q1.mod.has (unhide B1) (fun q => q.2 rfl)
 have c0 : w1.cell? ⟨w.heap.size + 1, 0, none⟩ = some (.int .i64 r) := b1.cell 0
 have c1 : w1.cell? ⟨w.heap.size + 1, 1, none⟩ = some (.int .i64 c) := b1.cell 1
 have c2 : w1.cell? ⟨w.heap.size + 1, 2, none⟩ = some (.int .i64 k) := b1.cell 2
 have hlt := b1.lt
 have HO2 := hide ((unhide HO1).mod q1.mod)
 have Q1 := hide q1
 have HN2 := hide (wshape_any q1.ex (unhide HO2) (by simp only [List.length_append, List.length_singleton]; omega) r c k hr hc hk)
 clear q1 b1 HN B1
 go_wp2_with fail
 refine (unhide HN2).mono ?_
 rintro e w2 ⟨rfl, q2⟩
 have Q2 := hide ((q2.after (unhide Q1).mod (fun _ _ x => x)).unbox2)
 clear q2 HN2 Q1
 go_wp2
 go_end0
 refine ⟨rfl, ?_⟩
 have q := unhide Q2
 rw [List.append_assoc] at q
 exact q
theorem wentry_pass {O : Nat → Prop} {w : World} {wb : Nat} {xs : List Int} {now : Int} (h : ∃ v, WrX O w wb v xs now) (hO : Up O w) (hl : xs.length < 1099511627600) (f : Int) (nw : Int) (hn : 0 ≤ now ∧ now ≤ nw ∧ nw ≤ 4611686018427387904) :
  Calls Tryz.prog 110 #[.pointer (some ⟨wb, 0, none⟩), .agg #[.int .i64 f, .iface 159 (.agg #[.int .i64 nw])]] w fun e w' => e = .returned (.tuple #[]) ∧ Wrote O w w' wb (xs ++ (192 :: numB (nw - now))) nw := by
 obtain ⟨v, h⟩ := h
 have B1 := hide (Has.new2 w (.cells #[.int .i64 f, .iface 159 (.agg #[.int .i64 nw])] 125) #[.int .i64 nw] 159)
 have HO1 := hide (hO.box2 (.cells #[.int .i64 f, .iface 159 (.agg #[.int .i64 nw])] 125) (.cells #[.int .i64 nw] 159))
 have HN := hide (whead_w ⟨v, h.box2 (.cells #[.int .i64 f, .iface 159 (.agg #[.int .i64 nw])] 125) (.cells #[.int .i64 nw] 159)⟩ (unhide HO1) (by omega) 6 0 (by omega) (by omega))
 clear h hO
 go_enter Tryz.func110, Tryz.ntmps110
 go_wp2_with fail
 refine (unhide HN).mono ?_
 rintro e w1 ⟨rfl, q1⟩
 have b1 := q1.mod.has (unhide B1) (fun q => q.2 rfl)
 have c0 : w1.cell? ⟨w.heap.size + 1, 0, none⟩ = some (.int .i64 nw) := b1.cell 0
 have hlt := b1.lt
 have HO2 := hide ((unhide HO1).mod q1.mod)
 have Q1 := hide q1
 obtain ⟨v1, hv1⟩ := q1.ex
 have d1 : w1.cell? ⟨wb, 1, none⟩ = some (.int .i64 now) := hv1.has.cell 1
 have lt4 := hv1.has.lt
 have hw : IntKind.i64.wrap (nw - now) = nw - now := wrap_id _ (by omega) (by omega)
 have HN2 := hide (wnum_w ⟨v1, hv1.mod (S := No) ((Mod.refl No w1).drewN 1) (fun _ _ x => x)⟩ ((unhide HO2).mod ((Mod.refl No w1).drewN 1)) (by simp only [List.length_append, List.length_singleton]; omega) (nw - now) (by omega))
 have HM := hide ((Mod.refl No w1).drewN 1)
 have BB := hide b1
 clear hv1 q1 b1 HN B1
 go_wp2_with fail
 go_region_law (refine step_call rfl 109 _ _ rfl #[.pointer (some ⟨wb, 0, none⟩), .int .i64 (nw - now)] (by simp [Act.eval, Act.put]) (fun W => by kernel_rfl) (.tuple #[]) _ (unhide HN2) ?_; intro w2 q2; have b2 := (unhide HM |>.mono (S' := fun k => (O k ∧ k ≠ w.heap.size) ∧ k ≠ w.heap.size + 1) (fun _ _ x => x.elim) |>.trans q2.mod).has (unhide BB) (fun q => q.2 rfl); have e0 : w2.cell? ⟨w.heap.size + 1, 0, none⟩ = some (.int .i64 nw) := b2.cell 0; have hlt2 := b2.lt; obtain ⟨v2, hv2⟩ := q2.ex; obtain ⟨a2, s2, rfl⟩ := slice_of_owns hv2.row; have g1 : w2.cell? ⟨wb, 1, none⟩ = some (.int .i64 now) := hv2.has.cell 1; have gf := hv2.has.frozen; have gl := hv2.has.lt; have Q2 := hide (q2.mod); have HV2 := hide hv2; clear q2 b2 hv2)
 all_goals go_wp2
 all_goals go_end0
 all_goals
  refine ⟨rfl, ?_⟩
  have hv2 := unhide HV2
  have hset : WrX (fun k => (O k ∧ k ≠ w.heap.size) ∧ k ≠ w.heap.size + 1) (w2.setCell ⟨wb, 1, none⟩ (.int .i64 nw)) wb _ (xs ++ [32 * 6 + 0] ++ numB (nw - now)) nw := ⟨hv2.has.set 1 _, owns_setCell_ne hv2.row (fun e => (hv2.own wb e).2 rfl) _, hv2.own, hv2.ge, hv2.len⟩
  have m2 := (((unhide Q1).mod.trans ((unhide HM).mono (fun _ _ x => x.elim))).trans (unhide Q2)).setCell (p := ⟨wb, 1, none⟩) (.inl hv2.ge) (.int .i64 nw)
  rw [List.append_assoc] at hset
  exact Wrote.unbox2 ⟨⟨_, hset⟩, m2⟩
end Go.Proofs.YthhibagcpjeihaaGreat
