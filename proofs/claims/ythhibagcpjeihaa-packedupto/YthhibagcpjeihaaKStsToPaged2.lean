import Derived.Test.YthhibagcpjeihaaKPg4ToPg6
import Derived.Test.YthhibagcpjeihaaKKplToPg3
import Derived.Test.YthhibagcpjeihaaKKeepGToPTape2
import Derived.Test.YthhibagcpjeihaaKReckonToPut2
import Derived.Deep.DeepCutAuto
import Derived.Great.BuildSlice
import Derived.Test.YthhibagcpjeihaaKBaseToAppend
import Derived.Test.YthhibagcpjeihaaKOpn3ToKeep8
import Derived.Test.YthhibagcpjeihaaKRd3ToSeat
import Derived.Handy
namespace Go.Proofs.Ythhibagcpjeihaa
open Go.RowKit
open M
set_option linter.unusedVariables false
set_option linter.unusedSimpArgs false
set_option maxRecDepth 100000
set_option maxHeartbeats 4000000
def curAt (p : Pla) (l : List Sea) (k : Nat) : Int × Int × Int := if k = 0 then (0, 0, 0) else match l[k - 1]? with
 | some s => (s.row, s.col, p.ep)
 | none => (0, 0, 0)
theorem curAt_succ (p : Pla) (l : List Sea) (k : Nat) (hk : k < l.length) : curAt p l (k + 1) = (l[k].row, l[k].col, p.ep) := by
 unfold curAt
 rw [if_neg (by omega), Nat.add_sub_cancel, List.getElem?_eq_getElem hk]
theorem behind_cur {p : Pla} {l : List Sea} (hwf : Wf p l) (k : Nat) (hk : k ≤ l.length) : behindK p (curAt p l k).1 (curAt p l k).2.1 (curAt p l k).2.2 = ((k : Int), 0) := by
 cases k with
 | zero => rfl
 | succ k =>
  rw [curAt_succ p l k hk]
  obtain ⟨h1, h2⟩ := Fli.wf.place_has hwf (i := k) hk
  simp only at h1 h2
  have h3 := h1
  simp only [Pla.has, decide_eq_true_eq] at h3
  unfold behindK
  rw [if_neg (by omega), if_neg (by simp), if_neg (by simp [h1]), h2]
  simp
theorem pageK_cur {p : Pla} {l : List Sea} (hwf : Wf p l) (k S : Nat) (hk : k ≤ l.length) (hS : 1 ≤ S ∧ S ≤ 30) :
  pageK p l (curAt p l k).1 (curAt p l k).2.1 (curAt p l k).2.2 (S : Int) = ⟨(l.drop k).take S, (lastAt (curAt p l k).1 (curAt p l k).2.1 ((l.drop k).take S)).1, (lastAt (curAt p l k).1 (curAt p l k).2.1 ((l.drop k).take S)).2, p.ep, decide (k + ((l.drop k).take S).length < l.length), 0⟩ := by
 unfold pageK
 rw [if_neg (by omega), behind_cur hwf k hk]
 simp
theorem pageK_more {p : Pla} {l : List Sea} (hwf : Wf p l) (k S : Nat) (hS : 1 ≤ S ∧ S ≤ 30) (hm : k + S < l.length) :
  pageK p l (curAt p l k).1 (curAt p l k).2.1 (curAt p l k).2.2 (S : Int) = ⟨(l.drop k).take S, (curAt p l (k + S)).1, (curAt p l (k + S)).2.1, p.ep, true, 0⟩ ∧ (curAt p l (k + S)).2.2 = p.ep ∧ ((l.drop k).take S).length = S ∧ l.take k ++ (l.drop k).take S = l.take (k + S) := by
 have hlen : ((l.drop k).take S).length = S := by rw [List.length_take, List.length_drop]; omega
 obtain ⟨T, rfl⟩ : ∃ T, S = T + 1 := ⟨S - 1, by omega⟩
 have hlast : ((l.drop k).take (T + 1)).getLast? = some l[k + T] := by
  rw [List.getLast?_eq_getElem?, hlen, Nat.add_sub_cancel, List.getElem?_take, if_pos (by omega), List.getElem?_drop, List.getElem?_eq_getElem (by omega)]
 rw [pageK_cur hwf k (T + 1) (by omega) hS, hlen, show k + (T + 1) = (k + T) + 1 by omega, curAt_succ p l (k + T) (by omega)]
 refine ⟨?_, rfl, rfl, ?_⟩
 ·unfold lastAt
  rw [hlast]
  simp
  omega
 ·exact List.take_add.symm
theorem pageK_last {p : Pla} {l : List Sea} (hwf : Wf p l) (k S : Nat) (hS : 1 ≤ S ∧ S ≤ 30) (hk : k ≤ l.length) (hm : l.length ≤ k + S) : ∃ r c,
  pageK p l (curAt p l k).1 (curAt p l k).2.1 (curAt p l k).2.2 (S : Int) = ⟨l.drop k, r, c, p.ep, false, 0⟩ := by
 have hD : (l.drop k).take S = l.drop k := List.take_of_length_le (by rw [List.length_drop]; omega)
 rw [pageK_cur hwf k S hk hS, hD]
 have : decide (k + (l.drop k).length < l.length) = false := by simp; omega
 rw [this]
 exact ⟨_, _, rfl⟩
structure SeI (w wr : World) (p : Pla) (l : List Sea) (k : Nat) (v : Value) : Prop where
 row : wr.ownsRow 0 61 6 v k ((l.take k).flatMap seaL)
 cur : Has wr w.heap.size #[.int .i64 (curAt p l k).1, .int .i64 (curAt p l k).2.1, .int .i64 (curAt p l k).2.2] 63
 new : ∀ j, v.ownBlock = some j → w.heap.size < j
 mod : Mod No w wr
structure SeatsTold (w w' : World) (e : Ending) (l : List Sea) : Prop where
 ex : ∃ a c, e = .returned (.tuple #[.slice a l.length c, .bool true]) ∧ w'.ownsRow 0 61 6 (.slice a l.length c) l.length (l.flatMap seaL) ∧ ∀ k, (Value.slice a l.length c).ownBlock = some k → w.heap.size ≤ k
 mod : Mod No w w'
theorem SeI.put {w w2 w3 : World} {p : Pla} {l : List Sea} {k : Nat} {v v' : Value} {o : Obj} (h : SeI w w2 p l k v) (hg : (w2.alloc o).grownBy w3 v.ownBlock) (hs : Stays (w2.alloc o) v v') :
  Mod (fun j => v.ownBlock = some j) w2 w3 ∧ (∀ j, v'.ownBlock = some j → w.heap.size < j) := by
 refine ⟨((Mod.refl _ w2).alloc o).grown hg (fun k hk => .inl hk), fun j hj => ?_⟩
 have := h.cur.lt
 rcases hs j hj with h1 | h1
 ·exact h.new j h1
 ·simp at h1; omega
theorem SeI.next {w w2 w3 : World} {p : Pla} {l D : List Sea} {k S : Nat} {v v' : Value} {o : Obj} (h : SeI w w2 p l k v) (hg : (w2.alloc o).grownBy w3 v.ownBlock) (hs : Stays (w2.alloc o) v v') (ho : w3.ownsRow 0 61 6 v' (k + S) ((l.take k).flatMap seaL ++ D.flatMap seaL))
  (e4 : l.take k ++ D = l.take (k + S)) (e2 : (curAt p l (k + S)).2.2 = p.ep) :
  SeI w (((w3.setCell ⟨w.heap.size, 0, none⟩ (.int .i64 (curAt p l (k + S)).1)).setCell ⟨w.heap.size, 1, none⟩ (.int .i64 (curAt p l (k + S)).2.1)).setCell ⟨w.heap.size, 2, none⟩ (.int .i64 p.ep)) p l (k + S) v' := by
 obtain ⟨hm, hn⟩ := h.put hg hs
 have m2 : Mod (fun j => j = w.heap.size) w3 (((w3.setCell ⟨w.heap.size, 0, none⟩ (.int .i64 (curAt p l (k + S)).1)).setCell ⟨w.heap.size, 1, none⟩ (.int .i64 (curAt p l (k + S)).2.1)).setCell ⟨w.heap.size, 2, none⟩ (.int .i64 p.ep)) := (((Mod.refl _ w3).at 0 _).at 1 _).at 2 _
 have hc := hm.has h.cur (fun e => by have := h.new _ e; omega)
 refine ⟨?_, ?_, hn, ?_⟩
 ·rw [← e4, List.flatMap_append]
  exact m2.owns ho (fun j hj e => by have := hn j hj; omega)
 ·rw [e2]
  exact ((hc.set 0 _).set 1 _).set 2 _
 ·exact (h.mod.trans' hm (fun i hi hl => (show False from by have := h.new i hi; omega))).trans' m2 (fun i hi hl => (show False from by omega))
theorem seatsAll_walk {w : World} {p : Pla} {l : List Sea} (hwf : Wf p l) (kb : Nat) (n : Int) (S : Nat) (hS : 1 ≤ S ∧ S ≤ 30)
  (hSt : ∀ W, Mod No w W → ∀ r c e, Calls Try.prog 27 #[.pointer (some ⟨kb, 0, none⟩), .int .i64 n, .agg #[.int .i64 r, .int .i64 c, .int .i64 e], .int .i64 (S : Int)] W fun e' w' => Told W w' e' (pageK p l r c e S)) :
  Calls Try.prog 20 #[.pointer (some ⟨kb, 0, none⟩), .int .i64 n, .int .i64 (S : Int)] w fun e w' => SeatsTold w w' e l := by
 have hl120 : l.length ≤ 120 := Fli.wf.len_le hwf
 have hBd := hwf.bounds
 simp only at hBd
 have hlen := hwf.len
 simp only at hlen
 have hpos : 0 < l.length := by
  have : 0 < p.rows * p.cols := Int.mul_pos (by omega) (by omega)
  omega
 have HST := hide hSt
 have HWF := hide hwf
 have I0 := hide (⟨World.ownsRow_nil _ _ _ _, Has.new w _ _, fun j hj => by simp [Value.ownBlock] at hj, (Mod.refl _ w).alloc _⟩ : SeI w (w.alloc (.cells #[.int .i64 0, .int .i64 0, .int .i64 0] 63)) p l 0 (.slice none 0 0))
 obtain ⟨i114, q0, q1, q2, q3⟩ := info_parts info114
 have HONE : Hid (∀ D : List Sea, ∀ u ∈ D.flatMap seaL, u.oneCell' = true) := hide fun D u hu => by
  rw [List.mem_flatMap] at hu
  obtain ⟨s, _, hu⟩ := hu
  simp [seaL, seaV] at hu
  rcases hu with rfl | rfl | rfl | rfl | rfl | rfl <;> rfl
 clear hSt hwf hBd hlen
 go_enter Try.func20, Try.ntmps20
 go_wp2_with fail
 go_loopw [8, 10] (fun s8 s10 wr => ∃ (i k : Nat), s10 = .int .i64 (i : Int) ∧ i ≤ k ∧ k < l.length ∧ Hid (SeI w wr p l k s8)) (fun _ s10 _ => 200 - (intOf s10).toNat)
 case atStart => exact ⟨0, 0, rfl, Nat.le_refl _, hpos, I0⟩
 case round =>
  obtain ⟨i, k, rfl, hik, hkl, I⟩ := hrel
  obtain ⟨a1, c1, rfl⟩ := slice_of_owns (unhide I).row
  have hi200 : (i : Int) < 200 := by omega
  have hw1 : IntKind.i64.wrap ((i : Int) + 1) = ((i + 1 : Nat) : Int) := by rw [wrap_id _ (by omega) (by omega)]; rfl
  have cc := (unhide I).cur.cell
  have lc := (unhide I).cur.lt
  have fc := (unhide I).cur.frozen
  by_cases hm : k + S < l.length
  ·obtain ⟨e1, e2, e3, e4⟩ := pageK_more (unhide HWF) k S hS hm
   have HP := hide (show Calls Try.prog 27 #[.pointer (some ⟨kb, 0, none⟩), .int .i64 n, .agg #[.int .i64 (curAt p l k).1, .int .i64 (curAt p l k).2.1, .int .i64 (curAt p l k).2.2], .int .i64 (S : Int)] wr fun e' w' => Told wr w' e' ⟨(l.drop k).take S, (curAt p l (k + S)).1, (curAt p l (k + S)).2.1, p.ep, true, 0⟩ from by
    rw [← e1]
    exact (unhide HST) wr (unhide I).mod _ _ _)
   generalize (l.drop k).take S = D at *
   have E2 := hide e2
   have E4 := hide e4
   have g1 : ¬ ((S : Int) > (S : Int)) := by omega
   have g2 : ¬ ((S : Int) < (S : Int)) := by omega
   clear e1 e2 e4
   go_wp2_with fail
   refine (unhide HP).mono ?_
   rintro e5 w5 ⟨⟨v5, rfl, ho5, hn5⟩, m5⟩
   simp only [e3] at ho5
   obtain ⟨a5, c5, rfl⟩ := slice_of_owns ho5
   have I5 := hide (show SeI w w5 p l k (.slice a1 k c1) from ⟨m5.owns (unhide I).row (fun _ _ x => x), m5.has (unhide I).cur (fun x => x), (unhide I).new, (unhide I).mod.trans m5⟩)
   have cc5 := (unhide I5).cur.cell
   have lc5 := (unhide I5).cur.lt
   have fc5 := (unhide I5).cur.frozen
   have mA : Mod No w5 (w5.alloc (.cells #[.slice a5 S c5, .int .i64 (curAt p l (k + S)).1, .int .i64 (curAt p l (k + S)).2.1, .int .i64 p.ep, .bool true] 65)) := (Mod.refl _ w5).alloc _
   have HROW := hide (mA.owns (unhide I5).row (fun _ _ x => x))
   have HREAD := hide (reads_of_owns (mA.owns ho5 (fun _ _ x => x)))
   have HO5 := hide ho5
   have PG := Has.new w5 #[.slice a5 S c5, .int .i64 (curAt p l (k + S)).1, .int .i64 (curAt p l (k + S)).2.1, .int .i64 p.ep, .bool true] 65
   have HPG := hide PG
   have HCC := hide (mA.has (unhide I5).cur (fun x => x))
   have HLEN := hide (show (D.flatMap seaL).length = S * 6 from by rw [flat_len 6 seaL seaL_len D, e3])
   have HNE := hide (show Option.some w.heap.size ≠ (Value.slice a1 k c1).ownBlock from fun e => by have := (unhide I).new _ e.symm; omega)
   have HNE2 := hide (show Option.some w5.heap.size ≠ (Value.slice a1 k c1).ownBlock from fun e => by have := owns_lt (unhide I5).row _ e.symm; omega)
   clear mA ho5 hn5 m5 HP HST I0 PG
   go_wp2_with (first | (at_builtin; refine wpList_append_row rfl (.tmp 45) (.tmp 47) 48 rfl 61 i114 _ 6 48 Try.underlying48 q0 q1 q2 q3 rfl (by decide) (.slice a1 k c1) k _ (by simp [Act.eval]) (by exact unhide HROW) (.slice a5 S c5) S (D.flatMap seaL) (by simp [Act.eval]) (by exact unhide HREAD) (unhide HLEN) ((unhide HONE) D) (by unfold maxLen; omega) (by omega) ?_; intro v6 w6 ho6 hg6 hs6; obtain ⟨a6, c6, rfl⟩ := slice_of_owns ho6; have cc6 := (Has.grown (unhide HCC) hg6 (unhide HNE)).cell; have fc6 := (Has.grown (unhide HCC) hg6 (unhide HNE)).frozen; have lc6 := (Has.grown (unhide HCC) hg6 (unhide HNE)).lt; have pc6 := (Has.grown (unhide HPG) hg6 (unhide HNE2)).cell; have pl6 := (Has.grown (unhide HPG) hg6 (unhide HNE2)).lt))
   have hS6 := (unhide I5).next hg6 hs6 ho6 (unhide E4) (unhide E2)
   exact ⟨⟨i + 1, k + S, rfl, by omega, by omega, hide hS6⟩, by simp [intOf]; omega⟩
  ·obtain ⟨r1, r2, e1⟩ := pageK_last (unhide HWF) k S hS (by omega) (by omega)
   have HP := hide (show Calls Try.prog 27 #[.pointer (some ⟨kb, 0, none⟩), .int .i64 n, .agg #[.int .i64 (curAt p l k).1, .int .i64 (curAt p l k).2.1, .int .i64 (curAt p l k).2.2], .int .i64 (S : Int)] wr fun e' w' => Told wr w' e' ⟨l.drop k, r1, r2, p.ep, false, 0⟩ from by
    rw [← e1]
    exact (unhide HST) wr (unhide I).mod _ _ _)
   obtain ⟨L, hL⟩ : ∃ L, L = (l.drop k).length := ⟨_, rfl⟩
   have hL2 := hL
   rw [List.length_drop] at hL2
   have g1 : ¬ ((L : Int) > (S : Int)) := by omega
   have g2 : ¬ (S < L) := by omega
   have HL2 := hide hL2
   have HKL := hide (show k + L = l.length ∧ L ≤ 120 from by omega)
   clear e1 hL2
   go_wp2_with fail
   refine (unhide HP).mono ?_
   rintro e5 w5 ⟨⟨v5, rfl, ho5, hn5⟩, m5⟩
   simp only [← hL] at ho5
   obtain ⟨a5, c5, rfl⟩ := slice_of_owns ho5
   have I5 := hide (show SeI w w5 p l k (.slice a1 k c1) from ⟨m5.owns (unhide I).row (fun _ _ x => x), m5.has (unhide I).cur (fun x => x), (unhide I).new, (unhide I).mod.trans m5⟩)
   have mA : Mod No w5 (w5.alloc (.cells #[.slice a5 L c5, .int .i64 r1, .int .i64 r2, .int .i64 p.ep, .bool false] 65)) := (Mod.refl _ w5).alloc _
   have HROW := hide (mA.owns (unhide I5).row (fun _ _ x => x))
   have HREAD := hide (reads_of_owns (mA.owns ho5 (fun _ _ x => x)))
   have PG := Has.new w5 #[.slice a5 L c5, .int .i64 r1, .int .i64 r2, .int .i64 p.ep, .bool false] 65
   have HPG := hide PG
   have HCC := hide (mA.has (unhide I5).cur (fun x => x))
   have HLEN := hide (show ((l.drop k).flatMap seaL).length = L * 6 from by rw [flat_len 6 seaL seaL_len (l.drop k), hL])
   have HNE := hide (show Option.some w.heap.size ≠ (Value.slice a1 k c1).ownBlock from fun e => by have := (unhide I).new _ e.symm; omega)
   have HNE2 := hide (show Option.some w5.heap.size ≠ (Value.slice a1 k c1).ownBlock from fun e => by have := owns_lt (unhide I5).row _ e.symm; omega)
   clear mA ho5 hn5 m5 HP HST I0 PG hL
   go_wp2_with (first | (at_builtin; refine wpList_append_row rfl (.tmp 45) (.tmp 47) 48 rfl 61 i114 _ 6 48 Try.underlying48 q0 q1 q2 q3 rfl (by decide) (.slice a1 k c1) k _ (by simp [Act.eval]) (by exact unhide HROW) (.slice a5 L c5) L ((l.drop k).flatMap seaL) (by simp [Act.eval]) (by exact unhide HREAD) (unhide HLEN) ((unhide HONE) _) (by unfold maxLen; have := unhide HKL; omega) (by have := unhide HKL; omega) ?_; intro v6 w6 ho6 hg6 hs6; obtain ⟨a6, c6, rfl⟩ := slice_of_owns ho6; have cc6 := (Has.grown (unhide HCC) hg6 (unhide HNE)).cell; have fc6 := (Has.grown (unhide HCC) hg6 (unhide HNE)).frozen; have lc6 := (Has.grown (unhide HCC) hg6 (unhide HNE)).lt; have pc6 := (Has.grown (unhide HPG) hg6 (unhide HNE2)).cell; have pl6 := (Has.grown (unhide HPG) hg6 (unhide HNE2)).lt))
   go_ret2
   obtain ⟨hm6, hn6⟩ := (unhide I5).put hg6 hs6
   rw [← List.flatMap_append, List.take_append_drop, (unhide HKL).1] at ho6
   rw [(unhide HKL).1] at hn6 ⊢
   have m2 : Mod (fun j => j = w.heap.size) w6 (((w6.setCell ⟨w.heap.size, 0, none⟩ (.int .i64 r1)).setCell ⟨w.heap.size, 1, none⟩ (.int .i64 r2)).setCell ⟨w.heap.size, 2, none⟩ (.int .i64 p.ep)) := (((Mod.refl _ w6).at 0 _).at 1 _).at 2 _
   refine ⟨⟨a6, c6, rfl, m2.owns ho6 (fun j hj e => by have := hn6 j hj; omega), fun j hj => Nat.le_of_lt (hn6 j hj)⟩, ?_⟩
   exact ((unhide I5).mod.trans' hm6 (fun i hi hl => (show False from by have := (unhide I5).new i hi; omega))).trans' m2 (fun i hi hl => (show False from by omega))
set_option maxHeartbeats 400000
def totN (p : Pla) (l : List Sea) : Nat → Int
 | 0 => cA p l 0 | 1 => cA p l 1 | 2 => cA p l 2 | 3 => cA p l 3
 | 4 => cB p l 0 | 5 => cB p l 1 | 6 => cB p l 2 | 7 => cB p l 3
 | 8 => cS l 0 | 9 => cS l 1 | 10 => cS l 2 | 11 => cS l 3
 | _ => 0
def seaN (s : Sea) : Nat → Int
 | 0 => s.row | 1 => s.col | 2 => s.st | 3 => s.pa | 4 => s.cl | 5 => s.un
 | _ => 0
def cntF (fl : Fls) (n t : Nat) : Int := match fl n with
 | none => 0
 | some x => totN x.1 x.2 t
def seaF (l : List Sea) (i t : Nat) : Int := match l[i]? with
 | none => 0
 | some s => seaN s t
def setF (fl : Fls) (n i t : Nat) : Int := match fl n with
 | none => 0
 | some x => seaF x.2 i t
def allG (now : Int) (lf : Nat → Int) (c : Nat → Nat → Int) (s : Nat → Nat → Nat → Int) (j : Nat) : Int :=
 if j = 0 then now else if j < 253 then c ((j - 1) / 12) ((j - 1) % 12) else if j < 337 then lf (j - 253) else s ((j - 337) / 720) ((j - 337) % 720 / 6) ((j - 337) % 6)
def allF (now : Int) (fl : Fls) : Nat → Int := allG now (leftT fl) (cntF fl) (setF fl)
theorem sizeA : (Try.prog.info? 85).map (·.size) = some 15457 := by kernel_rfl
theorem rowA : (Try.prog.underlying 85).map (·.isRow) = some true := by kernel_rfl
theorem zeroA : Try.zeroCells85 = tab (fun _ => 0) 15457 := by kernel_rfl
theorem allG_cnt {now : Int} {lf : Nat → Int} {c : Nat → Nat → Int} {s : Nat → Nat → Nat → Int} (n t : Nat) (hn : n < 21) (ht : t < 12) (v : Int) :
  (fun j => if j = 1 + n * 12 + t then v else allG now lf c s j) = allG now lf (fun a b => if a = n ∧ b = t then v else c a b) s := by
 funext j
 unfold allG
 by_cases h0 : j = 0
 ·rw [if_neg (by omega), if_pos h0, if_pos h0]
 rw [if_neg h0, if_neg h0]
 by_cases h1 : j < 253
 ·rw [if_pos h1, if_pos h1]
  dsimp only
  by_cases e : j = 1 + n * 12 + t
  ·rw [if_pos e, if_pos (by omega)]
  ·rw [if_neg e, if_neg (by omega)]
 ·rw [if_neg (by omega), if_neg h1, if_neg h1]
theorem allG_seat {now : Int} {lf : Nat → Int} {c : Nat → Nat → Int} {s : Nat → Nat → Nat → Int} (n i t : Nat) (hn : n < 21) (hi : i < 120) (ht : t < 6) (v : Int) :
  (fun j => if j = 337 + n * 720 + i * 6 + t then v else allG now lf c s j) = allG now lf c (fun a b d => if a = n ∧ b = i ∧ d = t then v else s a b d) := by
 funext j
 unfold allG
 by_cases h0 : j = 0
 ·rw [if_neg (by omega), if_pos h0, if_pos h0]
 rw [if_neg h0, if_neg h0]
 by_cases h1 : j < 253
 ·rw [if_neg (by omega), if_pos h1, if_pos h1]
 rw [if_neg h1, if_neg h1]
 by_cases h2 : j < 337
 ·rw [if_neg (by omega), if_pos h2, if_pos h2]
 rw [if_neg h2, if_neg h2]
 dsimp only
 by_cases e : j = 337 + n * 720 + i * 6 + t
 ·rw [if_pos e, if_pos (by omega)]
 ·rw [if_neg e, if_neg (by omega)]
theorem fold_get : ∀ (vs : List Value) (k off : Nat) (cs : Array Value) (i : Nat), ((vs.zipIdx k).foldl (fun cs (x : Value × Nat) => cs.setIfInBounds (off + x.2) x.1) cs)[i]? = if off + k ≤ i ∧ i < off + k + vs.length ∧ i < cs.size then vs[i - (off + k)]? else cs[i]?
 | [], k, off, cs, i => by
  simp only [List.zipIdx_nil, List.foldl_nil, List.length_nil, Nat.add_zero]
  rw [if_neg (by omega)]
 | v :: r, k, off, cs, i => by
  simp only [List.zipIdx_cons, List.foldl_cons]
  rw [fold_get r (k + 1) off _ i]
  simp only [Array.size_setIfInBounds, List.length_cons]
  by_cases h : off + (k + 1) ≤ i ∧ i < off + (k + 1) + r.length ∧ i < cs.size
  ·rw [if_pos h, if_pos ⟨by omega, by omega, h.2.2⟩]
   obtain ⟨m, rfl⟩ : ∃ m, i = off + (k + 1) + m := ⟨i - (off + (k + 1)), by omega⟩
   rw [show off + (k + 1) + m - (off + (k + 1)) = m by omega, show off + (k + 1) + m - (off + k) = m + 1 by omega]
   rfl
  ·rw [if_neg h]
   by_cases h' : off + k ≤ i ∧ i < off + k + (r.length + 1) ∧ i < cs.size
   ·have : i = off + k := by omega
    subst this
    rw [if_pos h', Array.getElem?_setIfInBounds_self_of_lt h'.2.2, Nat.sub_self]
    rfl
   ·rw [if_neg h']
    by_cases hi : off + k = i
    ·subst hi
     rw [Array.getElem?_setIfInBounds, if_pos rfl, if_neg (by omega), Array.getElem?_eq_none (by omega)]
    ·rw [Array.getElem?_setIfInBounds_ne hi]
theorem fill_two (place : Nat → Option (Nat × Nat)) (z : Array Value) (x : Value) (A : Array Value) (off : Nat) (hx : x.cells = #[x]) (h0 : place 0 = some (0, 1)) (h2 : place 2 = some (off, A.size)) (h1 : 1 ≤ z.size) (hA : off + A.size ≤ z.size) :
  Instr.fill place z [(0, x), (2, .agg A)] = some (A.zipIdx.foldl (fun cs (c, j) => cs.setIfInBounds (off + j) c) (z.setIfInBounds 0 x)) := by
 have hc : (Value.agg A).cells = A := rfl
 have e : (#[x].zipIdx.foldl (fun cs (c, j) => cs.setIfInBounds (0 + j) c) z) = z.setIfInBounds 0 x := by simp
 unfold Instr.fill
 rw [h0]
 dsimp only
 split
 ·rename_i q
  rw [hx] at q
  simp at q
  exact absurd h1 (by simp [q])
 rw [hx, e]
 unfold Instr.fill
 rw [h2]
 dsimp only
 split
 ·rename_i q
  rw [hc] at q
  simp at q
  omega
 unfold Instr.fill
 rw [hc]
theorem fill_get (z : Array Value) (x : Value) (A : Array Value) (off i : Nat) (hA : off + A.size ≤ z.size) (ho : 0 < off) :
  (A.zipIdx.foldl (fun cs (c, j) => cs.setIfInBounds (off + j) c) (z.setIfInBounds 0 x))[i]? = if i = 0 then (if 0 < z.size then some x else none) else if off ≤ i ∧ i < off + A.size then A[i - off]? else z[i]? := by
 rw [← Array.foldl_toList, Array.toList_zipIdx]
 have := fold_get A.toList 0 off (z.setIfInBounds 0 x) i
 rw [this]
 simp only [Nat.add_zero, Array.length_toList, Array.size_setIfInBounds]
 by_cases h0 : i = 0
 ·subst h0
  rw [if_neg (by omega), if_pos rfl, Array.getElem?_setIfInBounds, if_pos rfl]
 ·rw [if_neg h0]
  by_cases h : off ≤ i ∧ i < off + A.size
  ·rw [if_pos ⟨h.1, h.2, by omega⟩, if_pos h]
   simp
  ·rw [if_neg (by omega), if_neg h, Array.getElem?_setIfInBounds_ne (by omega)]
theorem built_two (m : Nat) (hm : 337 ≤ m) (place : Nat → Option (Nat × Nat)) (now : Int) (lf : Nat → Int) (h0 : place 0 = some (0, 1)) (h2 : place 2 = some (253, 84)) :
  Instr.fill place (tab (fun _ => 0) m) [(0, .int .i64 now), (2, .agg (tab lf 84))] = some (tab (allG now lf (fun _ _ => 0) (fun _ _ _ => 0)) m) := by
 rw [fill_two place _ _ _ 253 rfl h0 (by rw [tab_size]; exact h2) (by rw [tab_size]; omega) (by rw [tab_size, tab_size]; omega)]
 refine congrArg some (Array.ext_getElem? fun i => ?_)
 rw [fill_get _ _ _ _ _ (by rw [tab_size, tab_size]; omega) (by omega)]
 simp only [tab_size]
 by_cases hi : i < m
 ·rw [tab_get _ _ _ hi, tab_get _ _ _ hi]
  unfold allG
  by_cases e0 : i = 0
  ·rw [if_pos e0, if_pos e0, if_pos (by omega)]
  rw [if_neg e0, if_neg e0]
  by_cases e1 : i < 253
  ·rw [if_neg (by omega), if_pos e1]
  rw [if_neg e1]
  by_cases e2 : i < 337
  ·rw [if_pos (by omega), if_pos e2, tab_get _ _ _ (by omega)]
  ·rw [if_neg (by omega), if_neg e2]
 ·rw [tab_out (fun _ => (0 : Int)) _ _ (by omega), if_neg (by omega), if_neg (by omega)]
  exact (tab_out _ _ _ (by omega)).symm
theorem built_gen (t : TypeId) (m : Nat) (hm : 337 ≤ m) (pl : List (Nat × Nat)) (h0 : pl[0]? = some (0, 1)) (h2 : pl[2]? = some (253, 84)) (hz : (Try.prog.info? t).bind (·.zero) = some (.agg (tab (fun _ => 0) m)))
  (hp : (match Try.prog.underlying t with
  | some (.struct fields) => fields.toList.mapM (fun f => (Try.prog.info? f.type).map fun i => (f.offset, i.size))
  | _ => none) = some pl) (now : Int) (lf : Nat → Int) : Try.prog.built t [(0, .int .i64 now), (2, .agg (tab lf 84))] = some (tab (allG now lf (fun _ _ => 0) (fun _ _ _ => 0)) m) := by
 unfold Program.built
 cases hi : Try.prog.info? t with
 | none => rw [hi] at hz; cases hz
 | some it =>
 cases hu : Try.prog.underlying t with
 | none => rw [hu] at hp; cases hp
 | some d =>
 rw [hi] at hz
 rw [hu] at hp
 have hz' : it.zero = some (.agg (tab (fun _ => 0) m)) := hz
 cases d with
 | struct fields =>
  have hp' : fields.toList.mapM (fun f => (Try.prog.info? f.type).map fun i => (f.offset, i.size)) = some pl := hp
  simp only [hz', hp']
  exact built_two m hm _ now lf (by simpa using h0) (by simpa using h2)
 | _ => cases hp
theorem built_all (now : Int) (lf : Nat → Int) : Try.prog.built 85 [(0, .int .i64 now), (2, .agg (tab lf 84))] = some (tab (allG now lf (fun _ _ => 0) (fun _ _ _ => 0)) 15457) :=
 built_gen 85 15457 (by omega) [(0, 1), (1, 252), (253, 84), (337, 15120)] rfl rfl (by rw [← zeroA]; kernel_rfl) (by kernel_rfl) now lf
def Script (w : World) (a : Option Addr) (n : Nat) : Prop :=
 ∀ i, i < n → ∃ b off S, a = some ⟨b, off, none⟩ ∧ S.size = 21 ∧ w.rangeAt b (off + i * 21) S.toList ∧ ∀ W, Calls Try.prog 17 #[.agg S] W fun e w' => ∃ c : Cmd, e = .returned (.agg (cmdCells c)) ∧ Mod No W w'
theorem Mod.cell {w w' : World} (h : Mod No w w') {a : Addr} {v : Value} (hc : w.cell? a = some v) : w'.cell? a = some v := by
 have hl := World.block_lt_of_cell? w a hc
 unfold World.cell? at hc ⊢
 rw [h.block _ hl (fun x => x)]
 exact hc
theorem Mod.range {w w' : World} (h : Mod No w w') {b o : Nat} {l : List Value} (hr : w.rangeAt b o l) : w'.rangeAt b o l := fun j v hv => h.cell (hr j v hv)
theorem Script.mod {w w' : World} {a : Option Addr} {n : Nat} (h : Script w a n) (hm : Mod No w w') : Script w' a n := fun i hi => by
 obtain ⟨b, off, S, h1, h2, h3, h4⟩ := h i hi
 exact ⟨b, off, S, h1, h2, hm.range h3, h4⟩
set_option maxHeartbeats 2000000
theorem rowS_told {w : World} {a : Option Addr} {c : Nat} {l : List Sea} (h : w.ownsRow 0 61 6 (.slice a l.length c) l.length (l.flatMap seaL)) (hpos : 0 < l.length) : ∃ g, a = some ⟨g, 0, none⟩ ∧ RowS w g c l := by
 have h' := h
 obtain ⟨h0, h1 | ⟨g', cap', cur, hv, hb, hg, hn, hm, hsz, ht⟩⟩ := h
 ·have := h1.2
  simp at this
  omega
 ·injection hv with e1 e2 e3
  subst e1
  exact ⟨g', rfl, (rowS_of h').2⟩
theorem one_seat {p : Pla} {l : List Sea} (hwf : Wf p l) : 0 < l.length := by
 have hB := hwf.bounds
 have hl := hwf.len
 simp only at hB hl
 have : 0 < p.rows * p.cols := Int.mul_pos (by omega) (by omega)
 omega
end Go.Proofs.Ythhibagcpjeihaa
