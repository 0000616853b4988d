import Derived.Test.YthhibagcpjeihaaLRd1ToRd4
import Derived.Laws.BitsLemmas
import Derived.Test.YthhibagcpjeihaaLBaseToAppend
import Derived.Deep.MidRow
import Derived.Handy
import Derived.ChangeKeysEq
import Derived.DeepKeys
import Derived.BigQuiet
import Derived.Deep.QuietTactic
import Derived.WideKeyArgs
import Derived.DeepKeys4
import Derived.MapViews
namespace Go.Proofs.Ythhibagcpjeihaa
open Go.RowKit
open M
set_option linter.unusedVariables false
set_option linter.unusedSimpArgs false
set_option maxRecDepth 100000
set_option maxHeartbeats 4000000
theorem bits_or_comm (k : IntKind) (x y : Int) : bits .or k x y = bits .or k y x := by
 unfold bits
 simp only
 rw [BitVec.or_comm]
theorem orv_eq (n y k : Nat) (hk : k ≤ 8) (hn : n < 2 ^ (7 * k)) (hy : y < 128) (hf : y * 2 ^ (7 * k) < 2 ^ 63) : orv (n : Int) (y : Int) (7 * (k : Int)) = ((n + y * 2 ^ (7 * k) : Nat) : Int) := by
 have e1 : min (7 * (k : Int)).toNat 64 = 7 * k := by omega
 have e2 : ((y : Int) * 2 ^ (7 * k)) = ((y * 2 ^ (7 * k) : Nat) : Int) := by simp
 have hf' : ((y * 2 ^ (7 * k) : Nat) : Int) < 2 ^ 63 := by exact_mod_cast hf
 unfold orv
 rw [e1, e2, wraps_i64 _ (Int.natCast_nonneg _) hf', bits_or_comm]
 rw [bits_join .i64 63 (by decide) wraps_i64 (7 * k) _ _ (Int.natCast_nonneg _) (by
   have : (y * 2 ^ (7 * k)) % 2 ^ (7 * k) = 0 := Nat.mul_mod_left _ _
   exact_mod_cast this) hf' (Int.natCast_nonneg _) (by exact_mod_cast hn) (by
   have h1 : 2 ^ (7 * k) ≤ 2 ^ 63 := Nat.pow_le_pow_right (by decide) (by omega)
   have h2 : n < 2 ^ 63 := Nat.lt_of_lt_of_le hn h1
   exact_mod_cast h2)]
 simp
 omega
theorem numP_numF : ∀ (j m k n : Nat) (r : List Int), j + k ≤ 8 → m < 128 ^ (j + 1) → n < 2 ^ (7 * k) → n + m * 2 ^ (7 * k) < 2 ^ 63 → numP (numF j m ++ r) k (n : Int) = some (((n + m * 2 ^ (7 * k) : Nat) : Int), r) := by
 intro j
 induction j with
 | zero =>
  intro m k n r h1 h2 h3 h4
  have hm : m < 128 := by simpa using h2
  show numP ((m : Int) :: r) k (n : Int) = _
  unfold numP
  rw [if_pos (by omega), show ((m : Int) % 128) = ((m : Nat) : Int) by omega, orv_eq n m k (by omega) h3 hm (by omega)]
 | succ j ih =>
  intro m k n r h1 h2 h3 h4
  unfold numF
  by_cases hm : m < 128
  ·rw [if_pos hm]
   show numP ((m : Int) :: r) k (n : Int) = _
   unfold numP
   rw [if_pos (by omega), show ((m : Int) % 128) = ((m : Nat) : Int) by omega, orv_eq n m k (by omega) h3 hm (by omega)]
  ·rw [if_neg hm]
   show numP (((m % 128 + 128 : Nat) : Int) :: (numF j (m / 128) ++ r)) k (n : Int) = _
   unfold numP
   have hd : m = 128 * (m / 128) + m % 128 := by omega
   have hp : 2 ^ (7 * (k + 1)) = 128 * 2 ^ (7 * k) := by
    rw [show 7 * (k + 1) = 7 + 7 * k by omega, Nat.pow_add]
   have e : n + m % 128 * 2 ^ (7 * k) + m / 128 * 2 ^ (7 * (k + 1)) = n + m * 2 ^ (7 * k) := by
    rw [hp]
    generalize 2 ^ (7 * k) = P
    conv => rhs; rw [hd]
    rw [Nat.add_mul, Nat.mul_comm 128 (m / 128), Nat.mul_assoc]
    omega
   have hlt : m % 128 * 2 ^ (7 * k) ≤ 127 * 2 ^ (7 * k) := Nat.mul_le_mul_right _ (by omega)
   rw [if_neg (by omega), show (((m % 128 + 128 : Nat) : Int) % 128) = ((m % 128 : Nat) : Int) by omega, orv_eq n (m % 128) k (by omega) h3 (by omega) (by omega)]
   rw [ih (m / 128) (k + 1) _ r (by omega) (by rw [Nat.pow_succ] at h2; omega) (by rw [hp]; omega) (by rw [e]; exact h4), e]
theorem numP_numB {x : Int} (h0 : 0 ≤ x) (h1 : x < 9223372036854775808) (r : List Int) : numP (numB x ++ r) 0 0 = some (x, r) := by
 obtain ⟨m, rfl⟩ := Int.eq_ofNat_of_zero_le h0
 unfold numB
 have := numP_numF 8 m 0 0 r (by omega) (by
  have e : (128 : Nat) ^ (8 + 1) = 9223372036854775808 := by decide
  rw [e]
  omega) (by simp) (by simp; omega)
 simpa using this
theorem Mod.setCells {S : Nat → Prop} {a : World} {b : Nat} (hb : S b ∨ a.heap.size ≤ b) : ∀ (vs : List Value) (o : Nat) (w : World), Mod S a w → Mod S a (w.setCells b o vs)
 | [], _, _, h => h
 | v :: r, o, w, h => Mod.setCells hb r (o + 1) _ (h.setCell (p := ⟨b, o, none⟩) hb v)
def setAll : Array Value → Nat → List Value → Array Value
 | cs, _, [] => cs
 | cs, o, v :: r => setAll (cs.setIfInBounds o v) (o + 1) r
theorem Has.setCells {b : Nat} {T : TypeId} : ∀ (vs : List Value) (o : Nat) (w : World) (cs : Array Value), Has w b cs T → Has (w.setCells b o vs) b (setAll cs o vs) T
 | [], _, _, _, h => h
 | v :: r, o, _, _, h => Has.setCells r (o + 1) _ _ (h.set o v)
theorem setAll_get : ∀ (vs : List Value) (o : Nat) (cs : Array Value) (i : Nat), (setAll cs o vs)[i]? = if o ≤ i ∧ i < o + vs.length ∧ i < cs.size then vs[i - o]? else cs[i]?
 | [], o, cs, i => by
  simp only [setAll, List.length_nil, Nat.add_zero]
  rw [if_neg (by omega)]
 | v :: r, o, cs, i => by
  simp only [setAll]
  rw [setAll_get r (o + 1) _ i]
  simp only [Array.size_setIfInBounds, List.length_cons]
  by_cases h : o + 1 ≤ i ∧ i < o + 1 + r.length ∧ i < cs.size
  ·rw [if_pos h, if_pos ⟨by omega, by omega, h.2.2⟩]
   obtain ⟨k, rfl⟩ : ∃ k, i = o + 1 + k := ⟨i - (o + 1), by omega⟩
   rw [show o + 1 + k - (o + 1) = k by omega, show o + 1 + k - o = k + 1 by omega]
   rfl
  ·rw [if_neg h]
   by_cases h' : o ≤ i ∧ i < o + (r.length + 1) ∧ i < cs.size
   ·have : i = o := by omega
    subst this
    rw [if_pos h', Array.getElem?_setIfInBounds_self_of_lt h'.2.2, Nat.sub_self]
    rfl
   ·rw [if_neg h']
    by_cases hi : o = i
    ·subst hi
     rw [Array.getElem?_setIfInBounds, if_pos rfl, if_neg (by omega), Array.getElem?_eq_none (by omega)]
    ·rw [Array.getElem?_setIfInBounds_ne hi]
theorem setAll_size : ∀ (vs : List Value) (o : Nat) (cs : Array Value), (setAll cs o vs).size = cs.size
 | [], _, _ => rfl
 | v :: r, o, cs => by simp only [setAll]; rw [setAll_size r (o + 1) _]; simp
theorem setAll_whole (cs vs : Array Value) (h : vs.size = cs.size) : setAll cs 0 vs.toList = vs := by
 apply Array.ext
 ·rw [setAll_size, h]
 ·intro i h1 h2
  have := setAll_get vs.toList 0 cs i
  rw [if_pos ⟨by omega, by simpa using h2, by omega⟩] at this
  rw [Array.getElem?_eq_getElem h1] at this
  simpa [Array.getElem?_eq_getElem h2] using this
theorem Has.range {w : World} {b : Nat} {cs : Array Value} {T : TypeId} (h : Has w b cs T) (o : Nat) (l : List Value) (hl : ∀ j v, l[j]? = some v → cs[o + j]? = some v) : w.rangeAt b o l :=
 fun j v hv => by rw [h.cell]; exact hl j v hv
theorem wpList_load_has {P : Program} {ops : Array Oper} {rest : List Oper} {op : Oper} {a : Act} {w : World} {Q : Exit → Act → World → Prop} (hgd : op.guard = none) (ty : TypeId) (x : Operand) (ho : op.op = .load ty x)
  (b o : Nat) (hx : a.eval x = .pointer (some ⟨b, o, none⟩)) (cs : Array Value) (T : TypeId) (hb : Has w b cs T) (l : Array Value) (hl : ∀ j v, l.toList[j]? = some v → cs[o + j]? = some v)
  (hu : (P.underlying ty).map (·.isRow) = some true) (hi : (P.info? ty).map (·.size) = some l.size)
  (h : wpList P ops Q rest (a.put op.dst (.agg l)) w) : wpList P ops Q (op :: rest) a w := by
 cases hd : P.underlying ty with
 | none => rw [hd] at hu; simp at hu
 | some d =>
  rw [hd] at hu
  exact wpList_load_mid hgd ty x ho b o hx l.toList d (hb.range o _ hl) hd (by simpa using hu) (by simpa using hi) h
theorem wpList_store_has {P : Program} {ops : Array Oper} {rest : List Oper} {op : Oper} {a : Act} {w : World} {Q : Exit → Act → World → Prop} (hgd : op.guard = none) (ty : TypeId) (x y : Operand) (ho : op.op = .store ty x y)
  (b : Nat) (cells : Array Value) (hx : a.eval x = .pointer (some ⟨b, 0, none⟩)) (hy : a.eval y = .agg cells) (cs : Array Value) (T : TypeId) (hb : Has w b cs T) (hs : cells.size = cs.size)
  (hi : (P.info? ty).map (·.size) = some cells.size) (h1 : cells.all (·.oneCell') = true)
  (h : ∀ w', Has w' b cells T → Mod (fun k => k = b) w w' → wpList P ops Q rest (a.put op.dst undef) w') : wpList P ops Q (op :: rest) a w := by
 refine wpList_store_mid hgd ty x y ho b 0 cells hx hy (fun j hj => ⟨?_, hb.frozen _⟩) hi h1 (h _ ?_ ?_)
 ·rw [hb.cell, Nat.zero_add, Array.getElem?_eq_getElem (by omega)]
  rfl
 ·have := hb.setCells cells.toList 0
  rw [setAll_whole cs cells hs] at this
  exact this
 ·exact Mod.setCells (S := fun k => k = b) (.inl rfl) _ _ _ (Mod.refl _ _)
set_option maxHeartbeats 2000000
def seaV (s : Sea) : Array Value := #[.int .i64 s.row, .int .i64 s.col, .int .i64 s.st, .int .i64 s.pa, .int .i64 s.cl, .int .i64 s.un]
structure RowS (w : World) (g cap : Nat) (l : List Sea) : Prop where
 cur : ∃ cur, Has w g cur 61 ∧ cur.size = cap * 6 ∧ ∀ i (h : i < l.length) j, j < 6 → cur[i * 6 + j]? = (seaV l[i])[j]?
 le : l.length ≤ cap
 max : cap ≤ maxLen
theorem RowS.cell {w : World} {g cap : Nat} {l : List Sea} (h : RowS w g cap l) (i : Nat) (hi : i < l.length) (j : Nat) (hj : j < 6) : w.cell? ⟨g, i * 6 + j, none⟩ = (seaV l[i])[j]? := by
 obtain ⟨cur, h1, h2, h3⟩ := h.cur
 rw [h1.cell]
 exact h3 i hi j hj
theorem RowS.row {w : World} {g cap : Nat} {l : List Sea} (h : RowS w g cap l) (i : Nat) (hi : i < l.length) : w.cell? ⟨g, i * 6, none⟩ = some (.int .i64 l[i].row) := h.cell i hi 0 (by omega)
theorem RowS.col {w : World} {g cap : Nat} {l : List Sea} (h : RowS w g cap l) (i : Nat) (hi : i < l.length) : w.cell? ⟨g, i * 6 + 1, none⟩ = some (.int .i64 l[i].col) := h.cell i hi 1 (by omega)
theorem RowS.st {w : World} {g cap : Nat} {l : List Sea} (h : RowS w g cap l) (i : Nat) (hi : i < l.length) : w.cell? ⟨g, i * 6 + 2, none⟩ = some (.int .i64 l[i].st) := h.cell i hi 2 (by omega)
theorem RowS.pa {w : World} {g cap : Nat} {l : List Sea} (h : RowS w g cap l) (i : Nat) (hi : i < l.length) : w.cell? ⟨g, i * 6 + 3, none⟩ = some (.int .i64 l[i].pa) := h.cell i hi 3 (by omega)
theorem RowS.cl {w : World} {g cap : Nat} {l : List Sea} (h : RowS w g cap l) (i : Nat) (hi : i < l.length) : w.cell? ⟨g, i * 6 + 4, none⟩ = some (.int .i64 l[i].cl) := h.cell i hi 4 (by omega)
theorem RowS.un {w : World} {g cap : Nat} {l : List Sea} (h : RowS w g cap l) (i : Nat) (hi : i < l.length) : w.cell? ⟨g, i * 6 + 5, none⟩ = some (.int .i64 l[i].un) := h.cell i hi 5 (by omega)
theorem RowS.lt {w : World} {g cap : Nat} {l : List Sea} (h : RowS w g cap l) : g < w.heap.size := by
 obtain ⟨cur, h1, _⟩ := h.cur
 exact h1.lt
theorem RowS.mod {w w' : World} {g cap : Nat} {l : List Sea} {S : Nat → Prop} (h : RowS w g cap l) (hm : Mod S w w') (hg : ¬ S g) : RowS w' g cap l := by
 obtain ⟨cur, h1, h2, h3⟩ := h.cur
 exact ⟨⟨cur, hm.has h1 hg, h2, h3⟩, h.le, h.max⟩
theorem flat_at {α : Type} (k : Nat) (hk : 0 < k) (f : α → List Value) (hf : ∀ x, (f x).length = k) : ∀ (l : List α) (i : Nat) (h : i < l.length) (j : Nat), j < k → (l.flatMap f)[i * k + j]? = (f l[i])[j]?
 | [], i, h, _, _ => absurd h (Nat.not_lt_zero _)
 | x :: l, 0, h, j, hj => by
  rw [List.flatMap_cons, Nat.zero_mul, Nat.zero_add, List.getElem?_append_left (by rw [hf]; exact hj)]
  rfl
 | x :: l, i + 1, h, j, hj => by
  rw [List.flatMap_cons, List.getElem?_append_right (by rw [hf, Nat.add_mul]; omega), hf]
  rw [show (i + 1) * k + j - k = i * k + j by rw [Nat.add_mul, Nat.one_mul]; omega]
  exact flat_at k hk f hf l i (by simpa using h) j hj
theorem flat_len {α : Type} (k : Nat) (f : α → List Value) (hf : ∀ x, (f x).length = k) : ∀ (l : List α), (l.flatMap f).length = l.length * k
 | [] => by simp
 | x :: l => by rw [List.flatMap_cons, List.length_append, flat_len k f hf l, hf, List.length_cons, Nat.add_mul]; omega
def seaL (s : Sea) : List Value := (seaV s).toList
theorem seaL_len (s : Sea) : (seaL s).length = 6 := rfl
theorem rowS_of {w : World} {g n cap : Nat} {l : List Sea} (h : w.ownsRow 0 61 6 (.slice (some ⟨g, 0, none⟩) n cap) l.length (l.flatMap seaL)) : n = l.length ∧ RowS w g cap l := by
 obtain ⟨h0, h1 | ⟨g', cap', cur, hv, hb, hg, hn, hm, hsz, ht⟩⟩ := h
 ·exact absurd h1.1 (by simp)
 ·injection hv with e1 e2 e3
  injection e1 with e1
  injection e1 with e1
  subst e1 e2 e3
  refine ⟨rfl, ⟨cur, hg, hsz, fun i hi j hj => ?_⟩, hn, hm⟩
  have := flat_at 6 (by omega) seaL seaL_len l i hi j hj
  rw [← ht, List.getElem?_take, if_pos (by omega)] at this
  rw [← Array.getElem?_toList, this]
  simp [seaL]
theorem info114 : (Try.prog.info? 61).map (fun i => (i.zero, i.size, i.bytes)) = some (some (.agg #[.int .i64 0, .int .i64 0, .int .i64 0, .int .i64 0, .int .i64 0, .int .i64 0]), 6, 48) := by kernel_rfl
def same4 (a0 a1 a2 a3 b0 b1 b2 b3 : Int) : Bool := a0 == b0 && (a1 == b1 && (a2 == b2 && a3 == b3))
theorem part3 (xs : Array Value) (i : Nat) (v : Value) (h : xs[i]? = some v) (w : World) : (part 3 xs i).run Try.prog w = .ok v w := by
 unfold part
 simp [Sem.run_bind, isAgg, run_underlying Try.underlying3, h]
theorem eq_step (n : Nat) (is : List Nat) (xs ys : Array Value) (i : Nat) (x y : Int) (hx : xs[i * 1]? = some (.int .i64 x)) (hy : ys[i * 1]? = some (.int .i64 y)) (w : World) :
  (Op.eqItems (n + 1) 3 1 xs ys (i :: is)).run Try.prog w = if (x == y) = true then (Op.eqItems (n + 1) 3 1 xs ys is).run Try.prog w else .ok false w := by
 have r : (Op.equalIn (n + 1) 3 (.int .i64 x) (.int .i64 y)).run Try.prog w = .ok (x == y) w := run_equalIn_int w n 3 .i64 .i64 x y Try.underlying3
 simp only [Op.eqItems, Sem.run_bind, part3 _ _ _ hx, part3 _ _ _ hy, r, Result.andThen_ok]
 cases x == y
 ·rfl
 ·rfl
theorem eq4n (n : Nat) (a0 a1 a2 a3 b0 b1 b2 b3 : Int) (w : World) :
  (Op.equalIn (n + 2) 33 (.agg #[.int .i64 a0, .int .i64 a1, .int .i64 a2, .int .i64 a3]) (.agg #[.int .i64 b0, .int .i64 b1, .int .i64 b2, .int .i64 b3])).run Try.prog w = .ok (same4 a0 a1 a2 a3 b0 b1 b2 b3) w := by
 have hi : (Try.prog.info? 3).isSome = true := by kernel_rfl
 obtain ⟨i3, hi⟩ := Option.isSome_iff_exists.1 hi
 have c3 : Try.prog.cellsOf 3 = 1 := by kernel_rfl
 rw [run_equalIn_array w (n + 1) _ _ Try.underlying33 hi, c3]
 rw [show List.range 4 = [0, 1, 2, 3] from rfl]
 unfold same4
 rw [eq_step n _ _ _ 0 a0 b0 rfl rfl, eq_step n _ _ _ 1 a1 b1 rfl rfl, eq_step n _ _ _ 2 a2 b2 rfl rfl, eq_step n _ _ _ 3 a3 b3 rfl rfl]
 cases a0 == b0 <;> cases a1 == b1 <;> cases a2 == b2 <;> cases a3 == b3 <;> rfl
theorem eq41 (a0 a1 a2 a3 b0 b1 b2 b3 : Int) (w : World) :
  (Op.equalIn 10000 33 (.agg #[.int .i64 a0, .int .i64 a1, .int .i64 a2, .int .i64 a3]) (.agg #[.int .i64 b0, .int .i64 b1, .int .i64 b2, .int .i64 b3])).run Try.prog w = .ok (same4 a0 a1 a2 a3 b0 b1 b2 b3) w := eq4n 9998 ..
theorem guard40 (op : BinOp) (x y : Operand) (xs ys : Array Value) (w : World) : (eqGuard op 33 x y (.agg xs) (.agg ys)).run Try.prog w = .ok () w := by
 have h : Try.prog.eqGuardType Try.prog.depth 33 = false := by kernel_rfl
 unfold eqGuard
 cases op <;> simp [Sem.run, program, h]
structure Wd (w0 : World) where
 W : World
 h : Mod No w0 W
theorem wp_region_wd {P : Program} {id : Nat} {Q : Exit → Act → World → Prop} {a : Act} {w w0 : World} {l : List Oper} (hm : P.follows .mixedOrders = true) (hB : Region.lexB .any l.toArray = true) (h0 : Mod No w0 w)
  (h : wpQuiet P l.toArray (fun w' => ∃ x : Wd w0, w' = x.W) (fun a' => ∀ w', (∃ x : Wd w0, w' = x.W) → Q .normal a' w') l a) : (Code.region id l.toArray true).wp P Q a w :=
 wp_region_quiet (C := fun w' => ∃ x : Wd w0, w' = x.W) hm hB ⟨⟨_, h0.drew⟩, rfl⟩ (by simpa using h)
theorem wd_ne (w0 : World) : Nonempty (Wd w0) := ⟨⟨w0, Mod.refl _ _⟩⟩
theorem Calls.wd {P : Program} {f : FuncId} {args : Array Value} {w0 : World} {v : Value} (x : Wd w0)
  (h : Calls P f args x.W fun e w' => e = .returned v ∧ Mod No x.W w') : Calls P f args x.W fun e w'' => e = .returned v ∧ ∃ y : Wd w0, w'' = y.W :=
 h.mono fun _ w'' ⟨he, hm⟩ => ⟨he, ⟨w'', x.h.trans hm⟩, rfl⟩
theorem Has.wd {w0 : World} {b : Nat} {cs : Array Value} {T : TypeId} (h : Has w0 b cs T) (x : Wd w0) (o : Nat) : x.W.cell? ⟨b, o, none⟩ = cs[o]? := (x.h.has h (fun z => z)).cell o
open Go.RowKit Go.WideMaps
open Go.ChangeMaps (setBlock)
theorem laidOut : laidOutB Try.prog = true := by kernel_rfl
theorem law30 : KeyLaw Try.prog 32 := deep_law_laid laidOut (m := 2) (by omega) (of_decide_eq_true (by kernel_rfl)) (by kernel_rfl) (by rw [Try.underlying32])
def kv (r c : Int) : Value := .agg #[.int .i64 r, .int .i64 c]
def sv (s p k u : Int) : Value := .agg #[.int .i64 s, .int .i64 p, .int .i64 k, .int .i64 u]
theorem key30 (r c : Int) (hr : 0 ≤ r ∧ r ≤ 1000) (hc : 0 ≤ c ∧ c ≤ 1000) : ∃ l, keyOf Try.prog 32 (kv r c) = some l := by
 have w1 : (Lit.int .i64 r).wf = true := by simp [Lit.wf, IntKind.min, IntKind.max, IntKind.signed, IntKind.bits]; omega
 have w2 : (Lit.int .i64 c).wf = true := by simp [Lit.wf, IntKind.min, IntKind.max, IntKind.signed, IntKind.bits]; omega
 have hk : Try.prog.keyType 32 = true := by kernel_rfl
 have c30 : Try.prog.cellsOf 32 = 2 := by kernel_rfl
 have c3 : Try.prog.cellsOf 3 = 1 := by kernel_rfl
 have ts : ∃ n, Try.prog.types.size + 1 = n + 2 := ⟨Try.prog.types.size - 1, by have : 0 < Try.prog.types.size := of_decide_eq_true (by kernel_rfl); omega⟩
 obtain ⟨n, hn⟩ := ts
 apply Option.isSome_iff_exists.1
 unfold keyOf
 rw [Try.underlying32, hn]
 simp [hk, kv, Value.formed, Try.underlying32, c30, c3, Program.keyLits, Try.underlying3, w1, w2, Value.cells]
structure MEnt where
 born : Nat
 r : Int
 c : Int
 s : Int
 p : Int
 k : Int
 u : Int
def MEnt.obj (e : MEnt) : MapEntry := ⟨kv e.r e.c, sv e.s e.p e.k e.u, e.born⟩
def mapObj (l : List MEnt) (clock : Nat) : Obj := .map (l.map MEnt.obj).toArray clock
def MEnt.is (r c : Int) (e : MEnt) : Bool := e.r == r && e.c == c
structure MapOk (l : List MEnt) (clock : Nat) : Prop where
 keys : ∀ e ∈ l, 0 ≤ e.r ∧ e.r ≤ 1000 ∧ 0 ≤ e.c ∧ e.c ≤ 1000
 apart : l.Pairwise fun a b => ¬ (a.r = b.r ∧ a.c = b.c)
 births : l.Pairwise fun a b => a.born ≠ b.born
 past : ∀ e ∈ l, e.born < clock
theorem kv_inj {r c r' c' : Int} : kv r c = kv r' c' ↔ r = r' ∧ c = c' := by
 constructor
 ·intro h
  simp only [kv, Value.agg.injEq] at h
  simp at h
  exact h
 ·rintro ⟨rfl, rfl⟩; rfl
theorem find_of {l : List MEnt} (hp : l.Pairwise fun a b => ¬ (a.r = b.r ∧ a.c = b.c)) {j : Nat} (hj : j < l.length) {r c : Int} (h : l[j].r = r ∧ l[j].c = c) : l.findIdx? (MEnt.is r c) = some j := by
 rw [List.findIdx?_eq_some_iff_getElem]
 refine ⟨hj, by simp [MEnt.is, h.1, h.2], fun i hi => ?_⟩
 have := (List.pairwise_iff_getElem.1 hp) i j (by omega) hj hi
 simp only [MEnt.is, Bool.and_eq_true, beq_iff_eq]
 rintro ⟨h1, h2⟩
 exact this ⟨by rw [h1, h.1], by rw [h2, h.2]⟩
theorem run_find (w : World) (l : List MEnt) (clock : Nat) (hl : MapOk l clock) (r c : Int) (hr : 0 ≤ r ∧ r ≤ 1000) (hc : 0 ≤ c ∧ c ≤ 1000) :
  (Instr.findKey 32 (kv r c) (l.map MEnt.obj)).run Try.prog w = .ok ((l.findIdx? (MEnt.is r c)).map fun j => (j, (l[j]?.map fun e => sv e.s e.p e.k e.u).getD undef)) w := by
 obtain ⟨lx, hx⟩ := key30 r c hr hc
 rcases law30.find w hx (l.map MEnt.obj) (fun e he => by
  obtain ⟨m, hm, rfl⟩ := List.mem_map.1 he
  obtain ⟨a, b, c', d⟩ := hl.keys m hm
  exact key30 m.r m.c ⟨a, b⟩ ⟨c', d⟩) with ⟨h, hn⟩ | ⟨j, e, h, hj, hk⟩
 ·rw [h]
  have : l.findIdx? (MEnt.is r c) = none := by
   rw [List.findIdx?_eq_none_iff]
   intro e he
   have := hn _ (List.mem_map_of_mem he)
   simp only [MEnt.is, Bool.and_eq_false_iff, beq_eq_false_iff_ne, ne_eq]
   by_cases h1 : e.r = r
   ·right; intro h2
    exact this (kv_inj.2 ⟨h1, h2⟩)
   ·left; exact h1
  rw [this]
  rfl
 ·rw [h]
  rw [List.getElem?_map] at hj
  obtain ⟨m, hm, rfl⟩ := Option.map_eq_some_iff.1 hj
  obtain ⟨hj', rfl⟩ := List.getElem?_eq_some_iff.1 hm
  have hk' := kv_inj.1 hk
  rw [find_of hl.apart hj' hk']
  simp [hj', MEnt.obj]
def lookE (l : List MEnt) (r c : Int) : Int × Int × Int × Int := ((l.find? (MEnt.is r c)).map fun e => (e.s, e.p, e.k, e.u)).getD (0, 0, 0, 0)
theorem find?_idx (l : List MEnt) (p : MEnt → Bool) : l.find? p = (l.findIdx? p).bind fun j => l[j]? := by
 induction l with
 | nil => rfl
 | cons e l ih =>
  simp only [List.find?_cons, List.findIdx?_cons]
  cases p e
  ·simp only [Bool.false_eq_true, if_false, ih]
   cases l.findIdx? p <;> simp
  ·simp
theorem zero171 (w : World) : (zeroValue 170).run Try.prog w = .ok (sv 0 0 0 0) w := by kernel_rfl
theorem map_erase (l : List MEnt) (j : Nat) : (l.map MEnt.obj).eraseIdx j = (l.eraseIdx j).map MEnt.obj := by
 induction l generalizing j with
 | nil => simp
 | cons e l ih => cases j <;> simp_all
theorem map_modify (g : MapEntry → MapEntry) (g' : MEnt → MEnt) : ∀ (l : List MEnt) (j : Nat) (hj : j < l.length), g l[j].obj = (g' l[j]).obj → (l.map MEnt.obj).modify j g = (l.modify j g').map MEnt.obj
 | e :: l, 0, _, h => by simpa using h
 | e :: l, j + 1, hj, h => by
  have := map_modify g g' l j (by simpa using hj) (by simpa using h)
  simp [this]
theorem run_lookup (w : World) (m : Nat) (l : List MEnt) (clock : Nat) (hm : w.heap[m]? = some (mapObj l clock)) (hl : MapOk l clock) (r c : Int) (hr : 0 ≤ r ∧ r ≤ 1000) (hc : 0 ≤ c ∧ c ≤ 1000) :
  (Instr.lookup 136 (.map (some m)) (kv r c) false).run Try.prog w = .ok (sv (lookE l r c).1 (lookE l r c).2.1 (lookE l r c).2.2.1 (lookE l r c).2.2.2) w := by
 obtain ⟨lx, hx⟩ := key30 r c hr hc
 have h1 := fun em => law30.check w em hx
 have h2 := run_find w l clock hl r c hr hc
 unfold mapObj at hm
 have hg : (getObj m).run Try.prog w = .ok (.map (l.map MEnt.obj).toArray clock) w := by simp [getObj, Sem.run, hm]
 have hs : ∀ o, (setObj m o).run Try.prog w = .ok () (setBlock w m o) := fun o => by simp [setObj, Sem.run, hm, setBlock]
 rw [lookE, find?_idx]
 cases hf : l.findIdx? (MEnt.is r c) with
 | none =>
  rw [hf] at h2
  simp [Instr.lookup, run_underlying Try.underlying136, hg, h1, h2, zero171, sv]
 | some j =>
  have hj := (List.findIdx?_eq_some_iff_getElem.1 hf).1
  rw [hf] at h2
  simp [hj] at h2
  simp [Instr.lookup, run_underlying Try.underlying136, hg, h1, h2, zero171, hj]
theorem run_delete (w : World) (m : Nat) (l : List MEnt) (clock : Nat) (ty : TypeId) (hm : w.heap[m]? = some (mapObj l clock)) (hl : MapOk l clock) (r c : Int) (hr : 0 ≤ r ∧ r ≤ 1000) (hc : 0 ≤ c ∧ c ≤ 1000) :
  (Builtin.delete_ #[136, 32] ty #[.map (some m), kv r c]).run Try.prog w =
   .ok (.tuple #[]) (setBlock w m (mapObj (match l.findIdx? (MEnt.is r c) with | some j => l.eraseIdx j | none => l) clock)) := by
 obtain ⟨lx, hx⟩ := key30 r c hr hc
 have h1 := fun em => law30.check w em hx
 have h2 := run_find w l clock hl r c hr hc
 unfold mapObj at hm
 have hg : (getObj m).run Try.prog w = .ok (.map (l.map MEnt.obj).toArray clock) w := by simp [getObj, Sem.run, hm]
 have hs : ∀ o, (setObj m o).run Try.prog w = .ok () (setBlock w m o) := fun o => by simp [setObj, Sem.run, hm, setBlock]
 cases hf : l.findIdx? (MEnt.is r c) with
 | none =>
  rw [hf] at h2
  simp [Builtin.delete_, run_underlying Try.underlying136, hg, hs, h1, h2, mapObj]
 | some j =>
  have hj := (List.findIdx?_eq_some_iff_getElem.1 hf).1
  rw [hf] at h2
  simp [hj] at h2
  simp [Builtin.delete_, run_underlying Try.underlying136, hg, hs, h1, h2, mapObj, hj]
  rw [map_erase]
theorem run_update (w : World) (m : Nat) (l : List MEnt) (clock : Nat) (hm : w.heap[m]? = some (mapObj l clock)) (hl : MapOk l clock) (r c s p k u : Int) (hr : 0 ≤ r ∧ r ≤ 1000) (hc : 0 ≤ c ∧ c ≤ 1000) :
  (Instr.mapUpdate 136 (.map (some m)) (kv r c) (sv s p k u)).run Try.prog w =
   .ok () (match l.findIdx? (MEnt.is r c) with
    | some j => setBlock w m (mapObj (l.modify j fun e => ⟨e.born, e.r, e.c, s, p, k, u⟩) clock)
    | none => setBlock w m (mapObj (l ++ [⟨clock, r, c, s, p, k, u⟩]) (clock + 1))) := by
 obtain ⟨lx, hx⟩ := key30 r c hr hc
 have h1 := fun em => law30.check w em hx
 have h2 := run_find w l clock hl r c hr hc
 have h3 := law30.stays w hx
 unfold mapObj at hm
 have hg : (getObj m).run Try.prog w = .ok (.map (l.map MEnt.obj).toArray clock) w := by simp [getObj, Sem.run, hm]
 have hs : ∀ o, (setObj m o).run Try.prog w = .ok () (setBlock w m o) := fun o => by simp [setObj, Sem.run, hm, setBlock]
 cases hf : l.findIdx? (MEnt.is r c) with
 | none =>
  rw [hf] at h2
  simp [Instr.mapUpdate, run_underlying Try.underlying136, hg, hs, h1, h2, mapObj, MEnt.obj]
 | some j =>
  have hj := (List.findIdx?_eq_some_iff_getElem.1 hf)
  obtain ⟨hj, hk, _⟩ := hj
  simp [MEnt.is] at hk
  rw [hf] at h2
  simp [hj] at h2
  have hk' : (l[j]).obj.key = kv r c := by simp [MEnt.obj, hk]
  simp [Instr.mapUpdate, run_underlying Try.underlying136, hg, hs, h1, h2, mapObj, hj, hk', h3]
  rw [map_modify _ (fun e => ⟨e.born, e.r, e.c, s, p, k, u⟩) l j hj (by simp [MEnt.obj, hk])]
theorem MapOk.erase {l : List MEnt} {clock : Nat} (h : MapOk l clock) (j : Nat) : MapOk (l.eraseIdx j) clock :=
 ⟨fun e he => h.keys e (List.mem_of_mem_eraseIdx he), h.apart.sublist (List.eraseIdx_sublist _ _), h.births.sublist (List.eraseIdx_sublist _ _), fun e he => h.past e (List.mem_of_mem_eraseIdx he)⟩
def putE (l : List MEnt) (clock : Nat) (r c s p k u : Int) : List MEnt × Nat :=
 match l.findIdx? (MEnt.is r c) with
 | some j => (l.modify j fun e => ⟨e.born, e.r, e.c, s, p, k, u⟩, clock)
 | none => (l ++ [⟨clock, r, c, s, p, k, u⟩], clock + 1)
def dropE (l : List MEnt) (r c : Int) : List MEnt :=
 match l.findIdx? (MEnt.is r c) with
 | some j => l.eraseIdx j
 | none => l
theorem mem_modify {α : Type} {g : α → α} : ∀ {l : List α} {j : Nat} {x : α}, x ∈ l.modify j g → x ∈ l ∨ ∃ y ∈ l, x = g y
 | [], j, x, h => by simp at h
 | e :: l, 0, x, h => by
  simp at h
  rcases h with h | h
  ·exact .inr ⟨e, by simp, h⟩
  ·exact .inl (by simp [h])
 | e :: l, j + 1, x, h => by
  simp at h
  rcases h with h | h
  ·exact .inl (by simp [h])
  ·rcases mem_modify h with h | ⟨y, hy, e⟩
   ·exact .inl (by simp [h])
   ·exact .inr ⟨y, by simp [hy], e⟩
theorem mem_modify_at {α : Type} {g : α → α} : ∀ {l : List α} {j : Nat} {x : α}, x ∈ l.modify j g → x ∈ l ∨ ∃ h : j < l.length, x = g l[j]
 | [], j, x, h => by simp at h
 | e :: l, 0, x, h => by
  simp at h
  rcases h with h | h
  ·exact .inr ⟨by simp, h⟩
  ·exact .inl (by simp [h])
 | e :: l, j + 1, x, h => by
  simp at h
  rcases h with h | h
  ·exact .inl (by simp [h])
  ·rcases mem_modify_at h with h | ⟨hj, e⟩
   ·exact .inl (by simp [h])
   ·exact .inr ⟨by simpa using hj, by rw [List.getElem_cons_succ]; exact e⟩
theorem pairwise_modify {α : Type} {R : α → α → Prop} {g : α → α} (h1 : ∀ a b, R a b → R (g a) b) (h2 : ∀ a b, R a b → R a (g b)) : ∀ {l : List α} {j : Nat}, l.Pairwise R → (l.modify j g).Pairwise R
 | [], _, _ => by simp
 | e :: l, 0, h => by
  simp only [List.modify_zero_cons, List.pairwise_cons] at h ⊢
  exact ⟨fun x hx => h1 _ _ (h.1 x hx), h.2⟩
 | e :: l, j + 1, h => by
  simp only [List.modify_succ_cons, List.pairwise_cons] at h ⊢
  refine ⟨fun x hx => ?_, pairwise_modify h1 h2 h.2⟩
  rcases mem_modify hx with hx | ⟨y, hy, rfl⟩
  ·exact h.1 x hx
  ·exact h2 _ _ (h.1 y hy)
def MEnt.with (s p k u : Int) (e : MEnt) : MEnt := ⟨e.born, e.r, e.c, s, p, k, u⟩
theorem putE_some {l : List MEnt} {clock : Nat} {r c s p k u : Int} {j : Nat} (h : l.findIdx? (MEnt.is r c) = some j) : putE l clock r c s p k u = (l.modify j (MEnt.with s p k u), clock) := by
 unfold putE; rw [h]; rfl
theorem putE_none {l : List MEnt} {clock : Nat} {r c s p k u : Int} (h : l.findIdx? (MEnt.is r c) = none) : putE l clock r c s p k u = (l ++ [⟨clock, r, c, s, p, k, u⟩], clock + 1) := by
 unfold putE; rw [h]
theorem dropE_some {l : List MEnt} {r c : Int} {j : Nat} (h : l.findIdx? (MEnt.is r c) = some j) : dropE l r c = l.eraseIdx j := by
 unfold dropE; rw [h]
theorem dropE_none {l : List MEnt} {r c : Int} (h : l.findIdx? (MEnt.is r c) = none) : dropE l r c = l := by
 unfold dropE; rw [h]
theorem is_false {r c : Int} {e : MEnt} : MEnt.is r c e = false ↔ ¬ (e.r = r ∧ e.c = c) := by
 simp only [MEnt.is, Bool.and_eq_false_iff, beq_eq_false_iff_ne]
 by_cases h1 : e.r = r
 ·simp [h1]
 ·simp [h1]
theorem is_true {r c : Int} {e : MEnt} : MEnt.is r c e = true ↔ (e.r = r ∧ e.c = c) := by
 simp [MEnt.is]
theorem MapOk.put {l : List MEnt} {clock : Nat} (h : MapOk l clock) (r c s p k u : Int) (hr : 0 ≤ r ∧ r ≤ 1000) (hc : 0 ≤ c ∧ c ≤ 1000) : MapOk (putE l clock r c s p k u).1 (putE l clock r c s p k u).2 := by
 cases hf : l.findIdx? (MEnt.is r c) with
 | some j =>
  rw [putE_some hf]
  refine ⟨fun e he => ?_, pairwise_modify (g := MEnt.with s p k u) (fun a b x => x) (fun a b x => x) h.apart, pairwise_modify (g := MEnt.with s p k u) (fun a b x => x) (fun a b x => x) h.births, fun e he => ?_⟩
  ·rcases mem_modify he with he | ⟨y, hy, rfl⟩
   ·exact h.keys e he
   ·exact h.keys y hy
  ·rcases mem_modify he with he | ⟨y, hy, rfl⟩
   ·exact h.past e he
   ·exact h.past y hy
 | none =>
  rw [putE_none hf]
  rw [List.findIdx?_eq_none_iff] at hf
  refine ⟨fun e he => ?_, ?_, ?_, fun e he => ?_⟩
  ·rcases List.mem_append.1 he with he | he
   ·exact h.keys e he
   ·simp at he; subst he; exact ⟨hr.1, hr.2, hc.1, hc.2⟩
  ·refine List.pairwise_append.2 ⟨h.apart, by simp, fun a ha b hb => ?_⟩
   simp at hb; subst hb
   exact is_false.1 (hf a ha)
  ·refine List.pairwise_append.2 ⟨h.births, by simp, fun a ha b hb => ?_⟩
   simp at hb; subst hb
   have := h.past a ha
   simp only
   omega
  ·rcases List.mem_append.1 he with he | he
   ·have := h.past e he
    simp only
    omega
   ·simp at he; subst he; simp
theorem find?_eraseIdx {p : MEnt → Bool} : ∀ (l : List MEnt) (j : Nat), (∀ h : j < l.length, p l[j] = false) → (l.eraseIdx j).find? p = l.find? p
 | [], _, _ => by simp
 | e :: l, 0, h => by
  have := h (by simp)
  simp at this
  simp [this]
 | e :: l, j + 1, h => by
  simp only [List.eraseIdx_cons_succ, List.find?_cons]
  rw [find?_eraseIdx l j (fun hj => by have := h (by simpa using hj); rwa [List.getElem_cons_succ] at this)]
theorem find?_modify (g : MEnt → MEnt) (q : MEnt → Bool) : ∀ (l : List MEnt) (j : Nat), (∀ h : j < l.length, q l[j] = false ∧ q (g l[j]) = false) → (l.modify j g).find? q = l.find? q
 | [], _, _ => by simp
 | e :: l, 0, h => by
  have := h (by simp)
  simp at this
  simp [this.1, this.2]
 | e :: l, j + 1, h => by
  simp only [List.modify_succ_cons, List.find?_cons]
  rw [find?_modify g q l j (fun hj => by have := h (by simpa using hj); rwa [List.getElem_cons_succ] at this)]
theorem look_none {l : List MEnt} {r c : Int} (h : ∀ e ∈ l, ¬ (e.r = r ∧ e.c = c)) : lookE l r c = (0, 0, 0, 0) := by
 unfold lookE
 rw [List.find?_eq_none.2 (fun e he => by rw [is_false.2 (h e he)]; simp)]
 rfl
theorem look_drop {l : List MEnt} {clock : Nat} (h : MapOk l clock) (r c r' c' : Int) : lookE (dropE l r c) r' c' = if r' = r ∧ c' = c then (0, 0, 0, 0) else lookE l r' c' := by
 cases hf : l.findIdx? (MEnt.is r c) with
 | none =>
  rw [dropE_none hf]
  rw [List.findIdx?_eq_none_iff] at hf
  by_cases hne : r' = r ∧ c' = c
  ·rw [if_pos hne, hne.1, hne.2]
   exact look_none fun e he => is_false.1 (hf e he)
  ·rw [if_neg hne]
 | some j =>
  rw [dropE_some hf]
  obtain ⟨hj, hk, _⟩ := List.findIdx?_eq_some_iff_getElem.1 hf
  have hk := is_true.1 hk
  by_cases hne : r' = r ∧ c' = c
  ·rw [if_pos hne, hne.1, hne.2]
   refine look_none fun e he hh => ?_
   obtain ⟨i, hi, hi1, hi2⟩ := List.mem_eraseIdx_iff_getElem.1 he
   have hpw := List.pairwise_iff_getElem.1 h.apart
   rcases Nat.lt_or_ge i j with h1 | h1
   ·exact hpw i j hi hj h1 (by rw [hi2, hk.1, hk.2]; exact hh)
   ·exact hpw j i hj hi (by omega) (by rw [hi2, hk.1, hk.2]; exact ⟨hh.1.symm, hh.2.symm⟩)
  ·rw [if_neg hne]
   unfold lookE
   rw [find?_eraseIdx l j (fun _ => is_false.2 (fun e => hne ⟨by rw [← e.1, hk.1], by rw [← e.2, hk.2]⟩))]
theorem look_mem {l : List MEnt} {clock : Nat} (h : MapOk l clock) {e : MEnt} (he : e ∈ l) : lookE l e.r e.c = (e.s, e.p, e.k, e.u) := by
 obtain ⟨j, hj, rfl⟩ := List.getElem_of_mem he
 unfold lookE
 rw [find?_idx, find_of h.apart hj ⟨rfl, rfl⟩]
 simp [hj]
theorem look_put {l : List MEnt} {clock : Nat} (h : MapOk l clock) (r c s p k u r' c' : Int) : lookE (putE l clock r c s p k u).1 r' c' = if r' = r ∧ c' = c then (s, p, k, u) else lookE l r' c' := by
 cases hf : l.findIdx? (MEnt.is r c) with
 | none =>
  rw [putE_none hf]
  rw [List.findIdx?_eq_none_iff] at hf
  unfold lookE
  simp only [List.find?_append]
  by_cases hne : r' = r ∧ c' = c
  ·rw [if_pos hne, hne.1, hne.2]
   rw [List.find?_eq_none.2 (fun e he => by rw [hf e he]; simp)]
   simp [MEnt.is]
  ·rw [if_neg hne]
   have : MEnt.is r' c' ⟨clock, r, c, s, p, k, u⟩ = false := is_false.2 (fun e => hne ⟨e.1.symm, e.2.symm⟩)
   simp [this]
 | some j =>
  rw [putE_some hf]
  obtain ⟨hj, hk, _⟩ := List.findIdx?_eq_some_iff_getElem.1 hf
  have hk := is_true.1 hk
  have hp : (l.modify j (MEnt.with s p k u)).Pairwise fun a b => ¬ (a.r = b.r ∧ a.c = b.c) := pairwise_modify (g := MEnt.with s p k u) (fun a b x => x) (fun a b x => x) h.apart
  by_cases hne : r' = r ∧ c' = c
  ·rw [if_pos hne, hne.1, hne.2]
   unfold lookE
   rw [find?_idx, find_of hp (j := j) (by simpa using hj) (by simpa [MEnt.with] using hk)]
   simp [hj, MEnt.with]
  ·rw [if_neg hne]
   unfold lookE
   rw [find?_modify _ _ l j (fun _ => ⟨is_false.2 (fun e => hne ⟨by rw [← e.1, hk.1], by rw [← e.2, hk.2]⟩), is_false.2 (fun e => hne ⟨by rw [← e.1]; exact hk.1, by rw [← e.2]; exact hk.2⟩)⟩)]
theorem dropE_mem {l : List MEnt} {r c : Int} {e : MEnt} (h : e ∈ dropE l r c) : e ∈ l := by
 unfold dropE at h
 split at h
 ·exact List.mem_of_mem_eraseIdx h
 ·exact h
theorem MapOk.drop {l : List MEnt} {clock : Nat} (h : MapOk l clock) (r c : Int) : MapOk (dropE l r c) clock := by
 unfold dropE
 split
 ·exact h.erase _
 ·exact h
theorem putE_mem {l : List MEnt} {clock : Nat} {r c s p k u : Int} {e : MEnt} (h : e ∈ (putE l clock r c s p k u).1) : e ∈ l ∨ (e.r = r ∧ e.c = c ∧ e.s = s) := by
 cases hf : l.findIdx? (MEnt.is r c) with
 | none =>
  rw [putE_none hf] at h
  rcases List.mem_append.1 h with h | h
  ·exact .inl h
  ·simp at h; subst h; exact .inr ⟨rfl, rfl, rfl⟩
 | some j =>
  rw [putE_some hf] at h
  obtain ⟨hj, hk, _⟩ := List.findIdx?_eq_some_iff_getElem.1 hf
  have hk := is_true.1 hk
  rcases mem_modify_at h with h | ⟨_, rfl⟩
  ·exact .inl h
  ·exact .inr ⟨hk.1, hk.2, rfl⟩
theorem sold_any (n : Nat) (pa cl un : Int) (w : World) :
  Calls Try.prog 104 #[.agg #[.int .i64 n, .int .i64 pa, .int .i64 cl, .int .i64 un]] w fun e w' => e = .returned (.bool (decide (n = 1 ∨ n = 2))) ∧ Mod No w w' := by
 by_cases h1 : n = 1
 ·subst h1
  go_enter Try.func104, Try.ntmps104
  go_wp2
  go_ret
  exact ⟨rfl, (Mod.refl _ _).alloc _⟩
 ·have h1' : ((n : Int) == 1) = false := by simp; omega
  by_cases h2 : n = 2
  ·subst h2
   go_enter Try.func104, Try.ntmps104
   go_wp2
   go_ret
   exact ⟨rfl, (Mod.refl _ _).alloc _⟩
  ·have h2' : ((n : Int) == 2) = false := by simp; omega
   go_enter Try.func104, Try.ntmps104
   go_wp2
   go_ret
   exact ⟨by simp [h1, h2, h1', h2'], (Mod.refl _ _).alloc _⟩
theorem Mod.at {a w : World} {b : Nat} (h : Mod (fun k => k = b) a w) (o : Nat) (v : Value) : Mod (fun k => k = b) a (w.setCell ⟨b, o, none⟩ v) := Mod.setCell (S := fun k => k = b) h (p := ⟨b, o, none⟩) (.inl rfl) v
def tallied (cs : Array Value) (base n k : Nat) (x y times : Int) : Array Value :=
 if n = 1 ∨ n = 2 then (cs.setIfInBounds (base + n) (.int .i64 (x + times))).setIfInBounds (16 + k) (.int .i64 (y + times)) else cs.setIfInBounds (base + n) (.int .i64 (x + times))
theorem tally_core (b n k base : Nat) (cs : Array Value) (row col pa un front x y times : Int) (w : World) (h : Has w b cs 138) (h2 : cs[2]? = some (.int .i64 front))
  (hbase : (row ≤ front ∧ base = 8) ∨ (¬ row ≤ front ∧ base = 12)) (hn : n < 4) (hk : k < 4)
  (hx : cs[base + n]? = some (.int .i64 x)) (hy : cs[16 + k]? = some (.int .i64 y)) (bx : -100000 ≤ x ∧ x ≤ 100000) (by_ : -100000 ≤ y ∧ y ≤ 100000) (bt : -1 ≤ times ∧ times ≤ 1) :
  Calls Try.prog 105 #[.pointer (some ⟨b, 0, none⟩), .agg #[.int .i64 row, .int .i64 col], .agg #[.int .i64 n, .int .i64 pa, .int .i64 k, .int .i64 un], .int .i64 times] w fun e w' =>
   e = .returned (.tuple #[]) ∧ Mod (· = b) w w' ∧
    Has w' b (tallied cs base n k x y times) 138 := by
 have hlt := h.lt
 have c2 := h.cell 2
 have cx := h.cell (base + n)
 have cy := h.cell (16 + k)
 have hz := h.frozen
 rw [h2] at c2
 rw [hx] at cx
 rw [hy] at cy
 have H := hide h
 have w1 := wrap_id (x + times) (by omega) (by omega)
 have HY := hide hy
 clear h h2 hx hy
 have hn' : (n : Int) < 4 := by omega
 have hk' : (k : Int) < 4 := by omega
 rcases hbase with ⟨hr, rfl⟩ | ⟨hr, rfl⟩
 ·go_enter Try.func105, Try.ntmps105
  go_wp2
  go_quiet (fail)
  go_wp2
  go_region
  go_wp2_with fail
  refine (sold_any n pa k un _).mono ?_
  rintro e w3 ⟨rfl, hm⟩
  have hb3 : Has w3 b (cs.setIfInBounds (8 + n) (.int .i64 (x + times))) 138 := hm.has (((((unhide H).alloc _).alloc _).drewN (nq + 1)).set (8 + n) _) (fun x => x)
  have hs0 : Has w3 (w.heap.size + 1) #[.int .i64 n, .int .i64 pa, .int .i64 k, .int .i64 un] 170 :=
   hm.has (Has.set_ne (Has.drewN (by have := Has.new (w.alloc (.cells #[.int .i64 row, .int .i64 col] 32)) #[.int .i64 n, .int .i64 pa, .int .i64 k, .int .i64 un] 170; rwa [World.size_alloc] at this) (nq + 1)) (by simp; omega) _) (fun x => x)
  have m3 : Mod (· = b) w w3 := ((((((Mod.refl _ w).alloc _).alloc _).drewN (nq + 1)).at (8 + n) _)).trans (hm.mono (fun _ _ x => x.elim))
  have y3 := hb3.cell (16 + k)
  have z3 := hb3.frozen
  have s3 := hs0.cell 2
  rw [Array.getElem?_setIfInBounds, if_neg (by omega), (unhide HY)] at y3
  simp only [List.getElem?_toArray, List.getElem?_cons_succ, List.getElem?_cons_zero] at s3
  have HB3 := hide hb3
  have M3 := hide m3
  clear hm hb3 hs0 m3 c2 cx cy hz w1
  by_cases hst : n = 1 ∨ n = 2
  ·have hd : decide (n = 1 ∨ n = 2) = true := decide_eq_true hst
   rw [hd]
   have HST := hide hst
   clear hst hd
   have w2 := wrap_id (y + times) (by omega) (by omega)
   go_wp2_with fail
   go_region
   go_wp2
   go_end0
   refine ⟨rfl, ((unhide M3).at (16 + k) _).drew, ?_⟩
   unfold tallied
   rw [if_pos (unhide HST)]
   exact (unhide HB3).set (16 + k) _
  ·have hd : decide (n = 1 ∨ n = 2) = false := decide_eq_false hst
   rw [hd]
   have HST := hide hst
   clear hst hd
   go_wp2
   go_end0
   refine ⟨rfl, unhide M3, ?_⟩
   unfold tallied
   rw [if_neg (unhide HST)]
   exact unhide HB3
 ·go_enter Try.func105, Try.ntmps105
  go_wp2
  go_quiet (fail)
  go_wp2
  go_region
  go_wp2_with fail
  refine (sold_any n pa k un _).mono ?_
  rintro e w3 ⟨rfl, hm⟩
  have hb3 : Has w3 b (cs.setIfInBounds (12 + n) (.int .i64 (x + times))) 138 := hm.has (((((unhide H).alloc _).alloc _).drewN (nq + 1)).set (12 + n) _) (fun x => x)
  have hs0 : Has w3 (w.heap.size + 1) #[.int .i64 n, .int .i64 pa, .int .i64 k, .int .i64 un] 170 :=
   hm.has (Has.set_ne (Has.drewN (by have := Has.new (w.alloc (.cells #[.int .i64 row, .int .i64 col] 32)) #[.int .i64 n, .int .i64 pa, .int .i64 k, .int .i64 un] 170; rwa [World.size_alloc] at this) (nq + 1)) (by simp; omega) _) (fun x => x)
  have m3 : Mod (· = b) w w3 := ((((((Mod.refl _ w).alloc _).alloc _).drewN (nq + 1)).at (12 + n) _)).trans (hm.mono (fun _ _ x => x.elim))
  have y3 := hb3.cell (16 + k)
  have z3 := hb3.frozen
  have s3 := hs0.cell 2
  rw [Array.getElem?_setIfInBounds, if_neg (by omega), (unhide HY)] at y3
  simp only [List.getElem?_toArray, List.getElem?_cons_succ, List.getElem?_cons_zero] at s3
  have HB3 := hide hb3
  have M3 := hide m3
  clear hm hb3 hs0 m3 c2 cx cy hz w1
  by_cases hst : n = 1 ∨ n = 2
  ·have hd : decide (n = 1 ∨ n = 2) = true := decide_eq_true hst
   rw [hd]
   have HST := hide hst
   clear hst hd
   have w2 := wrap_id (y + times) (by omega) (by omega)
   go_wp2_with fail
   go_region
   go_wp2
   go_end0
   refine ⟨rfl, ((unhide M3).at (16 + k) _).drew, ?_⟩
   unfold tallied
   rw [if_pos (unhide HST)]
   exact (unhide HB3).set (16 + k) _
  ·have hd : decide (n = 1 ∨ n = 2) = false := decide_eq_false hst
   rw [hd]
   have HST := hide hst
   clear hst hd
   go_wp2
   go_end0
   refine ⟨rfl, unhide M3, ?_⟩
   unfold tallied
   rw [if_neg (unhide HST)]
   exact unhide HB3
end Go.Proofs.Ythhibagcpjeihaa
