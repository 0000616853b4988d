import Derived.Test.YtlcbemcamdafjaaCrecountedBaseModel
import Derived.Test.YtlcbemcamdafjaaCrecountedCellsTape
import Derived.Test.YtlcbemcamdafjaaCrecountedTape4
import Derived.Test.YtlcbemcamdafjaaCrecountedTape2Append
import Derived.Handy
import Derived.ChangeKeysEq
import Derived.DeepKeys
import Derived.BigQuiet
import Derived.Deep.QuietTactic
import Derived.WideKeyArgs
import Derived.DeepKeys4
import Derived.MapViews
/- A row of seats in memory. -/
namespace Go.Proofs.Ytlcbemcamdafjaa
open Go.RowKit
open M
set_option linter.unusedVariables false
set_option linter.unusedSimpArgs false
set_option maxRecDepth 100000
set_option maxHeartbeats 2000000

def seaV (s : Sea) : Array Value := #[.int .i64 s.row, .int .i64 s.col, .int .i64 s.st, .int .i64 s.pa, .int .i64 s.cl, .int .i64 s.un]

/-- A row of seats in a block of its own. -/
structure RowS (w : World) (g cap : Nat) (l : List Sea) : Prop where
  cur : ∃ cur, Has w g cur 61 ∧ cur.size = cap * 6 ∧ ∀ i (h : i < l.length) j, j < 6 → cur[i * 6 + j]? = (seaV l[i])[j]?
  le : l.length ≤ cap
  max : cap ≤ maxLen

theorem RowS.cell {w : World} {g cap : Nat} {l : List Sea} (h : RowS w g cap l) (i : Nat) (hi : i < l.length) (j : Nat) (hj : j < 6) : w.cell? ⟨g, i * 6 + j, none⟩ = (seaV l[i])[j]? := by
  obtain ⟨cur, h1, h2, h3⟩ := h.cur
  rw [h1.cell]
  exact h3 i hi j hj

theorem RowS.row {w : World} {g cap : Nat} {l : List Sea} (h : RowS w g cap l) (i : Nat) (hi : i < l.length) : w.cell? ⟨g, i * 6, none⟩ = some (.int .i64 l[i].row) := h.cell i hi 0 (by omega)
theorem RowS.col {w : World} {g cap : Nat} {l : List Sea} (h : RowS w g cap l) (i : Nat) (hi : i < l.length) : w.cell? ⟨g, i * 6 + 1, none⟩ = some (.int .i64 l[i].col) := h.cell i hi 1 (by omega)
theorem RowS.st {w : World} {g cap : Nat} {l : List Sea} (h : RowS w g cap l) (i : Nat) (hi : i < l.length) : w.cell? ⟨g, i * 6 + 2, none⟩ = some (.int .i64 l[i].st) := h.cell i hi 2 (by omega)
theorem RowS.pa {w : World} {g cap : Nat} {l : List Sea} (h : RowS w g cap l) (i : Nat) (hi : i < l.length) : w.cell? ⟨g, i * 6 + 3, none⟩ = some (.int .i64 l[i].pa) := h.cell i hi 3 (by omega)
theorem RowS.cl {w : World} {g cap : Nat} {l : List Sea} (h : RowS w g cap l) (i : Nat) (hi : i < l.length) : w.cell? ⟨g, i * 6 + 4, none⟩ = some (.int .i64 l[i].cl) := h.cell i hi 4 (by omega)
theorem RowS.un {w : World} {g cap : Nat} {l : List Sea} (h : RowS w g cap l) (i : Nat) (hi : i < l.length) : w.cell? ⟨g, i * 6 + 5, none⟩ = some (.int .i64 l[i].un) := h.cell i hi 5 (by omega)
theorem RowS.lt {w : World} {g cap : Nat} {l : List Sea} (h : RowS w g cap l) : g < w.heap.size := by
  obtain ⟨cur, h1, _⟩ := h.cur
  exact h1.lt
theorem RowS.mod {w w' : World} {g cap : Nat} {l : List Sea} {S : Nat → Prop} (h : RowS w g cap l) (hm : Mod S w w') (hg : ¬ S g) : RowS w' g cap l := by
  obtain ⟨cur, h1, h2, h3⟩ := h.cur
  exact ⟨⟨cur, hm.has h1 hg, h2, h3⟩, h.le, h.max⟩

theorem flat_at {α : Type} (k : Nat) (hk : 0 < k) (f : α → List Value) (hf : ∀ x, (f x).length = k) : ∀ (l : List α) (i : Nat) (h : i < l.length) (j : Nat), j < k → (l.flatMap f)[i * k + j]? = (f l[i])[j]?
  | [], i, h, _, _ => absurd h (Nat.not_lt_zero _)
  | x :: l, 0, h, j, hj => by
    rw [List.flatMap_cons, Nat.zero_mul, Nat.zero_add, List.getElem?_append_left (by rw [hf]; exact hj)]
    rfl
  | x :: l, i + 1, h, j, hj => by
    rw [List.flatMap_cons, List.getElem?_append_right (by rw [hf, Nat.add_mul]; omega), hf]
    rw [show (i + 1) * k + j - k = i * k + j by rw [Nat.add_mul, Nat.one_mul]; omega]
    exact flat_at k hk f hf l i (by simpa using h) j hj
theorem flat_len {α : Type} (k : Nat) (f : α → List Value) (hf : ∀ x, (f x).length = k) : ∀ (l : List α), (l.flatMap f).length = l.length * k
  | [] => by simp
  | x :: l => by rw [List.flatMap_cons, List.length_append, flat_len k f hf l, hf, List.length_cons, Nat.add_mul]; omega

def seaL (s : Sea) : List Value := (seaV s).toList
theorem seaL_len (s : Sea) : (seaL s).length = 6 := rfl

/-- A row that has grown is a row of seats. -/
theorem rowS_of {w : World} {g n cap : Nat} {l : List Sea} (h : w.ownsRow 0 61 6 (.slice (some ⟨g, 0, none⟩) n cap) l.length (l.flatMap seaL)) : n = l.length ∧ RowS w g cap l := by
  obtain ⟨h0, h1 | ⟨g', cap', cur, hv, hb, hg, hn, hm, hsz, ht⟩⟩ := h
  · exact absurd h1.1 (by simp)
  · injection hv with e1 e2 e3
    injection e1 with e1
    injection e1 with e1
    subst e1 e2 e3
    refine ⟨rfl, ⟨cur, hg, hsz, fun i hi j hj => ?_⟩, hn, hm⟩
    have := flat_at 6 (by omega) seaL seaL_len l i hi j hj
    rw [← ht, List.getElem?_take, if_pos (by omega)] at this
    rw [← Array.getElem?_toList, this]
    simp [seaL]

theorem rowS_owns {w : World} {g cap : Nat} {l : List Sea} (h : RowS w g cap l) : w.ownsRow 0 61 6 (.slice (some ⟨g, 0, none⟩) l.length cap) l.length (l.flatMap seaL) := by
  obtain ⟨cur, h1, h2, h3⟩ := h.cur
  refine ⟨flat_len 6 seaL seaL_len l, .inr ⟨g, cap, cur, rfl, Nat.zero_le _, h1, h.le, h.max, h2, ?_⟩⟩
  apply List.ext_getElem?
  intro k
  rw [List.getElem?_take]
  by_cases hk : k < l.length * 6
  · rw [if_pos hk]
    have hi : k / 6 < l.length := by omega
    have e : k = k / 6 * 6 + k % 6 := by omega
    rw [e, flat_at 6 (by omega) seaL seaL_len l (k / 6) hi (k % 6) (by omega), Array.getElem?_toList, h3 _ hi _ (by omega)]
    simp [seaL]
  · rw [if_neg hk, List.getElem?_eq_none (by rw [flat_len 6 seaL seaL_len]; omega)]

theorem info114 : (Try.prog.info? 61).map (fun i => (i.zero, i.size, i.bytes)) = some (some (.agg #[.int .i64 0, .int .i64 0, .int .i64 0, .int .i64 0, .int .i64 0, .int .i64 0]), 6, 48) := by kernel_rfl

end Go.Proofs.Ytlcbemcamdafjaa
/- Four numbers are compared with four. -/
namespace Go.Proofs.Ytlcbemcamdafjaa
open Go.RowKit
set_option linter.unusedVariables false
set_option maxRecDepth 100000

def same4 (a0 a1 a2 a3 b0 b1 b2 b3 : Int) : Bool := a0 == b0 && (a1 == b1 && (a2 == b2 && a3 == b3))

theorem part3 (xs : Array Value) (i : Nat) (v : Value) (h : xs[i]? = some v) (w : World) : (part 3 xs i).run Try.prog w = .ok v w := by
  unfold part
  simp [Sem.run_bind, isAgg, run_underlying Try.underlying3, h]

theorem eq_step (n : Nat) (is : List Nat) (xs ys : Array Value) (i : Nat) (x y : Int) (hx : xs[i * 1]? = some (.int .i64 x)) (hy : ys[i * 1]? = some (.int .i64 y)) (w : World) :
    (Op.eqItems (n + 1) 3 1 xs ys (i :: is)).run Try.prog w = if (x == y) = true then (Op.eqItems (n + 1) 3 1 xs ys is).run Try.prog w else .ok false w := by
  have r : (Op.equalIn (n + 1) 3 (.int .i64 x) (.int .i64 y)).run Try.prog w = .ok (x == y) w := run_equalIn_int w n 3 .i64 .i64 x y Try.underlying3
  simp only [Op.eqItems, Sem.run_bind, part3 _ _ _ hx, part3 _ _ _ hy, r, Result.andThen_ok]
  cases x == y
  · rfl
  · rfl

theorem eq4n (n : Nat) (a0 a1 a2 a3 b0 b1 b2 b3 : Int) (w : World) :
    (Op.equalIn (n + 2) 33 (.agg #[.int .i64 a0, .int .i64 a1, .int .i64 a2, .int .i64 a3]) (.agg #[.int .i64 b0, .int .i64 b1, .int .i64 b2, .int .i64 b3])).run Try.prog w = .ok (same4 a0 a1 a2 a3 b0 b1 b2 b3) w := by
  have hi : (Try.prog.info? 3).isSome = true := by kernel_rfl
  obtain ⟨i3, hi⟩ := Option.isSome_iff_exists.1 hi
  have c3 : Try.prog.cellsOf 3 = 1 := by kernel_rfl
  rw [run_equalIn_array w (n + 1) _ _ Try.underlying33 hi, c3]
  rw [show List.range 4 = [0, 1, 2, 3] from rfl]
  unfold same4
  rw [eq_step n _ _ _ 0 a0 b0 rfl rfl, eq_step n _ _ _ 1 a1 b1 rfl rfl, eq_step n _ _ _ 2 a2 b2 rfl rfl, eq_step n _ _ _ 3 a3 b3 rfl rfl]
  cases a0 == b0 <;> cases a1 == b1 <;> cases a2 == b2 <;> cases a3 == b3 <;> rfl
theorem eq40 (a0 a1 a2 a3 b0 b1 b2 b3 : Int) (w : World) :
    (Op.equalIn 9999 33 (.agg #[.int .i64 a0, .int .i64 a1, .int .i64 a2, .int .i64 a3]) (.agg #[.int .i64 b0, .int .i64 b1, .int .i64 b2, .int .i64 b3])).run Try.prog w = .ok (same4 a0 a1 a2 a3 b0 b1 b2 b3) w := eq4n 9997 ..
theorem eq41 (a0 a1 a2 a3 b0 b1 b2 b3 : Int) (w : World) :
    (Op.equalIn 10000 33 (.agg #[.int .i64 a0, .int .i64 a1, .int .i64 a2, .int .i64 a3]) (.agg #[.int .i64 b0, .int .i64 b1, .int .i64 b2, .int .i64 b3])).run Try.prog w = .ok (same4 a0 a1 a2 a3 b0 b1 b2 b3) w := eq4n 9998 ..
theorem guard40 (op : BinOp) (x y : Operand) (xs ys : Array Value) (w : World) : (eqGuard op 33 x y (.agg xs) (.agg ys)).run Try.prog w = .ok () w := by
  have h : Try.prog.eqGuardType Try.prog.depth 33 = false := by kernel_rfl
  unfold eqGuard
  cases op <;> simp [Sem.run, program, h]
theorem neq40 (a0 a1 a2 a3 b0 b1 b2 b3 : Int) (w : World) :
    (binOp .neq 33 (.agg #[.int .i64 a0, .int .i64 a1, .int .i64 a2, .int .i64 a3]) (.agg #[.int .i64 b0, .int .i64 b1, .int .i64 b2, .int .i64 b3])).run Try.prog w = .ok (.bool (!same4 a0 a1 a2 a3 b0 b1 b2 b3)) w := by
  simp only [binOp, Op.equal, Sem.run_bind]
  rw [show Op.maxDepth = 9998 + 2 from rfl, eq4n]
  rfl
theorem same4_self (a0 a1 a2 a3 : Int) : same4 a0 a1 a2 a3 a0 a1 a2 a3 = true := by simp [same4]
end Go.Proofs.Ytlcbemcamdafjaa
/- A region that draws its order, and whose callees only read and make memory: one walk of the text's order serves every order. -/
namespace Go.Proofs.Ytlcbemcamdafjaa
open Go.RowKit
set_option linter.unusedVariables false

/-- A world in which the blocks of w0 are as they were. -/
structure Wd (w0 : World) where
  W : World
  h : Mod No w0 W

theorem wp_region_wd {P : Program} {id : Nat} {Q : Exit → Act → World → Prop} {a : Act} {w w0 : World} {l : List Oper} (hm : P.follows .mixedOrders = true) (hB : Region.lexB .any l.toArray = true) (h0 : Mod No w0 w)
    (h : wpQuiet P l.toArray (fun w' => ∃ x : Wd w0, w' = x.W) (fun a' => ∀ w', (∃ x : Wd w0, w' = x.W) → Q .normal a' w') l a) : (Code.region id l.toArray true).wp P Q a w :=
  wp_region_quiet (C := fun w' => ∃ x : Wd w0, w' = x.W) hm hB ⟨⟨_, h0.drew⟩, rfl⟩ (by simpa using h)

theorem wd_ne (w0 : World) : Nonempty (Wd w0) := ⟨⟨w0, Mod.refl _ _⟩⟩
/-- A callee's contract, met in such a world. -/
theorem Calls.wd {P : Program} {f : FuncId} {args : Array Value} {w0 : World} {v : Value} (x : Wd w0)
    (h : Calls P f args x.W fun e w' => e = .returned v ∧ Mod No x.W w') : Calls P f args x.W fun e w'' => e = .returned v ∧ ∃ y : Wd w0, w'' = y.W :=
  h.mono fun _ w'' ⟨he, hm⟩ => ⟨he, ⟨w'', x.h.trans hm⟩, rfl⟩

theorem Has.wd {w0 : World} {b : Nat} {cs : Array Value} {T : TypeId} (h : Has w0 b cs T) (x : Wd w0) (o : Nat) : x.W.cell? ⟨b, o, none⟩ = cs[o]? := (x.h.has h (fun z => z)).cell o
end Go.Proofs.Ytlcbemcamdafjaa
/- The map of seats by their places: what a look-up, a store and a delete do to a list of entries. -/
namespace Go.Proofs.Ytlcbemcamdafjaa
open Go.RowKit Go.WideMaps
open Go.ChangeMaps (setBlock)
set_option linter.unusedVariables false
set_option linter.unusedSimpArgs false
set_option maxRecDepth 100000

theorem laidOut : laidOutB Try.prog = true := by kernel_rfl
theorem law30 : KeyLaw Try.prog 32 := deep_law_laid laidOut (m := 2) (by omega) (of_decide_eq_true (by kernel_rfl)) (by kernel_rfl) (by rw [Try.underlying32])

/-- A place, a seat, as values. -/
def kv (r c : Int) : Value := .agg #[.int .i64 r, .int .i64 c]
def sv (s p k u : Int) : Value := .agg #[.int .i64 s, .int .i64 p, .int .i64 k, .int .i64 u]

theorem key30 (r c : Int) (hr : 0 ≤ r ∧ r ≤ 1000) (hc : 0 ≤ c ∧ c ≤ 1000) : ∃ l, keyOf Try.prog 32 (kv r c) = some l := by
  have w1 : (Lit.int .i64 r).wf = true := by simp [Lit.wf, IntKind.min, IntKind.max, IntKind.signed, IntKind.bits]; omega
  have w2 : (Lit.int .i64 c).wf = true := by simp [Lit.wf, IntKind.min, IntKind.max, IntKind.signed, IntKind.bits]; omega
  have hk : Try.prog.keyType 32 = true := by kernel_rfl
  have c30 : Try.prog.cellsOf 32 = 2 := by kernel_rfl
  have c3 : Try.prog.cellsOf 3 = 1 := by kernel_rfl
  have ts : ∃ n, Try.prog.types.size + 1 = n + 2 := ⟨Try.prog.types.size - 1, by have : 0 < Try.prog.types.size := of_decide_eq_true (by kernel_rfl); omega⟩
  obtain ⟨n, hn⟩ := ts
  apply Option.isSome_iff_exists.1
  unfold keyOf
  rw [Try.underlying32, hn]
  simp [hk, kv, Value.formed, Try.underlying32, c30, c3, Program.keyLits, Try.underlying3, w1, w2, Value.cells]

/-- One entry: when it came, its place, its seat. -/
structure MEnt where
  born : Nat
  r : Int
  c : Int
  s : Int
  p : Int
  k : Int
  u : Int

def MEnt.obj (e : MEnt) : MapEntry := ⟨kv e.r e.c, sv e.s e.p e.k e.u, e.born⟩
def mapObj (l : List MEnt) (clock : Nat) : Obj := .map (l.map MEnt.obj).toArray clock
/-- Is this the entry of the place? -/
def MEnt.is (r c : Int) (e : MEnt) : Bool := e.r == r && e.c == c

/-- What holds of every list of entries: places apart, births apart and past. -/
structure MapOk (l : List MEnt) (clock : Nat) : Prop where
  keys : ∀ e ∈ l, 0 ≤ e.r ∧ e.r ≤ 1000 ∧ 0 ≤ e.c ∧ e.c ≤ 1000
  apart : l.Pairwise fun a b => ¬ (a.r = b.r ∧ a.c = b.c)
  births : l.Pairwise fun a b => a.born ≠ b.born
  past : ∀ e ∈ l, e.born < clock

theorem kv_inj {r c r' c' : Int} : kv r c = kv r' c' ↔ r = r' ∧ c = c' := by
  constructor
  · intro h
    simp only [kv, Value.agg.injEq] at h
    simp at h
    exact h
  · rintro ⟨rfl, rfl⟩; rfl

theorem find_of {l : List MEnt} (hp : l.Pairwise fun a b => ¬ (a.r = b.r ∧ a.c = b.c)) {j : Nat} (hj : j < l.length) {r c : Int} (h : l[j].r = r ∧ l[j].c = c) : l.findIdx? (MEnt.is r c) = some j := by
  rw [List.findIdx?_eq_some_iff_getElem]
  refine ⟨hj, by simp [MEnt.is, h.1, h.2], fun i hi => ?_⟩
  have := (List.pairwise_iff_getElem.1 hp) i j (by omega) hj hi
  simp only [MEnt.is, Bool.and_eq_true, beq_iff_eq]
  rintro ⟨h1, h2⟩
  exact this ⟨by rw [h1, h.1], by rw [h2, h.2]⟩

/-- findKey, over such a list. -/
theorem run_find (w : World) (l : List MEnt) (clock : Nat) (hl : MapOk l clock) (r c : Int) (hr : 0 ≤ r ∧ r ≤ 1000) (hc : 0 ≤ c ∧ c ≤ 1000) :
    (Instr.findKey 32 (kv r c) (l.map MEnt.obj)).run Try.prog w = .ok ((l.findIdx? (MEnt.is r c)).map fun j => (j, (l[j]?.map fun e => sv e.s e.p e.k e.u).getD undef)) w := by
  obtain ⟨lx, hx⟩ := key30 r c hr hc
  rcases law30.find w hx (l.map MEnt.obj) (fun e he => by
    obtain ⟨m, hm, rfl⟩ := List.mem_map.1 he
    obtain ⟨a, b, c', d⟩ := hl.keys m hm
    exact key30 m.r m.c ⟨a, b⟩ ⟨c', d⟩) with ⟨h, hn⟩ | ⟨j, e, h, hj, hk⟩
  · rw [h]
    have : l.findIdx? (MEnt.is r c) = none := by
      rw [List.findIdx?_eq_none_iff]
      intro e he
      have := hn _ (List.mem_map_of_mem he)
      simp only [MEnt.is, Bool.and_eq_false_iff, beq_eq_false_iff_ne, ne_eq]
      by_cases h1 : e.r = r
      · right; intro h2
        exact this (kv_inj.2 ⟨h1, h2⟩)
      · left; exact h1
    rw [this]
    rfl
  · rw [h]
    rw [List.getElem?_map] at hj
    obtain ⟨m, hm, rfl⟩ := Option.map_eq_some_iff.1 hj
    obtain ⟨hj', rfl⟩ := List.getElem?_eq_some_iff.1 hm
    have hk' := kv_inj.1 hk
    rw [find_of hl.apart hj' hk']
    simp [hj', MEnt.obj]

/-- The seat that a look-up finds: an empty one, if there is no entry. -/
def lookE (l : List MEnt) (r c : Int) : Int × Int × Int × Int := ((l.find? (MEnt.is r c)).map fun e => (e.s, e.p, e.k, e.u)).getD (0, 0, 0, 0)

theorem find?_idx (l : List MEnt) (p : MEnt → Bool) : l.find? p = (l.findIdx? p).bind fun j => l[j]? := by
  induction l with
  | nil => rfl
  | cons e l ih =>
    simp only [List.find?_cons, List.findIdx?_cons]
    cases p e
    · simp only [Bool.false_eq_true, if_false, ih]
      cases l.findIdx? p <;> simp
    · simp

theorem zero171 (w : World) : (zeroValue 143).run Try.prog w = .ok (sv 0 0 0 0) w := by kernel_rfl

theorem map_erase (l : List MEnt) (j : Nat) : (l.map MEnt.obj).eraseIdx j = (l.eraseIdx j).map MEnt.obj := by
  induction l generalizing j with
  | nil => simp
  | cons e l ih => cases j <;> simp_all
theorem map_modify (g : MapEntry → MapEntry) (g' : MEnt → MEnt) : ∀ (l : List MEnt) (j : Nat) (hj : j < l.length), g l[j].obj = (g' l[j]).obj → (l.map MEnt.obj).modify j g = (l.modify j g').map MEnt.obj
  | e :: l, 0, _, h => by simpa using h
  | e :: l, j + 1, hj, h => by
    have := map_modify g g' l j (by simpa using hj) (by simpa using h)
    simp [this]

theorem erase_obj (l : List MEnt) (j : Nat) : (l.map MEnt.obj).toArray.eraseIdxIfInBounds j = ((l.eraseIdx j).map MEnt.obj).toArray := by
  apply Array.toList_inj.1
  rw [Array.toList_eraseIdxIfInBounds]
  simp only
  induction l generalizing j with
  | nil => simp
  | cons e l ih => cases j <;> simp_all

theorem run_lookup (w : World) (m : Nat) (l : List MEnt) (clock : Nat) (hm : w.heap[m]? = some (mapObj l clock)) (hl : MapOk l clock) (r c : Int) (hr : 0 ≤ r ∧ r ≤ 1000) (hc : 0 ≤ c ∧ c ≤ 1000) :
    (Instr.lookup 119 (.map (some m)) (kv r c) false).run Try.prog w = .ok (sv (lookE l r c).1 (lookE l r c).2.1 (lookE l r c).2.2.1 (lookE l r c).2.2.2) w := by
  obtain ⟨lx, hx⟩ := key30 r c hr hc
  have h1 := fun em => law30.check w em hx
  have h2 := run_find w l clock hl r c hr hc
  unfold mapObj at hm
  have hg : (getObj m).run Try.prog w = .ok (.map (l.map MEnt.obj).toArray clock) w := by simp [getObj, Sem.run, hm]
  have hs : ∀ o, (setObj m o).run Try.prog w = .ok () (setBlock w m o) := fun o => by simp [setObj, Sem.run, hm, setBlock]
  rw [lookE, find?_idx]
  cases hf : l.findIdx? (MEnt.is r c) with
  | none =>
    rw [hf] at h2
    simp [Instr.lookup, run_underlying Try.underlying119, hg, h1, h2, zero171, sv]
  | some j =>
    have hj := (List.findIdx?_eq_some_iff_getElem.1 hf).1
    rw [hf] at h2
    simp [hj] at h2
    simp [Instr.lookup, run_underlying Try.underlying119, hg, h1, h2, zero171, hj]

theorem run_delete (w : World) (m : Nat) (l : List MEnt) (clock : Nat) (ty : TypeId) (hm : w.heap[m]? = some (mapObj l clock)) (hl : MapOk l clock) (r c : Int) (hr : 0 ≤ r ∧ r ≤ 1000) (hc : 0 ≤ c ∧ c ≤ 1000) :
    (Builtin.delete_ #[119, 32] ty #[.map (some m), kv r c]).run Try.prog w =
      .ok (.tuple #[]) (setBlock w m (mapObj (match l.findIdx? (MEnt.is r c) with | some j => l.eraseIdx j | none => l) clock)) := by
  obtain ⟨lx, hx⟩ := key30 r c hr hc
  have h1 := fun em => law30.check w em hx
  have h2 := run_find w l clock hl r c hr hc
  unfold mapObj at hm
  have hg : (getObj m).run Try.prog w = .ok (.map (l.map MEnt.obj).toArray clock) w := by simp [getObj, Sem.run, hm]
  have hs : ∀ o, (setObj m o).run Try.prog w = .ok () (setBlock w m o) := fun o => by simp [setObj, Sem.run, hm, setBlock]
  cases hf : l.findIdx? (MEnt.is r c) with
  | none =>
    rw [hf] at h2
    simp [Builtin.delete_, run_underlying Try.underlying119, hg, hs, h1, h2, mapObj]
  | some j =>
    have hj := (List.findIdx?_eq_some_iff_getElem.1 hf).1
    rw [hf] at h2
    simp [hj] at h2
    simp [Builtin.delete_, run_underlying Try.underlying119, hg, hs, h1, h2, mapObj, hj]
    rw [map_erase]

theorem run_update (w : World) (m : Nat) (l : List MEnt) (clock : Nat) (hm : w.heap[m]? = some (mapObj l clock)) (hl : MapOk l clock) (r c s p k u : Int) (hr : 0 ≤ r ∧ r ≤ 1000) (hc : 0 ≤ c ∧ c ≤ 1000) :
    (Instr.mapUpdate 119 (.map (some m)) (kv r c) (sv s p k u)).run Try.prog w =
      .ok () (match l.findIdx? (MEnt.is r c) with
        | some j => setBlock w m (mapObj (l.modify j fun e => ⟨e.born, e.r, e.c, s, p, k, u⟩) clock)
        | none => setBlock w m (mapObj (l ++ [⟨clock, r, c, s, p, k, u⟩]) (clock + 1))) := by
  obtain ⟨lx, hx⟩ := key30 r c hr hc
  have h1 := fun em => law30.check w em hx
  have h2 := run_find w l clock hl r c hr hc
  have h3 := law30.stays w hx
  unfold mapObj at hm
  have hg : (getObj m).run Try.prog w = .ok (.map (l.map MEnt.obj).toArray clock) w := by simp [getObj, Sem.run, hm]
  have hs : ∀ o, (setObj m o).run Try.prog w = .ok () (setBlock w m o) := fun o => by simp [setObj, Sem.run, hm, setBlock]
  cases hf : l.findIdx? (MEnt.is r c) with
  | none =>
    rw [hf] at h2
    simp [Instr.mapUpdate, run_underlying Try.underlying119, hg, hs, h1, h2, mapObj, MEnt.obj]
  | some j =>
    have hj := (List.findIdx?_eq_some_iff_getElem.1 hf)
    obtain ⟨hj, hk, _⟩ := hj
    simp [MEnt.is] at hk
    rw [hf] at h2
    simp [hj] at h2
    have hk' : (l[j]).obj.key = kv r c := by simp [MEnt.obj, hk]
    simp [Instr.mapUpdate, run_underlying Try.underlying119, hg, hs, h1, h2, mapObj, hj, hk', h3]
    rw [map_modify _ (fun e => ⟨e.born, e.r, e.c, s, p, k, u⟩) l j hj (by simp [MEnt.obj, hk])]
end Go.Proofs.Ytlcbemcamdafjaa
