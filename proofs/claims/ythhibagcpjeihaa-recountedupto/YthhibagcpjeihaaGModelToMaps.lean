import Derived.Test.YthhibagcpjeihaaGBaseToAppend
import Derived.Deep.MidRow
import Derived.Handy
import Derived.ChangeKeysEq
import Derived.DeepKeys
import Derived.BigQuiet
import Derived.Deep.QuietTactic
import Derived.WideKeyArgs
import Derived.DeepKeys4
import Derived.MapViews
/- The plain model: seats, flights, worlds, commands; what the document's answer reckons. Nothing of the program. -/
namespace Go.Proofs.Ythhibagcpjeihaa.M

structure Sea where
  row : Int
  col : Int
  st : Int
  pa : Int
  cl : Int
  un : Int

structure Pla where
  rows : Int
  cols : Int
  front : Int
  l0 : Int
  l1 : Int
  l2 : Int
  l3 : Int
  ep : Int

structure Fli where
  num : Int
  pla : Pla
  seats : List Sea
  ep : Int

structure Wor where
  fls : List Fli
  now : Int

structure Cmd where
  kind : Int
  flight : Int
  ar : Int
  ac : Int
  tr : Int
  tc : Int
  party : Int
  cls : Int
  time : Int
  pla : Pla

/-- A counter, one more (as the machine counts). -/
def nx (e : Int) : Int := Go.IntKind.i64.wrap (e + 1)
theorem nx_eq (e : Int) : Go.IntKind.i64.wrap (e + 1) = nx e := rfl
/-- A flight's plane, its epoch one more; at an epoch. -/
def Pla.next (p : Pla) : Pla := ⟨p.rows, p.cols, p.front, p.l0, p.l1, p.l2, p.l3, nx p.ep⟩
def Pla.at (p : Pla) (e : Int) : Pla := ⟨p.rows, p.cols, p.front, p.l0, p.l1, p.l2, p.l3, e⟩

def Pla.lim (p : Pla) : Nat → Int
  | 0 => p.l0
  | 1 => p.l1
  | 2 => p.l2
  | _ => p.l3

/-- A seat that is sold. -/
def Sea.sold (s : Sea) : Bool := s.st == 1 || s.st == 2
/-- A seat, made free. -/
def Sea.freed (s : Sea) : Sea := ⟨s.row, s.col, 0, 0, 0, 0⟩

def nFree (l : List Sea) : Nat := l.countP fun s => s.st == 0
/-- Seats of a state, in the front cabin or behind it. -/
def nAt (p : Pla) (fr : Bool) (st : Int) (l : List Sea) : Nat := l.countP fun s => (decide (s.row ≤ p.front) == fr) && s.st == st
/-- Seats sold of a class. -/
def nSold (c : Int) (l : List Sea) : Nat := l.countP fun s => s.sold && s.cl == c
/-- Seats sold of the classes from one on. -/
def nFrom (c : Int) (l : List Sea) : Nat := l.countP fun s => s.sold && decide (c ≤ s.cl)

/-- The least that a class and those ahead of it allow. -/
def leastTo (p : Pla) (l : List Sea) : Nat → Int
  | 0 => min (nFree l : Int) (p.lim 0 - nFrom 0 l)
  | c + 1 => min (leastTo p l c) (p.lim (c + 1) - nFrom ((c : Int) + 1) l)
def leftOf (p : Pla) (l : List Sea) (c : Nat) : Int := max (leastTo p l c) 0

def Pla.sized (p : Pla) : Bool := decide (1 ≤ p.rows ∧ p.rows ≤ 20 ∧ 1 ≤ p.cols ∧ p.cols ≤ 6 ∧ 0 ≤ p.front ∧ p.front ≤ p.rows)
def Pla.limited (p : Pla) : Bool := decide (0 ≤ p.l0 ∧ p.l0 ≤ 200 ∧ 0 ≤ p.l1 ∧ p.l1 ≤ p.l0 ∧ 0 ≤ p.l2 ∧ p.l2 ≤ p.l1 ∧ 0 ≤ p.l3 ∧ p.l3 ≤ p.l2)

/-- Where a place stands among the seats. -/
def Pla.has (p : Pla) (r c : Int) : Bool := decide (1 ≤ r ∧ r ≤ p.rows ∧ 1 ≤ c ∧ c ≤ p.cols)
def Pla.idx (p : Pla) (r c : Int) : Nat := ((r - 1) * p.cols + (c - 1)).toNat

def noSea : Sea := ⟨0, 0, 0, 0, 0, 0⟩
def Fli.seat (f : Fli) (r c : Int) : Sea := f.seats.getD (f.pla.idx r c) noSea

/-- One seat, well formed. -/
structure Sea.wf (s : Sea) : Prop where
  s0 : 0 ≤ s.st
  s1 : s.st ≤ 3
  c0 : 0 ≤ s.cl
  c1 : s.cl ≤ 3
  bare : s.st = 0 ∨ s.st = 3 → s.pa = 0 ∧ s.cl = 0 ∧ s.un = 0
  pa : 0 ≤ s.pa ∧ s.pa ≤ 1000
  un : 0 ≤ s.un ∧ s.un ≤ 4611686018427387904
  bk : s.st = 2 → s.un = 0

structure Fli.wf (f : Fli) : Prop where
  sized : f.pla.sized = true
  limited : f.pla.limited = true
  len : (f.seats.length : Int) = f.pla.rows * f.pla.cols
  place : ∀ i (h : i < f.seats.length), f.seats[i].row = (i : Int) / f.pla.cols + 1 ∧ f.seats[i].col = (i : Int) % f.pla.cols + 1
  seat : ∀ s ∈ f.seats, s.wf

theorem Fli.wf.bounds {f : Fli} (h : f.wf) : 1 ≤ f.pla.rows ∧ f.pla.rows ≤ 20 ∧ 1 ≤ f.pla.cols ∧ f.pla.cols ≤ 6 ∧ 0 ≤ f.pla.front ∧ f.pla.front ≤ f.pla.rows := by
  have := h.sized
  simpa [Pla.sized] using this

theorem Fli.wf.len_le {f : Fli} (h : f.wf) : f.seats.length ≤ 120 := by
  obtain ⟨a, b, c, d, _⟩ := h.bounds
  have hl := h.len
  have : f.pla.rows * f.pla.cols ≤ 20 * 6 := Int.mul_le_mul b d (by omega) (by omega)
  omega

/-- The index of a place is in range, and the seat there has that place. -/
theorem Fli.wf.idx_lt {f : Fli} (h : f.wf) {r c : Int} (hh : f.pla.has r c = true) : f.pla.idx r c < f.seats.length := by
  simp only [Pla.has, decide_eq_true_eq] at hh
  obtain ⟨h1, h2, h3, h4⟩ := hh
  obtain ⟨b1, b2, b3, b4, _⟩ := h.bounds
  have hl := h.len
  have m1 : (r - 1) * f.pla.cols ≤ (f.pla.rows - 1) * f.pla.cols := Int.mul_le_mul_of_nonneg_right (by omega) (by omega)
  have m2 : (f.pla.rows - 1) * f.pla.cols = f.pla.rows * f.pla.cols - f.pla.cols := by rw [Int.sub_mul, Int.one_mul]
  have m3 : 0 ≤ (r - 1) * f.pla.cols := Int.mul_nonneg (by omega) (by omega)
  unfold Pla.idx
  omega

theorem Fli.wf.idx_place {f : Fli} (h : f.wf) {r c : Int} (hh : f.pla.has r c = true) : (f.seats[f.pla.idx r c]'(h.idx_lt hh)).row = r ∧ (f.seats[f.pla.idx r c]'(h.idx_lt hh)).col = c := by
  have hp := h.place _ (h.idx_lt hh)
  simp only [Pla.has, decide_eq_true_eq] at hh
  obtain ⟨h1, h2, h3, h4⟩ := hh
  obtain ⟨b1, b2, b3, b4, _⟩ := h.bounds
  have m3 : 0 ≤ (r - 1) * f.pla.cols := Int.mul_nonneg (by omega) (by omega)
  have e : ((f.pla.idx r c : Nat) : Int) = (c - 1) + (r - 1) * f.pla.cols := by unfold Pla.idx; omega
  rw [e] at hp
  rw [Int.add_mul_ediv_right _ _ (by omega : f.pla.cols ≠ 0), Int.add_mul_emod_self_right, Int.ediv_eq_zero_of_lt (by omega) (by omega), Int.emod_eq_of_lt (by omega) (by omega)] at hp
  omega

/-- Every seat's place is in the plane, and its index is its own. -/
theorem Fli.wf.place_has {f : Fli} (h : f.wf) {i : Nat} (hi : i < f.seats.length) : f.pla.has f.seats[i].row f.seats[i].col = true ∧ f.pla.idx f.seats[i].row f.seats[i].col = i := by
  have hp := h.place i hi
  obtain ⟨b1, b2, b3, b4, _⟩ := h.bounds
  have hl := h.len
  have d0 := Int.emod_nonneg (i : Int) (by omega : f.pla.cols ≠ 0)
  have d1 := Int.emod_lt_of_pos (i : Int) (by omega : 0 < f.pla.cols)
  have d2 := Int.mul_ediv_add_emod (i : Int) f.pla.cols
  have d3 : 0 ≤ (i : Int) / f.pla.cols := Int.ediv_nonneg (by omega) (by omega)
  have d4 : (i : Int) / f.pla.cols < f.pla.rows := by
    apply Int.ediv_lt_of_lt_mul (by omega)
    omega
  have d5 : f.pla.cols * ((i : Int) / f.pla.cols) = (i : Int) / f.pla.cols * f.pla.cols := Int.mul_comm _ _
  constructor
  · simp only [Pla.has, decide_eq_true_eq]
    omega
  · unfold Pla.idx
    rw [hp.1, hp.2, show (i : Int) / f.pla.cols + 1 - 1 = (i : Int) / f.pla.cols from by omega]
    omega

theorem Fli.wf.place_inj {f : Fli} (h : f.wf) {i j : Nat} (hi : i < f.seats.length) (hj : j < f.seats.length) (hr : f.seats[i].row = f.seats[j].row) (hc : f.seats[i].col = f.seats[j].col) : i = j := by
  have h1 := (h.place_has hi).2
  have h2 := (h.place_has hj).2
  rw [hr, hc] at h1
  omega

/-! Counting -/

theorem countP_set (p : Sea → Bool) (l : List Sea) (i : Nat) (h : i < l.length) (a : Sea) :
    ((l.set i a).countP p : Int) = l.countP p - (if p l[i] then 1 else 0) + (if p a then 1 else 0) := by
  rw [List.countP_set h]
  have pos : p l[i] = true → 1 ≤ l.countP p := fun hp => List.countP_pos_iff.2 ⟨_, List.getElem_mem h, hp⟩
  cases h1 : p l[i] <;> cases h2 : p a
  · simp
  · simp
  · have := pos h1
    simp only [if_true, Bool.false_eq_true, if_false]
    omega
  · have := pos h1
    simp only [if_true]
    omega

theorem nFree_split (p : Pla) (l : List Sea) : nFree l = nAt p true 0 l + nAt p false 0 l := by
  unfold nFree nAt
  induction l with
  | nil => rfl
  | cons s l ih =>
    simp only [List.countP_cons, ih]
    by_cases h : s.row ≤ p.front <;> by_cases h' : s.st = 0 <;> simp [h, h'] <;> omega

theorem nFrom_split (l : List Sea) (hl : ∀ s ∈ l, 0 ≤ s.cl ∧ s.cl ≤ 3) : nFrom 0 l = nSold 0 l + nSold 1 l + nSold 2 l + nSold 3 l ∧ nFrom 1 l = nSold 1 l + nSold 2 l + nSold 3 l ∧
    nFrom 2 l = nSold 2 l + nSold 3 l ∧ nFrom 3 l = nSold 3 l := by
  unfold nFrom nSold
  induction l with
  | nil => exact ⟨rfl, rfl, rfl, rfl⟩
  | cons s l ih =>
    obtain ⟨i0, i1, i2, i3⟩ := ih (fun x hx => hl x (List.mem_cons_of_mem _ hx))
    obtain ⟨c0, c1⟩ := hl s (List.mem_cons_self)
    simp only [List.countP_cons, i0, i1, i2, i3]
    have : s.cl = 0 ∨ s.cl = 1 ∨ s.cl = 2 ∨ s.cl = 3 := by omega
    rcases this with h | h | h | h <;> cases hs : s.sold <;> simp [h] <;> omega

end Go.Proofs.Ythhibagcpjeihaa.M
/- Whole boxes read and written at once. -/
namespace Go.Proofs.Ythhibagcpjeihaa
open Go.RowKit
set_option linter.unusedVariables false

theorem Mod.setCells {S : Nat → Prop} {a : World} {b : Nat} (hb : S b ∨ a.heap.size ≤ b) : ∀ (vs : List Value) (o : Nat) (w : World), Mod S a w → Mod S a (w.setCells b o vs)
  | [], _, _, h => h
  | v :: r, o, w, h => Mod.setCells hb r (o + 1) _ (h.setCell (p := ⟨b, o, none⟩) hb v)

def setAll : Array Value → Nat → List Value → Array Value
  | cs, _, [] => cs
  | cs, o, v :: r => setAll (cs.setIfInBounds o v) (o + 1) r

theorem Has.setCells {b : Nat} {T : TypeId} : ∀ (vs : List Value) (o : Nat) (w : World) (cs : Array Value), Has w b cs T → Has (w.setCells b o vs) b (setAll cs o vs) T
  | [], _, _, _, h => h
  | v :: r, o, _, _, h => Has.setCells r (o + 1) _ _ (h.set o v)

theorem setAll_get : ∀ (vs : List Value) (o : Nat) (cs : Array Value) (i : Nat), (setAll cs o vs)[i]? = if o ≤ i ∧ i < o + vs.length ∧ i < cs.size then vs[i - o]? else cs[i]?
  | [], o, cs, i => by
    simp only [setAll, List.length_nil, Nat.add_zero]
    rw [if_neg (by omega)]
  | v :: r, o, cs, i => by
    simp only [setAll]
    rw [setAll_get r (o + 1) _ i]
    simp only [Array.size_setIfInBounds, List.length_cons]
    by_cases h : o + 1 ≤ i ∧ i < o + 1 + r.length ∧ i < cs.size
    · rw [if_pos h, if_pos ⟨by omega, by omega, h.2.2⟩]
      obtain ⟨k, rfl⟩ : ∃ k, i = o + 1 + k := ⟨i - (o + 1), by omega⟩
      rw [show o + 1 + k - (o + 1) = k by omega, show o + 1 + k - o = k + 1 by omega]
      rfl
    · rw [if_neg h]
      by_cases h' : o ≤ i ∧ i < o + (r.length + 1) ∧ i < cs.size
      · have : i = o := by omega
        subst this
        rw [if_pos h', Array.getElem?_setIfInBounds_self_of_lt h'.2.2, Nat.sub_self]
        rfl
      · rw [if_neg h']
        by_cases hi : o = i
        · subst hi
          rw [Array.getElem?_setIfInBounds, if_pos rfl, if_neg (by omega), Array.getElem?_eq_none (by omega)]
        · rw [Array.getElem?_setIfInBounds_ne hi]

theorem setAll_size : ∀ (vs : List Value) (o : Nat) (cs : Array Value), (setAll cs o vs).size = cs.size
  | [], _, _ => rfl
  | v :: r, o, cs => by simp only [setAll]; rw [setAll_size r (o + 1) _]; simp

theorem setAll_whole (cs vs : Array Value) (h : vs.size = cs.size) : setAll cs 0 vs.toList = vs := by
  apply Array.ext
  · rw [setAll_size, h]
  · intro i h1 h2
    have := setAll_get vs.toList 0 cs i
    rw [if_pos ⟨by omega, by simpa using h2, by omega⟩] at this
    rw [Array.getElem?_eq_getElem h1] at this
    simpa [Array.getElem?_eq_getElem h2] using this

theorem Has.range {w : World} {b : Nat} {cs : Array Value} {T : TypeId} (h : Has w b cs T) (o : Nat) (l : List Value) (hl : ∀ j v, l[j]? = some v → cs[o + j]? = some v) : w.rangeAt b o l :=
  fun j v hv => by rw [h.cell]; exact hl j v hv

/-- A box, or a part of it, is read. -/
theorem wpList_load_has {P : Program} {ops : Array Oper} {rest : List Oper} {op : Oper} {a : Act} {w : World} {Q : Exit → Act → World → Prop} (hgd : op.guard = none) (ty : TypeId) (x : Operand) (ho : op.op = .load ty x)
    (b o : Nat) (hx : a.eval x = .pointer (some ⟨b, o, none⟩)) (cs : Array Value) (T : TypeId) (hb : Has w b cs T) (l : Array Value) (hl : ∀ j v, l.toList[j]? = some v → cs[o + j]? = some v)
    (hu : (P.underlying ty).map (·.isRow) = some true) (hi : (P.info? ty).map (·.size) = some l.size)
    (h : wpList P ops Q rest (a.put op.dst (.agg l)) w) : wpList P ops Q (op :: rest) a w := by
  cases hd : P.underlying ty with
  | none => rw [hd] at hu; simp at hu
  | some d =>
    rw [hd] at hu
    exact wpList_load_mid hgd ty x ho b o hx l.toList d (hb.range o _ hl) hd (by simpa using hu) (by simpa using hi) h

/-- A whole box is written. -/
theorem wpList_store_has {P : Program} {ops : Array Oper} {rest : List Oper} {op : Oper} {a : Act} {w : World} {Q : Exit → Act → World → Prop} (hgd : op.guard = none) (ty : TypeId) (x y : Operand) (ho : op.op = .store ty x y)
    (b : Nat) (cells : Array Value) (hx : a.eval x = .pointer (some ⟨b, 0, none⟩)) (hy : a.eval y = .agg cells) (cs : Array Value) (T : TypeId) (hb : Has w b cs T) (hs : cells.size = cs.size)
    (hi : (P.info? ty).map (·.size) = some cells.size) (h1 : cells.all (·.oneCell') = true)
    (h : ∀ w', Has w' b cells T → Mod (fun k => k = b) w w' → wpList P ops Q rest (a.put op.dst undef) w') : wpList P ops Q (op :: rest) a w := by
  refine wpList_store_mid hgd ty x y ho b 0 cells hx hy (fun j hj => ⟨?_, hb.frozen _⟩) hi h1 (h _ ?_ ?_)
  · rw [hb.cell, Nat.zero_add, Array.getElem?_eq_getElem (by omega)]
    rfl
  · have := hb.setCells cells.toList 0
    rw [setAll_whole cs cells hs] at this
    exact this
  · exact Mod.setCells (S := fun k => k = b) (.inl rfl) _ _ _ (Mod.refl _ _)
end Go.Proofs.Ythhibagcpjeihaa
/- A row of seats in memory. -/
namespace Go.Proofs.Ythhibagcpjeihaa
open Go.RowKit
open M
set_option linter.unusedVariables false
set_option linter.unusedSimpArgs false
set_option maxRecDepth 100000
set_option maxHeartbeats 2000000

def seaV (s : Sea) : Array Value := #[.int .i64 s.row, .int .i64 s.col, .int .i64 s.st, .int .i64 s.pa, .int .i64 s.cl, .int .i64 s.un]

/-- A row of seats in a block of its own. -/
structure RowS (w : World) (g cap : Nat) (l : List Sea) : Prop where
  cur : ∃ cur, Has w g cur 61 ∧ cur.size = cap * 6 ∧ ∀ i (h : i < l.length) j, j < 6 → cur[i * 6 + j]? = (seaV l[i])[j]?
  le : l.length ≤ cap
  max : cap ≤ maxLen

theorem RowS.cell {w : World} {g cap : Nat} {l : List Sea} (h : RowS w g cap l) (i : Nat) (hi : i < l.length) (j : Nat) (hj : j < 6) : w.cell? ⟨g, i * 6 + j, none⟩ = (seaV l[i])[j]? := by
  obtain ⟨cur, h1, h2, h3⟩ := h.cur
  rw [h1.cell]
  exact h3 i hi j hj

theorem RowS.row {w : World} {g cap : Nat} {l : List Sea} (h : RowS w g cap l) (i : Nat) (hi : i < l.length) : w.cell? ⟨g, i * 6, none⟩ = some (.int .i64 l[i].row) := h.cell i hi 0 (by omega)
theorem RowS.col {w : World} {g cap : Nat} {l : List Sea} (h : RowS w g cap l) (i : Nat) (hi : i < l.length) : w.cell? ⟨g, i * 6 + 1, none⟩ = some (.int .i64 l[i].col) := h.cell i hi 1 (by omega)
theorem RowS.st {w : World} {g cap : Nat} {l : List Sea} (h : RowS w g cap l) (i : Nat) (hi : i < l.length) : w.cell? ⟨g, i * 6 + 2, none⟩ = some (.int .i64 l[i].st) := h.cell i hi 2 (by omega)
theorem RowS.pa {w : World} {g cap : Nat} {l : List Sea} (h : RowS w g cap l) (i : Nat) (hi : i < l.length) : w.cell? ⟨g, i * 6 + 3, none⟩ = some (.int .i64 l[i].pa) := h.cell i hi 3 (by omega)
theorem RowS.cl {w : World} {g cap : Nat} {l : List Sea} (h : RowS w g cap l) (i : Nat) (hi : i < l.length) : w.cell? ⟨g, i * 6 + 4, none⟩ = some (.int .i64 l[i].cl) := h.cell i hi 4 (by omega)
theorem RowS.un {w : World} {g cap : Nat} {l : List Sea} (h : RowS w g cap l) (i : Nat) (hi : i < l.length) : w.cell? ⟨g, i * 6 + 5, none⟩ = some (.int .i64 l[i].un) := h.cell i hi 5 (by omega)
theorem RowS.lt {w : World} {g cap : Nat} {l : List Sea} (h : RowS w g cap l) : g < w.heap.size := by
  obtain ⟨cur, h1, _⟩ := h.cur
  exact h1.lt
theorem RowS.mod {w w' : World} {g cap : Nat} {l : List Sea} {S : Nat → Prop} (h : RowS w g cap l) (hm : Mod S w w') (hg : ¬ S g) : RowS w' g cap l := by
  obtain ⟨cur, h1, h2, h3⟩ := h.cur
  exact ⟨⟨cur, hm.has h1 hg, h2, h3⟩, h.le, h.max⟩

theorem flat_at {α : Type} (k : Nat) (hk : 0 < k) (f : α → List Value) (hf : ∀ x, (f x).length = k) : ∀ (l : List α) (i : Nat) (h : i < l.length) (j : Nat), j < k → (l.flatMap f)[i * k + j]? = (f l[i])[j]?
  | [], i, h, _, _ => absurd h (Nat.not_lt_zero _)
  | x :: l, 0, h, j, hj => by
    rw [List.flatMap_cons, Nat.zero_mul, Nat.zero_add, List.getElem?_append_left (by rw [hf]; exact hj)]
    rfl
  | x :: l, i + 1, h, j, hj => by
    rw [List.flatMap_cons, List.getElem?_append_right (by rw [hf, Nat.add_mul]; omega), hf]
    rw [show (i + 1) * k + j - k = i * k + j by rw [Nat.add_mul, Nat.one_mul]; omega]
    exact flat_at k hk f hf l i (by simpa using h) j hj
theorem flat_len {α : Type} (k : Nat) (f : α → List Value) (hf : ∀ x, (f x).length = k) : ∀ (l : List α), (l.flatMap f).length = l.length * k
  | [] => by simp
  | x :: l => by rw [List.flatMap_cons, List.length_append, flat_len k f hf l, hf, List.length_cons, Nat.add_mul]; omega

def seaL (s : Sea) : List Value := (seaV s).toList
theorem seaL_len (s : Sea) : (seaL s).length = 6 := rfl

/-- A row that has grown is a row of seats. -/
theorem rowS_of {w : World} {g n cap : Nat} {l : List Sea} (h : w.ownsRow 0 61 6 (.slice (some ⟨g, 0, none⟩) n cap) l.length (l.flatMap seaL)) : n = l.length ∧ RowS w g cap l := by
  obtain ⟨h0, h1 | ⟨g', cap', cur, hv, hb, hg, hn, hm, hsz, ht⟩⟩ := h
  · exact absurd h1.1 (by simp)
  · injection hv with e1 e2 e3
    injection e1 with e1
    injection e1 with e1
    subst e1 e2 e3
    refine ⟨rfl, ⟨cur, hg, hsz, fun i hi j hj => ?_⟩, hn, hm⟩
    have := flat_at 6 (by omega) seaL seaL_len l i hi j hj
    rw [← ht, List.getElem?_take, if_pos (by omega)] at this
    rw [← Array.getElem?_toList, this]
    simp [seaL]

theorem rowS_owns {w : World} {g cap : Nat} {l : List Sea} (h : RowS w g cap l) : w.ownsRow 0 61 6 (.slice (some ⟨g, 0, none⟩) l.length cap) l.length (l.flatMap seaL) := by
  obtain ⟨cur, h1, h2, h3⟩ := h.cur
  refine ⟨flat_len 6 seaL seaL_len l, .inr ⟨g, cap, cur, rfl, Nat.zero_le _, h1, h.le, h.max, h2, ?_⟩⟩
  apply List.ext_getElem?
  intro k
  rw [List.getElem?_take]
  by_cases hk : k < l.length * 6
  · rw [if_pos hk]
    have hi : k / 6 < l.length := by omega
    have e : k = k / 6 * 6 + k % 6 := by omega
    rw [e, flat_at 6 (by omega) seaL seaL_len l (k / 6) hi (k % 6) (by omega), Array.getElem?_toList, h3 _ hi _ (by omega)]
    simp [seaL]
  · rw [if_neg hk, List.getElem?_eq_none (by rw [flat_len 6 seaL seaL_len]; omega)]

theorem info114 : (Try.prog.info? 61).map (fun i => (i.zero, i.size, i.bytes)) = some (some (.agg #[.int .i64 0, .int .i64 0, .int .i64 0, .int .i64 0, .int .i64 0, .int .i64 0]), 6, 48) := by kernel_rfl

end Go.Proofs.Ythhibagcpjeihaa
/- Four numbers are compared with four. -/
namespace Go.Proofs.Ythhibagcpjeihaa
open Go.RowKit
set_option linter.unusedVariables false
set_option maxRecDepth 100000

def same4 (a0 a1 a2 a3 b0 b1 b2 b3 : Int) : Bool := a0 == b0 && (a1 == b1 && (a2 == b2 && a3 == b3))

theorem part3 (xs : Array Value) (i : Nat) (v : Value) (h : xs[i]? = some v) (w : World) : (part 3 xs i).run Try.prog w = .ok v w := by
  unfold part
  simp [Sem.run_bind, isAgg, run_underlying Try.underlying3, h]

theorem eq_step (n : Nat) (is : List Nat) (xs ys : Array Value) (i : Nat) (x y : Int) (hx : xs[i * 1]? = some (.int .i64 x)) (hy : ys[i * 1]? = some (.int .i64 y)) (w : World) :
    (Op.eqItems (n + 1) 3 1 xs ys (i :: is)).run Try.prog w = if (x == y) = true then (Op.eqItems (n + 1) 3 1 xs ys is).run Try.prog w else .ok false w := by
  have r : (Op.equalIn (n + 1) 3 (.int .i64 x) (.int .i64 y)).run Try.prog w = .ok (x == y) w := run_equalIn_int w n 3 .i64 .i64 x y Try.underlying3
  simp only [Op.eqItems, Sem.run_bind, part3 _ _ _ hx, part3 _ _ _ hy, r, Result.andThen_ok]
  cases x == y
  · rfl
  · rfl

theorem eq4n (n : Nat) (a0 a1 a2 a3 b0 b1 b2 b3 : Int) (w : World) :
    (Op.equalIn (n + 2) 33 (.agg #[.int .i64 a0, .int .i64 a1, .int .i64 a2, .int .i64 a3]) (.agg #[.int .i64 b0, .int .i64 b1, .int .i64 b2, .int .i64 b3])).run Try.prog w = .ok (same4 a0 a1 a2 a3 b0 b1 b2 b3) w := by
  have hi : (Try.prog.info? 3).isSome = true := by kernel_rfl
  obtain ⟨i3, hi⟩ := Option.isSome_iff_exists.1 hi
  have c3 : Try.prog.cellsOf 3 = 1 := by kernel_rfl
  rw [run_equalIn_array w (n + 1) _ _ Try.underlying33 hi, c3]
  rw [show List.range 4 = [0, 1, 2, 3] from rfl]
  unfold same4
  rw [eq_step n _ _ _ 0 a0 b0 rfl rfl, eq_step n _ _ _ 1 a1 b1 rfl rfl, eq_step n _ _ _ 2 a2 b2 rfl rfl, eq_step n _ _ _ 3 a3 b3 rfl rfl]
  cases a0 == b0 <;> cases a1 == b1 <;> cases a2 == b2 <;> cases a3 == b3 <;> rfl
theorem eq40 (a0 a1 a2 a3 b0 b1 b2 b3 : Int) (w : World) :
    (Op.equalIn 9999 33 (.agg #[.int .i64 a0, .int .i64 a1, .int .i64 a2, .int .i64 a3]) (.agg #[.int .i64 b0, .int .i64 b1, .int .i64 b2, .int .i64 b3])).run Try.prog w = .ok (same4 a0 a1 a2 a3 b0 b1 b2 b3) w := eq4n 9997 ..
theorem eq41 (a0 a1 a2 a3 b0 b1 b2 b3 : Int) (w : World) :
    (Op.equalIn 10000 33 (.agg #[.int .i64 a0, .int .i64 a1, .int .i64 a2, .int .i64 a3]) (.agg #[.int .i64 b0, .int .i64 b1, .int .i64 b2, .int .i64 b3])).run Try.prog w = .ok (same4 a0 a1 a2 a3 b0 b1 b2 b3) w := eq4n 9998 ..
theorem guard40 (op : BinOp) (x y : Operand) (xs ys : Array Value) (w : World) : (eqGuard op 33 x y (.agg xs) (.agg ys)).run Try.prog w = .ok () w := by
  have h : Try.prog.eqGuardType Try.prog.depth 33 = false := by kernel_rfl
  unfold eqGuard
  cases op <;> simp [Sem.run, program, h]
theorem neq40 (a0 a1 a2 a3 b0 b1 b2 b3 : Int) (w : World) :
    (binOp .neq 33 (.agg #[.int .i64 a0, .int .i64 a1, .int .i64 a2, .int .i64 a3]) (.agg #[.int .i64 b0, .int .i64 b1, .int .i64 b2, .int .i64 b3])).run Try.prog w = .ok (.bool (!same4 a0 a1 a2 a3 b0 b1 b2 b3)) w := by
  simp only [binOp, Op.equal, Sem.run_bind]
  rw [show Op.maxDepth = 9998 + 2 from rfl, eq4n]
  rfl
theorem same4_self (a0 a1 a2 a3 : Int) : same4 a0 a1 a2 a3 a0 a1 a2 a3 = true := by simp [same4]
end Go.Proofs.Ythhibagcpjeihaa
/- A region that draws its order, and whose callees only read and make memory: one walk of the text's order serves every order. -/
namespace Go.Proofs.Ythhibagcpjeihaa
open Go.RowKit
set_option linter.unusedVariables false

/-- A world in which the blocks of w0 are as they were. -/
structure Wd (w0 : World) where
  W : World
  h : Mod No w0 W

theorem wp_region_wd {P : Program} {id : Nat} {Q : Exit → Act → World → Prop} {a : Act} {w w0 : World} {l : List Oper} (hm : P.follows .mixedOrders = true) (hB : Region.lexB .any l.toArray = true) (h0 : Mod No w0 w)
    (h : wpQuiet P l.toArray (fun w' => ∃ x : Wd w0, w' = x.W) (fun a' => ∀ w', (∃ x : Wd w0, w' = x.W) → Q .normal a' w') l a) : (Code.region id l.toArray true).wp P Q a w :=
  wp_region_quiet (C := fun w' => ∃ x : Wd w0, w' = x.W) hm hB ⟨⟨_, h0.drew⟩, rfl⟩ (by simpa using h)

theorem wd_ne (w0 : World) : Nonempty (Wd w0) := ⟨⟨w0, Mod.refl _ _⟩⟩
/-- A callee's contract, met in such a world. -/
theorem Calls.wd {P : Program} {f : FuncId} {args : Array Value} {w0 : World} {v : Value} (x : Wd w0)
    (h : Calls P f args x.W fun e w' => e = .returned v ∧ Mod No x.W w') : Calls P f args x.W fun e w'' => e = .returned v ∧ ∃ y : Wd w0, w'' = y.W :=
  h.mono fun _ w'' ⟨he, hm⟩ => ⟨he, ⟨w'', x.h.trans hm⟩, rfl⟩

theorem Has.wd {w0 : World} {b : Nat} {cs : Array Value} {T : TypeId} (h : Has w0 b cs T) (x : Wd w0) (o : Nat) : x.W.cell? ⟨b, o, none⟩ = cs[o]? := (x.h.has h (fun z => z)).cell o
end Go.Proofs.Ythhibagcpjeihaa
/- The map of seats by their places: what a look-up, a store and a delete do to a list of entries. -/
namespace Go.Proofs.Ythhibagcpjeihaa
open Go.RowKit Go.WideMaps
open Go.ChangeMaps (setBlock)
set_option linter.unusedVariables false
set_option linter.unusedSimpArgs false
set_option maxRecDepth 100000

theorem laidOut : laidOutB Try.prog = true := by kernel_rfl
theorem law30 : KeyLaw Try.prog 32 := deep_law_laid laidOut (m := 2) (by omega) (of_decide_eq_true (by kernel_rfl)) (by kernel_rfl) (by rw [Try.underlying32])

/-- A place, a seat, as values. -/
def kv (r c : Int) : Value := .agg #[.int .i64 r, .int .i64 c]
def sv (s p k u : Int) : Value := .agg #[.int .i64 s, .int .i64 p, .int .i64 k, .int .i64 u]

theorem key30 (r c : Int) (hr : 0 ≤ r ∧ r ≤ 1000) (hc : 0 ≤ c ∧ c ≤ 1000) : ∃ l, keyOf Try.prog 32 (kv r c) = some l := by
  have w1 : (Lit.int .i64 r).wf = true := by simp [Lit.wf, IntKind.min, IntKind.max, IntKind.signed, IntKind.bits]; omega
  have w2 : (Lit.int .i64 c).wf = true := by simp [Lit.wf, IntKind.min, IntKind.max, IntKind.signed, IntKind.bits]; omega
  have hk : Try.prog.keyType 32 = true := by kernel_rfl
  have c30 : Try.prog.cellsOf 32 = 2 := by kernel_rfl
  have c3 : Try.prog.cellsOf 3 = 1 := by kernel_rfl
  have ts : ∃ n, Try.prog.types.size + 1 = n + 2 := ⟨Try.prog.types.size - 1, by have : 0 < Try.prog.types.size := of_decide_eq_true (by kernel_rfl); omega⟩
  obtain ⟨n, hn⟩ := ts
  apply Option.isSome_iff_exists.1
  unfold keyOf
  rw [Try.underlying32, hn]
  simp [hk, kv, Value.formed, Try.underlying32, c30, c3, Program.keyLits, Try.underlying3, w1, w2, Value.cells]

/-- One entry: when it came, its place, its seat. -/
structure MEnt where
  born : Nat
  r : Int
  c : Int
  s : Int
  p : Int
  k : Int
  u : Int

def MEnt.obj (e : MEnt) : MapEntry := ⟨kv e.r e.c, sv e.s e.p e.k e.u, e.born⟩
def mapObj (l : List MEnt) (clock : Nat) : Obj := .map (l.map MEnt.obj).toArray clock
/-- Is this the entry of the place? -/
def MEnt.is (r c : Int) (e : MEnt) : Bool := e.r == r && e.c == c

/-- What holds of every list of entries: places apart, births apart and past. -/
structure MapOk (l : List MEnt) (clock : Nat) : Prop where
  keys : ∀ e ∈ l, 0 ≤ e.r ∧ e.r ≤ 1000 ∧ 0 ≤ e.c ∧ e.c ≤ 1000
  apart : l.Pairwise fun a b => ¬ (a.r = b.r ∧ a.c = b.c)
  births : l.Pairwise fun a b => a.born ≠ b.born
  past : ∀ e ∈ l, e.born < clock

theorem kv_inj {r c r' c' : Int} : kv r c = kv r' c' ↔ r = r' ∧ c = c' := by
  constructor
  · intro h
    simp only [kv, Value.agg.injEq] at h
    simp at h
    exact h
  · rintro ⟨rfl, rfl⟩; rfl

theorem find_of {l : List MEnt} (hp : l.Pairwise fun a b => ¬ (a.r = b.r ∧ a.c = b.c)) {j : Nat} (hj : j < l.length) {r c : Int} (h : l[j].r = r ∧ l[j].c = c) : l.findIdx? (MEnt.is r c) = some j := by
  rw [List.findIdx?_eq_some_iff_getElem]
  refine ⟨hj, by simp [MEnt.is, h.1, h.2], fun i hi => ?_⟩
  have := (List.pairwise_iff_getElem.1 hp) i j (by omega) hj hi
  simp only [MEnt.is, Bool.and_eq_true, beq_iff_eq]
  rintro ⟨h1, h2⟩
  exact this ⟨by rw [h1, h.1], by rw [h2, h.2]⟩

/-- findKey, over such a list. -/
theorem run_find (w : World) (l : List MEnt) (clock : Nat) (hl : MapOk l clock) (r c : Int) (hr : 0 ≤ r ∧ r ≤ 1000) (hc : 0 ≤ c ∧ c ≤ 1000) :
    (Instr.findKey 32 (kv r c) (l.map MEnt.obj)).run Try.prog w = .ok ((l.findIdx? (MEnt.is r c)).map fun j => (j, (l[j]?.map fun e => sv e.s e.p e.k e.u).getD undef)) w := by
  obtain ⟨lx, hx⟩ := key30 r c hr hc
  rcases law30.find w hx (l.map MEnt.obj) (fun e he => by
    obtain ⟨m, hm, rfl⟩ := List.mem_map.1 he
    obtain ⟨a, b, c', d⟩ := hl.keys m hm
    exact key30 m.r m.c ⟨a, b⟩ ⟨c', d⟩) with ⟨h, hn⟩ | ⟨j, e, h, hj, hk⟩
  · rw [h]
    have : l.findIdx? (MEnt.is r c) = none := by
      rw [List.findIdx?_eq_none_iff]
      intro e he
      have := hn _ (List.mem_map_of_mem he)
      simp only [MEnt.is, Bool.and_eq_false_iff, beq_eq_false_iff_ne, ne_eq]
      by_cases h1 : e.r = r
      · right; intro h2
        exact this (kv_inj.2 ⟨h1, h2⟩)
      · left; exact h1
    rw [this]
    rfl
  · rw [h]
    rw [List.getElem?_map] at hj
    obtain ⟨m, hm, rfl⟩ := Option.map_eq_some_iff.1 hj
    obtain ⟨hj', rfl⟩ := List.getElem?_eq_some_iff.1 hm
    have hk' := kv_inj.1 hk
    rw [find_of hl.apart hj' hk']
    simp [hj', MEnt.obj]

/-- The seat that a look-up finds: an empty one, if there is no entry. -/
def lookE (l : List MEnt) (r c : Int) : Int × Int × Int × Int := ((l.find? (MEnt.is r c)).map fun e => (e.s, e.p, e.k, e.u)).getD (0, 0, 0, 0)

theorem find?_idx (l : List MEnt) (p : MEnt → Bool) : l.find? p = (l.findIdx? p).bind fun j => l[j]? := by
  induction l with
  | nil => rfl
  | cons e l ih =>
    simp only [List.find?_cons, List.findIdx?_cons]
    cases p e
    · simp only [Bool.false_eq_true, if_false, ih]
      cases l.findIdx? p <;> simp
    · simp

theorem zero171 (w : World) : (zeroValue 170).run Try.prog w = .ok (sv 0 0 0 0) w := by kernel_rfl

theorem map_erase (l : List MEnt) (j : Nat) : (l.map MEnt.obj).eraseIdx j = (l.eraseIdx j).map MEnt.obj := by
  induction l generalizing j with
  | nil => simp
  | cons e l ih => cases j <;> simp_all
theorem map_modify (g : MapEntry → MapEntry) (g' : MEnt → MEnt) : ∀ (l : List MEnt) (j : Nat) (hj : j < l.length), g l[j].obj = (g' l[j]).obj → (l.map MEnt.obj).modify j g = (l.modify j g').map MEnt.obj
  | e :: l, 0, _, h => by simpa using h
  | e :: l, j + 1, hj, h => by
    have := map_modify g g' l j (by simpa using hj) (by simpa using h)
    simp [this]

theorem erase_obj (l : List MEnt) (j : Nat) : (l.map MEnt.obj).toArray.eraseIdxIfInBounds j = ((l.eraseIdx j).map MEnt.obj).toArray := by
  apply Array.toList_inj.1
  rw [Array.toList_eraseIdxIfInBounds]
  simp only
  induction l generalizing j with
  | nil => simp
  | cons e l ih => cases j <;> simp_all

theorem run_lookup (w : World) (m : Nat) (l : List MEnt) (clock : Nat) (hm : w.heap[m]? = some (mapObj l clock)) (hl : MapOk l clock) (r c : Int) (hr : 0 ≤ r ∧ r ≤ 1000) (hc : 0 ≤ c ∧ c ≤ 1000) :
    (Instr.lookup 136 (.map (some m)) (kv r c) false).run Try.prog w = .ok (sv (lookE l r c).1 (lookE l r c).2.1 (lookE l r c).2.2.1 (lookE l r c).2.2.2) w := by
  obtain ⟨lx, hx⟩ := key30 r c hr hc
  have h1 := fun em => law30.check w em hx
  have h2 := run_find w l clock hl r c hr hc
  unfold mapObj at hm
  have hg : (getObj m).run Try.prog w = .ok (.map (l.map MEnt.obj).toArray clock) w := by simp [getObj, Sem.run, hm]
  have hs : ∀ o, (setObj m o).run Try.prog w = .ok () (setBlock w m o) := fun o => by simp [setObj, Sem.run, hm, setBlock]
  rw [lookE, find?_idx]
  cases hf : l.findIdx? (MEnt.is r c) with
  | none =>
    rw [hf] at h2
    simp [Instr.lookup, run_underlying Try.underlying136, hg, h1, h2, zero171, sv]
  | some j =>
    have hj := (List.findIdx?_eq_some_iff_getElem.1 hf).1
    rw [hf] at h2
    simp [hj] at h2
    simp [Instr.lookup, run_underlying Try.underlying136, hg, h1, h2, zero171, hj]

theorem run_delete (w : World) (m : Nat) (l : List MEnt) (clock : Nat) (ty : TypeId) (hm : w.heap[m]? = some (mapObj l clock)) (hl : MapOk l clock) (r c : Int) (hr : 0 ≤ r ∧ r ≤ 1000) (hc : 0 ≤ c ∧ c ≤ 1000) :
    (Builtin.delete_ #[136, 32] ty #[.map (some m), kv r c]).run Try.prog w =
      .ok (.tuple #[]) (setBlock w m (mapObj (match l.findIdx? (MEnt.is r c) with | some j => l.eraseIdx j | none => l) clock)) := by
  obtain ⟨lx, hx⟩ := key30 r c hr hc
  have h1 := fun em => law30.check w em hx
  have h2 := run_find w l clock hl r c hr hc
  unfold mapObj at hm
  have hg : (getObj m).run Try.prog w = .ok (.map (l.map MEnt.obj).toArray clock) w := by simp [getObj, Sem.run, hm]
  have hs : ∀ o, (setObj m o).run Try.prog w = .ok () (setBlock w m o) := fun o => by simp [setObj, Sem.run, hm, setBlock]
  cases hf : l.findIdx? (MEnt.is r c) with
  | none =>
    rw [hf] at h2
    simp [Builtin.delete_, run_underlying Try.underlying136, hg, hs, h1, h2, mapObj]
  | some j =>
    have hj := (List.findIdx?_eq_some_iff_getElem.1 hf).1
    rw [hf] at h2
    simp [hj] at h2
    simp [Builtin.delete_, run_underlying Try.underlying136, hg, hs, h1, h2, mapObj, hj]
    rw [map_erase]

theorem run_update (w : World) (m : Nat) (l : List MEnt) (clock : Nat) (hm : w.heap[m]? = some (mapObj l clock)) (hl : MapOk l clock) (r c s p k u : Int) (hr : 0 ≤ r ∧ r ≤ 1000) (hc : 0 ≤ c ∧ c ≤ 1000) :
    (Instr.mapUpdate 136 (.map (some m)) (kv r c) (sv s p k u)).run Try.prog w =
      .ok () (match l.findIdx? (MEnt.is r c) with
        | some j => setBlock w m (mapObj (l.modify j fun e => ⟨e.born, e.r, e.c, s, p, k, u⟩) clock)
        | none => setBlock w m (mapObj (l ++ [⟨clock, r, c, s, p, k, u⟩]) (clock + 1))) := by
  obtain ⟨lx, hx⟩ := key30 r c hr hc
  have h1 := fun em => law30.check w em hx
  have h2 := run_find w l clock hl r c hr hc
  have h3 := law30.stays w hx
  unfold mapObj at hm
  have hg : (getObj m).run Try.prog w = .ok (.map (l.map MEnt.obj).toArray clock) w := by simp [getObj, Sem.run, hm]
  have hs : ∀ o, (setObj m o).run Try.prog w = .ok () (setBlock w m o) := fun o => by simp [setObj, Sem.run, hm, setBlock]
  cases hf : l.findIdx? (MEnt.is r c) with
  | none =>
    rw [hf] at h2
    simp [Instr.mapUpdate, run_underlying Try.underlying136, hg, hs, h1, h2, mapObj, MEnt.obj]
  | some j =>
    have hj := (List.findIdx?_eq_some_iff_getElem.1 hf)
    obtain ⟨hj, hk, _⟩ := hj
    simp [MEnt.is] at hk
    rw [hf] at h2
    simp [hj] at h2
    have hk' : (l[j]).obj.key = kv r c := by simp [MEnt.obj, hk]
    simp [Instr.mapUpdate, run_underlying Try.underlying136, hg, hs, h1, h2, mapObj, hj, hk', h3]
    rw [map_modify _ (fun e => ⟨e.born, e.r, e.c, s, p, k, u⟩) l j hj (by simp [MEnt.obj, hk])]
end Go.Proofs.Ythhibagcpjeihaa
