import Derived.Test.YtlcbemcamdafjaaCbackBaseMaps
/- The plain model: seats, flights, worlds, commands; what the document's answer reckons. Nothing of the program. -/
namespace Go.Proofs.Ytlcbemcamdafjaa.M

structure Sea where
  row : Int
  col : Int
  st : Int
  pa : Int
  cl : Int
  un : Int

structure Pla where
  rows : Int
  cols : Int
  front : Int
  l0 : Int
  l1 : Int
  l2 : Int
  l3 : Int
  ep : Int

structure Fli where
  num : Int
  pla : Pla
  seats : List Sea
  ep : Int

structure Wor where
  fls : List Fli
  now : Int

structure Cmd where
  kind : Int
  flight : Int
  ar : Int
  ac : Int
  tr : Int
  tc : Int
  party : Int
  cls : Int
  time : Int
  pla : Pla

/-- A counter, one more (as the machine counts). -/
def nx (e : Int) : Int := Go.IntKind.i64.wrap (e + 1)
theorem nx_eq (e : Int) : Go.IntKind.i64.wrap (e + 1) = nx e := rfl
/-- A flight's plane, its epoch one more; at an epoch. -/
def Pla.next (p : Pla) : Pla := ⟨p.rows, p.cols, p.front, p.l0, p.l1, p.l2, p.l3, nx p.ep⟩
def Pla.at (p : Pla) (e : Int) : Pla := ⟨p.rows, p.cols, p.front, p.l0, p.l1, p.l2, p.l3, e⟩

def Pla.lim (p : Pla) : Nat → Int
  | 0 => p.l0
  | 1 => p.l1
  | 2 => p.l2
  | _ => p.l3

/-- A seat that is sold. -/
def Sea.sold (s : Sea) : Bool := s.st == 1 || s.st == 2
/-- A seat, made free. -/
def Sea.freed (s : Sea) : Sea := ⟨s.row, s.col, 0, 0, 0, 0⟩

def nFree (l : List Sea) : Nat := l.countP fun s => s.st == 0
/-- Seats of a state, in the front cabin or behind it. -/
def nAt (p : Pla) (fr : Bool) (st : Int) (l : List Sea) : Nat := l.countP fun s => (decide (s.row ≤ p.front) == fr) && s.st == st
/-- Seats sold of a class. -/
def nSold (c : Int) (l : List Sea) : Nat := l.countP fun s => s.sold && s.cl == c
/-- Seats sold of the classes from one on. -/
def nFrom (c : Int) (l : List Sea) : Nat := l.countP fun s => s.sold && decide (c ≤ s.cl)

/-- The least that a class and those ahead of it allow. -/
def leastTo (p : Pla) (l : List Sea) : Nat → Int
  | 0 => min (nFree l : Int) (p.lim 0 - nFrom 0 l)
  | c + 1 => min (leastTo p l c) (p.lim (c + 1) - nFrom ((c : Int) + 1) l)
def leftOf (p : Pla) (l : List Sea) (c : Nat) : Int := max (leastTo p l c) 0

def Pla.sized (p : Pla) : Bool := decide (1 ≤ p.rows ∧ p.rows ≤ 20 ∧ 1 ≤ p.cols ∧ p.cols ≤ 6 ∧ 0 ≤ p.front ∧ p.front ≤ p.rows)
def Pla.limited (p : Pla) : Bool := decide (0 ≤ p.l0 ∧ p.l0 ≤ 200 ∧ 0 ≤ p.l1 ∧ p.l1 ≤ p.l0 ∧ 0 ≤ p.l2 ∧ p.l2 ≤ p.l1 ∧ 0 ≤ p.l3 ∧ p.l3 ≤ p.l2)

/-- Where a place stands among the seats. -/
def Pla.has (p : Pla) (r c : Int) : Bool := decide (1 ≤ r ∧ r ≤ p.rows ∧ 1 ≤ c ∧ c ≤ p.cols)
def Pla.idx (p : Pla) (r c : Int) : Nat := ((r - 1) * p.cols + (c - 1)).toNat

def noSea : Sea := ⟨0, 0, 0, 0, 0, 0⟩
def Fli.seat (f : Fli) (r c : Int) : Sea := f.seats.getD (f.pla.idx r c) noSea

/-- One seat, well formed. -/
structure Sea.wf (s : Sea) : Prop where
  s0 : 0 ≤ s.st
  s1 : s.st ≤ 3
  c0 : 0 ≤ s.cl
  c1 : s.cl ≤ 3
  bare : s.st = 0 ∨ s.st = 3 → s.pa = 0 ∧ s.cl = 0 ∧ s.un = 0
  pa : 0 ≤ s.pa ∧ s.pa ≤ 1000
  un : 0 ≤ s.un ∧ s.un ≤ 4611686018427387904
  bk : s.st = 2 → s.un = 0

structure Fli.wf (f : Fli) : Prop where
  sized : f.pla.sized = true
  limited : f.pla.limited = true
  len : (f.seats.length : Int) = f.pla.rows * f.pla.cols
  place : ∀ i (h : i < f.seats.length), f.seats[i].row = (i : Int) / f.pla.cols + 1 ∧ f.seats[i].col = (i : Int) % f.pla.cols + 1
  seat : ∀ s ∈ f.seats, s.wf

theorem Fli.wf.bounds {f : Fli} (h : f.wf) : 1 ≤ f.pla.rows ∧ f.pla.rows ≤ 20 ∧ 1 ≤ f.pla.cols ∧ f.pla.cols ≤ 6 ∧ 0 ≤ f.pla.front ∧ f.pla.front ≤ f.pla.rows := by
  have := h.sized
  simpa [Pla.sized] using this

theorem Fli.wf.len_le {f : Fli} (h : f.wf) : f.seats.length ≤ 120 := by
  obtain ⟨a, b, c, d, _⟩ := h.bounds
  have hl := h.len
  have : f.pla.rows * f.pla.cols ≤ 20 * 6 := Int.mul_le_mul b d (by omega) (by omega)
  omega

/-- The index of a place is in range, and the seat there has that place. -/
theorem Fli.wf.idx_lt {f : Fli} (h : f.wf) {r c : Int} (hh : f.pla.has r c = true) : f.pla.idx r c < f.seats.length := by
  simp only [Pla.has, decide_eq_true_eq] at hh
  obtain ⟨h1, h2, h3, h4⟩ := hh
  obtain ⟨b1, b2, b3, b4, _⟩ := h.bounds
  have hl := h.len
  have m1 : (r - 1) * f.pla.cols ≤ (f.pla.rows - 1) * f.pla.cols := Int.mul_le_mul_of_nonneg_right (by omega) (by omega)
  have m2 : (f.pla.rows - 1) * f.pla.cols = f.pla.rows * f.pla.cols - f.pla.cols := by rw [Int.sub_mul, Int.one_mul]
  have m3 : 0 ≤ (r - 1) * f.pla.cols := Int.mul_nonneg (by omega) (by omega)
  unfold Pla.idx
  omega

theorem Fli.wf.idx_place {f : Fli} (h : f.wf) {r c : Int} (hh : f.pla.has r c = true) : (f.seats[f.pla.idx r c]'(h.idx_lt hh)).row = r ∧ (f.seats[f.pla.idx r c]'(h.idx_lt hh)).col = c := by
  have hp := h.place _ (h.idx_lt hh)
  simp only [Pla.has, decide_eq_true_eq] at hh
  obtain ⟨h1, h2, h3, h4⟩ := hh
  obtain ⟨b1, b2, b3, b4, _⟩ := h.bounds
  have m3 : 0 ≤ (r - 1) * f.pla.cols := Int.mul_nonneg (by omega) (by omega)
  have e : ((f.pla.idx r c : Nat) : Int) = (c - 1) + (r - 1) * f.pla.cols := by unfold Pla.idx; omega
  rw [e] at hp
  rw [Int.add_mul_ediv_right _ _ (by omega : f.pla.cols ≠ 0), Int.add_mul_emod_self_right, Int.ediv_eq_zero_of_lt (by omega) (by omega), Int.emod_eq_of_lt (by omega) (by omega)] at hp
  omega

/-- Every seat's place is in the plane, and its index is its own. -/
theorem Fli.wf.place_has {f : Fli} (h : f.wf) {i : Nat} (hi : i < f.seats.length) : f.pla.has f.seats[i].row f.seats[i].col = true ∧ f.pla.idx f.seats[i].row f.seats[i].col = i := by
  have hp := h.place i hi
  obtain ⟨b1, b2, b3, b4, _⟩ := h.bounds
  have hl := h.len
  have d0 := Int.emod_nonneg (i : Int) (by omega : f.pla.cols ≠ 0)
  have d1 := Int.emod_lt_of_pos (i : Int) (by omega : 0 < f.pla.cols)
  have d2 := Int.mul_ediv_add_emod (i : Int) f.pla.cols
  have d3 : 0 ≤ (i : Int) / f.pla.cols := Int.ediv_nonneg (by omega) (by omega)
  have d4 : (i : Int) / f.pla.cols < f.pla.rows := by
    apply Int.ediv_lt_of_lt_mul (by omega)
    omega
  have d5 : f.pla.cols * ((i : Int) / f.pla.cols) = (i : Int) / f.pla.cols * f.pla.cols := Int.mul_comm _ _
  constructor
  · simp only [Pla.has, decide_eq_true_eq]
    omega
  · unfold Pla.idx
    rw [hp.1, hp.2, show (i : Int) / f.pla.cols + 1 - 1 = (i : Int) / f.pla.cols from by omega]
    omega

theorem Fli.wf.place_inj {f : Fli} (h : f.wf) {i j : Nat} (hi : i < f.seats.length) (hj : j < f.seats.length) (hr : f.seats[i].row = f.seats[j].row) (hc : f.seats[i].col = f.seats[j].col) : i = j := by
  have h1 := (h.place_has hi).2
  have h2 := (h.place_has hj).2
  rw [hr, hc] at h1
  omega

/-! Counting -/

theorem countP_set (p : Sea → Bool) (l : List Sea) (i : Nat) (h : i < l.length) (a : Sea) :
    ((l.set i a).countP p : Int) = l.countP p - (if p l[i] then 1 else 0) + (if p a then 1 else 0) := by
  rw [List.countP_set h]
  have pos : p l[i] = true → 1 ≤ l.countP p := fun hp => List.countP_pos_iff.2 ⟨_, List.getElem_mem h, hp⟩
  cases h1 : p l[i] <;> cases h2 : p a
  · simp
  · simp
  · have := pos h1
    simp only [if_true, Bool.false_eq_true, if_false]
    omega
  · have := pos h1
    simp only [if_true]
    omega

theorem nFree_split (p : Pla) (l : List Sea) : nFree l = nAt p true 0 l + nAt p false 0 l := by
  unfold nFree nAt
  induction l with
  | nil => rfl
  | cons s l ih =>
    simp only [List.countP_cons, ih]
    by_cases h : s.row ≤ p.front <;> by_cases h' : s.st = 0 <;> simp [h, h'] <;> omega

theorem nFrom_split (l : List Sea) (hl : ∀ s ∈ l, 0 ≤ s.cl ∧ s.cl ≤ 3) : nFrom 0 l = nSold 0 l + nSold 1 l + nSold 2 l + nSold 3 l ∧ nFrom 1 l = nSold 1 l + nSold 2 l + nSold 3 l ∧
    nFrom 2 l = nSold 2 l + nSold 3 l ∧ nFrom 3 l = nSold 3 l := by
  unfold nFrom nSold
  induction l with
  | nil => exact ⟨rfl, rfl, rfl, rfl⟩
  | cons s l ih =>
    obtain ⟨i0, i1, i2, i3⟩ := ih (fun x hx => hl x (List.mem_cons_of_mem _ hx))
    obtain ⟨c0, c1⟩ := hl s (List.mem_cons_self)
    simp only [List.countP_cons, i0, i1, i2, i3]
    have : s.cl = 0 ∨ s.cl = 1 ∨ s.cl = 2 ∨ s.cl = 3 := by omega
    rcases this with h | h | h | h <;> cases hs : s.sold <;> simp [h] <;> omega

end Go.Proofs.Ytlcbemcamdafjaa.M
