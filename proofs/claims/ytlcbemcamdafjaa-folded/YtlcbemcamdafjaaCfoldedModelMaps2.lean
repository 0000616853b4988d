import Derived.Test.YtlcbemcamdafjaaCfoldedBaseMaps
/- The plain model: seats, flights, worlds, commands; what the document's answer reckons. Nothing of the program. -/
namespace Go.Proofs.Ytlcbemcamdafjaa.M

structure Sea where
  row : Int
  col : Int
  st : Int
  pa : Int
  cl : Int
  un : Int

structure Pla where
  rows : Int
  cols : Int
  front : Int
  l0 : Int
  l1 : Int
  l2 : Int
  l3 : Int
  ep : Int

structure Fli where
  num : Int
  pla : Pla
  seats : List Sea
  ep : Int

structure Wor where
  fls : List Fli
  now : Int

structure Cmd where
  kind : Int
  flight : Int
  ar : Int
  ac : Int
  tr : Int
  tc : Int
  party : Int
  cls : Int
  time : Int
  pla : Pla

/-- A counter, one more (as the machine counts). -/
def nx (e : Int) : Int := Go.IntKind.i64.wrap (e + 1)
theorem nx_eq (e : Int) : Go.IntKind.i64.wrap (e + 1) = nx e := rfl
/-- A flight's plane, its epoch one more; at an epoch. -/
def Pla.next (p : Pla) : Pla := ⟨p.rows, p.cols, p.front, p.l0, p.l1, p.l2, p.l3, nx p.ep⟩
def Pla.at (p : Pla) (e : Int) : Pla := ⟨p.rows, p.cols, p.front, p.l0, p.l1, p.l2, p.l3, e⟩

def Pla.lim (p : Pla) : Nat → Int
  | 0 => p.l0
  | 1 => p.l1
  | 2 => p.l2
  | _ => p.l3

/-- A seat that is sold. -/
def Sea.sold (s : Sea) : Bool := s.st == 1 || s.st == 2
/-- A seat, made free. -/
def Sea.freed (s : Sea) : Sea := ⟨s.row, s.col, 0, 0, 0, 0⟩

def nFree (l : List Sea) : Nat := l.countP fun s => s.st == 0
/-- Seats of a state, in the front cabin or behind it. -/
def nAt (p : Pla) (fr : Bool) (st : Int) (l : List Sea) : Nat := l.countP fun s => (decide (s.row ≤ p.front) == fr) && s.st == st
/-- Seats sold of a class. -/
def nSold (c : Int) (l : List Sea) : Nat := l.countP fun s => s.sold && s.cl == c
/-- Seats sold of the classes from one on. -/
def nFrom (c : Int) (l : List Sea) : Nat := l.countP fun s => s.sold && decide (c ≤ s.cl)

/-- The least that a class and those ahead of it allow. -/
def leastTo (p : Pla) (l : List Sea) : Nat → Int
  | 0 => min (nFree l : Int) (p.lim 0 - nFrom 0 l)
  | c + 1 => min (leastTo p l c) (p.lim (c + 1) - nFrom ((c : Int) + 1) l)
def leftOf (p : Pla) (l : List Sea) (c : Nat) : Int := max (leastTo p l c) 0

def Pla.sized (p : Pla) : Bool := decide (1 ≤ p.rows ∧ p.rows ≤ 20 ∧ 1 ≤ p.cols ∧ p.cols ≤ 6 ∧ 0 ≤ p.front ∧ p.front ≤ p.rows)
def Pla.limited (p : Pla) : Bool := decide (0 ≤ p.l0 ∧ p.l0 ≤ 200 ∧ 0 ≤ p.l1 ∧ p.l1 ≤ p.l0 ∧ 0 ≤ p.l2 ∧ p.l2 ≤ p.l1 ∧ 0 ≤ p.l3 ∧ p.l3 ≤ p.l2)

/-- Where a place stands among the seats. -/
def Pla.has (p : Pla) (r c : Int) : Bool := decide (1 ≤ r ∧ r ≤ p.rows ∧ 1 ≤ c ∧ c ≤ p.cols)
def Pla.idx (p : Pla) (r c : Int) : Nat := ((r - 1) * p.cols + (c - 1)).toNat

def noSea : Sea := ⟨0, 0, 0, 0, 0, 0⟩
def Fli.seat (f : Fli) (r c : Int) : Sea := f.seats.getD (f.pla.idx r c) noSea

/-- One seat, well formed. -/
structure Sea.wf (s : Sea) : Prop where
  s0 : 0 ≤ s.st
  s1 : s.st ≤ 3
  c0 : 0 ≤ s.cl
  c1 : s.cl ≤ 3
  bare : s.st = 0 ∨ s.st = 3 → s.pa = 0 ∧ s.cl = 0 ∧ s.un = 0
  pa : 0 ≤ s.pa ∧ s.pa ≤ 1000
  un : 0 ≤ s.un ∧ s.un ≤ 4611686018427387904
  bk : s.st = 2 → s.un = 0

structure Fli.wf (f : Fli) : Prop where
  sized : f.pla.sized = true
  limited : f.pla.limited = true
  len : (f.seats.length : Int) = f.pla.rows * f.pla.cols
  place : ∀ i (h : i < f.seats.length), f.seats[i].row = (i : Int) / f.pla.cols + 1 ∧ f.seats[i].col = (i : Int) % f.pla.cols + 1
  seat : ∀ s ∈ f.seats, s.wf

theorem Fli.wf.bounds {f : Fli} (h : f.wf) : 1 ≤ f.pla.rows ∧ f.pla.rows ≤ 20 ∧ 1 ≤ f.pla.cols ∧ f.pla.cols ≤ 6 ∧ 0 ≤ f.pla.front ∧ f.pla.front ≤ f.pla.rows := by
  have := h.sized
  simpa [Pla.sized] using this

theorem Fli.wf.len_le {f : Fli} (h : f.wf) : f.seats.length ≤ 120 := by
  obtain ⟨a, b, c, d, _⟩ := h.bounds
  have hl := h.len
  have : f.pla.rows * f.pla.cols ≤ 20 * 6 := Int.mul_le_mul b d (by omega) (by omega)
  omega

/-- The index of a place is in range, and the seat there has that place. -/
theorem Fli.wf.idx_lt {f : Fli} (h : f.wf) {r c : Int} (hh : f.pla.has r c = true) : f.pla.idx r c < f.seats.length := by
  simp only [Pla.has, decide_eq_true_eq] at hh
  obtain ⟨h1, h2, h3, h4⟩ := hh
  obtain ⟨b1, b2, b3, b4, _⟩ := h.bounds
  have hl := h.len
  have m1 : (r - 1) * f.pla.cols ≤ (f.pla.rows - 1) * f.pla.cols := Int.mul_le_mul_of_nonneg_right (by omega) (by omega)
  have m2 : (f.pla.rows - 1) * f.pla.cols = f.pla.rows * f.pla.cols - f.pla.cols := by rw [Int.sub_mul, Int.one_mul]
  have m3 : 0 ≤ (r - 1) * f.pla.cols := Int.mul_nonneg (by omega) (by omega)
  unfold Pla.idx
  omega

theorem Fli.wf.idx_place {f : Fli} (h : f.wf) {r c : Int} (hh : f.pla.has r c = true) : (f.seats[f.pla.idx r c]'(h.idx_lt hh)).row = r ∧ (f.seats[f.pla.idx r c]'(h.idx_lt hh)).col = c := by
  have hp := h.place _ (h.idx_lt hh)
  simp only [Pla.has, decide_eq_true_eq] at hh
  obtain ⟨h1, h2, h3, h4⟩ := hh
  obtain ⟨b1, b2, b3, b4, _⟩ := h.bounds
  have m3 : 0 ≤ (r - 1) * f.pla.cols := Int.mul_nonneg (by omega) (by omega)
  have e : ((f.pla.idx r c : Nat) : Int) = (c - 1) + (r - 1) * f.pla.cols := by unfold Pla.idx; omega
  rw [e] at hp
  rw [Int.add_mul_ediv_right _ _ (by omega : f.pla.cols ≠ 0), Int.add_mul_emod_self_right, Int.ediv_eq_zero_of_lt (by omega) (by omega), Int.emod_eq_of_lt (by omega) (by omega)] at hp
  omega

/-- Every seat's place is in the plane, and its index is its own. -/
theorem Fli.wf.place_has {f : Fli} (h : f.wf) {i : Nat} (hi : i < f.seats.length) : f.pla.has f.seats[i].row f.seats[i].col = true ∧ f.pla.idx f.seats[i].row f.seats[i].col = i := by
  have hp := h.place i hi
  obtain ⟨b1, b2, b3, b4, _⟩ := h.bounds
  have hl := h.len
  have d0 := Int.emod_nonneg (i : Int) (by omega : f.pla.cols ≠ 0)
  have d1 := Int.emod_lt_of_pos (i : Int) (by omega : 0 < f.pla.cols)
  have d2 := Int.mul_ediv_add_emod (i : Int) f.pla.cols
  have d3 : 0 ≤ (i : Int) / f.pla.cols := Int.ediv_nonneg (by omega) (by omega)
  have d4 : (i : Int) / f.pla.cols < f.pla.rows := by
    apply Int.ediv_lt_of_lt_mul (by omega)
    omega
  have d5 : f.pla.cols * ((i : Int) / f.pla.cols) = (i : Int) / f.pla.cols * f.pla.cols := Int.mul_comm _ _
  constructor
  · simp only [Pla.has, decide_eq_true_eq]
    omega
  · unfold Pla.idx
    rw [hp.1, hp.2, show (i : Int) / f.pla.cols + 1 - 1 = (i : Int) / f.pla.cols from by omega]
    omega

theorem Fli.wf.place_inj {f : Fli} (h : f.wf) {i j : Nat} (hi : i < f.seats.length) (hj : j < f.seats.length) (hr : f.seats[i].row = f.seats[j].row) (hc : f.seats[i].col = f.seats[j].col) : i = j := by
  have h1 := (h.place_has hi).2
  have h2 := (h.place_has hj).2
  rw [hr, hc] at h1
  omega

/-! Counting -/

theorem countP_set (p : Sea → Bool) (l : List Sea) (i : Nat) (h : i < l.length) (a : Sea) :
    ((l.set i a).countP p : Int) = l.countP p - (if p l[i] then 1 else 0) + (if p a then 1 else 0) := by
  rw [List.countP_set h]
  have pos : p l[i] = true → 1 ≤ l.countP p := fun hp => List.countP_pos_iff.2 ⟨_, List.getElem_mem h, hp⟩
  cases h1 : p l[i] <;> cases h2 : p a
  · simp
  · simp
  · have := pos h1
    simp only [if_true, Bool.false_eq_true, if_false]
    omega
  · have := pos h1
    simp only [if_true]
    omega

theorem nFree_split (p : Pla) (l : List Sea) : nFree l = nAt p true 0 l + nAt p false 0 l := by
  unfold nFree nAt
  induction l with
  | nil => rfl
  | cons s l ih =>
    simp only [List.countP_cons, ih]
    by_cases h : s.row ≤ p.front <;> by_cases h' : s.st = 0 <;> simp [h, h'] <;> omega

theorem nFrom_split (l : List Sea) (hl : ∀ s ∈ l, 0 ≤ s.cl ∧ s.cl ≤ 3) : nFrom 0 l = nSold 0 l + nSold 1 l + nSold 2 l + nSold 3 l ∧ nFrom 1 l = nSold 1 l + nSold 2 l + nSold 3 l ∧
    nFrom 2 l = nSold 2 l + nSold 3 l ∧ nFrom 3 l = nSold 3 l := by
  unfold nFrom nSold
  induction l with
  | nil => exact ⟨rfl, rfl, rfl, rfl⟩
  | cons s l ih =>
    obtain ⟨i0, i1, i2, i3⟩ := ih (fun x hx => hl x (List.mem_cons_of_mem _ hx))
    obtain ⟨c0, c1⟩ := hl s (List.mem_cons_self)
    simp only [List.countP_cons, i0, i1, i2, i3]
    have : s.cl = 0 ∨ s.cl = 1 ∨ s.cl = 2 ∨ s.cl = 3 := by omega
    rcases this with h | h | h | h <;> cases hs : s.sold <;> simp [h] <;> omega

end Go.Proofs.Ytlcbemcamdafjaa.M
/- The list of entries against the model's list of seats. -/
namespace Go.Proofs.Ytlcbemcamdafjaa
open Go.RowKit Go.WideMaps
open Go.ChangeMaps (setBlock)
open M
set_option linter.unusedVariables false
set_option linter.unusedSimpArgs false

theorem MapOk.erase {l : List MEnt} {clock : Nat} (h : MapOk l clock) (j : Nat) : MapOk (l.eraseIdx j) clock :=
  ⟨fun e he => h.keys e (List.mem_of_mem_eraseIdx he), h.apart.sublist (List.eraseIdx_sublist _ _), h.births.sublist (List.eraseIdx_sublist _ _), fun e he => h.past e (List.mem_of_mem_eraseIdx he)⟩

/-- The list behind a store. -/
def putE (l : List MEnt) (clock : Nat) (r c s p k u : Int) : List MEnt × Nat :=
  match l.findIdx? (MEnt.is r c) with
  | some j => (l.modify j fun e => ⟨e.born, e.r, e.c, s, p, k, u⟩, clock)
  | none => (l ++ [⟨clock, r, c, s, p, k, u⟩], clock + 1)
/-- The list behind a delete. -/
def dropE (l : List MEnt) (r c : Int) : List MEnt :=
  match l.findIdx? (MEnt.is r c) with
  | some j => l.eraseIdx j
  | none => l

theorem mem_modify {α : Type} {g : α → α} : ∀ {l : List α} {j : Nat} {x : α}, x ∈ l.modify j g → x ∈ l ∨ ∃ y ∈ l, x = g y
  | [], j, x, h => by simp at h
  | e :: l, 0, x, h => by
    simp at h
    rcases h with h | h
    · exact .inr ⟨e, by simp, h⟩
    · exact .inl (by simp [h])
  | e :: l, j + 1, x, h => by
    simp at h
    rcases h with h | h
    · exact .inl (by simp [h])
    · rcases mem_modify h with h | ⟨y, hy, e⟩
      · exact .inl (by simp [h])
      · exact .inr ⟨y, by simp [hy], e⟩

theorem mem_modify_at {α : Type} {g : α → α} : ∀ {l : List α} {j : Nat} {x : α}, x ∈ l.modify j g → x ∈ l ∨ ∃ h : j < l.length, x = g l[j]
  | [], j, x, h => by simp at h
  | e :: l, 0, x, h => by
    simp at h
    rcases h with h | h
    · exact .inr ⟨by simp, h⟩
    · exact .inl (by simp [h])
  | e :: l, j + 1, x, h => by
    simp at h
    rcases h with h | h
    · exact .inl (by simp [h])
    · rcases mem_modify_at h with h | ⟨hj, e⟩
      · exact .inl (by simp [h])
      · exact .inr ⟨by simpa using hj, by rw [List.getElem_cons_succ]; exact e⟩

theorem pairwise_modify {α : Type} {R : α → α → Prop} {g : α → α} (h1 : ∀ a b, R a b → R (g a) b) (h2 : ∀ a b, R a b → R a (g b)) : ∀ {l : List α} {j : Nat}, l.Pairwise R → (l.modify j g).Pairwise R
  | [], _, _ => by simp
  | e :: l, 0, h => by
    simp only [List.modify_zero_cons, List.pairwise_cons] at h ⊢
    exact ⟨fun x hx => h1 _ _ (h.1 x hx), h.2⟩
  | e :: l, j + 1, h => by
    simp only [List.modify_succ_cons, List.pairwise_cons] at h ⊢
    refine ⟨fun x hx => ?_, pairwise_modify h1 h2 h.2⟩
    rcases mem_modify hx with hx | ⟨y, hy, rfl⟩
    · exact h.1 x hx
    · exact h2 _ _ (h.1 y hy)

/-- An entry with another seat. -/
def MEnt.with (s p k u : Int) (e : MEnt) : MEnt := ⟨e.born, e.r, e.c, s, p, k, u⟩

theorem putE_some {l : List MEnt} {clock : Nat} {r c s p k u : Int} {j : Nat} (h : l.findIdx? (MEnt.is r c) = some j) : putE l clock r c s p k u = (l.modify j (MEnt.with s p k u), clock) := by
  unfold putE; rw [h]; rfl
theorem putE_none {l : List MEnt} {clock : Nat} {r c s p k u : Int} (h : l.findIdx? (MEnt.is r c) = none) : putE l clock r c s p k u = (l ++ [⟨clock, r, c, s, p, k, u⟩], clock + 1) := by
  unfold putE; rw [h]
theorem dropE_some {l : List MEnt} {r c : Int} {j : Nat} (h : l.findIdx? (MEnt.is r c) = some j) : dropE l r c = l.eraseIdx j := by
  unfold dropE; rw [h]
theorem dropE_none {l : List MEnt} {r c : Int} (h : l.findIdx? (MEnt.is r c) = none) : dropE l r c = l := by
  unfold dropE; rw [h]
theorem is_false {r c : Int} {e : MEnt} : MEnt.is r c e = false ↔ ¬ (e.r = r ∧ e.c = c) := by
  simp only [MEnt.is, Bool.and_eq_false_iff, beq_eq_false_iff_ne]
  by_cases h1 : e.r = r
  · simp [h1]
  · simp [h1]
theorem is_true {r c : Int} {e : MEnt} : MEnt.is r c e = true ↔ (e.r = r ∧ e.c = c) := by
  simp [MEnt.is]

theorem MapOk.put {l : List MEnt} {clock : Nat} (h : MapOk l clock) (r c s p k u : Int) (hr : 0 ≤ r ∧ r ≤ 1000) (hc : 0 ≤ c ∧ c ≤ 1000) : MapOk (putE l clock r c s p k u).1 (putE l clock r c s p k u).2 := by
  cases hf : l.findIdx? (MEnt.is r c) with
  | some j =>
    rw [putE_some hf]
    refine ⟨fun e he => ?_, pairwise_modify (g := MEnt.with s p k u) (fun a b x => x) (fun a b x => x) h.apart, pairwise_modify (g := MEnt.with s p k u) (fun a b x => x) (fun a b x => x) h.births, fun e he => ?_⟩
    · rcases mem_modify he with he | ⟨y, hy, rfl⟩
      · exact h.keys e he
      · exact h.keys y hy
    · rcases mem_modify he with he | ⟨y, hy, rfl⟩
      · exact h.past e he
      · exact h.past y hy
  | none =>
    rw [putE_none hf]
    rw [List.findIdx?_eq_none_iff] at hf
    refine ⟨fun e he => ?_, ?_, ?_, fun e he => ?_⟩
    · rcases List.mem_append.1 he with he | he
      · exact h.keys e he
      · simp at he; subst he; exact ⟨hr.1, hr.2, hc.1, hc.2⟩
    · refine List.pairwise_append.2 ⟨h.apart, by simp, fun a ha b hb => ?_⟩
      simp at hb; subst hb
      exact is_false.1 (hf a ha)
    · refine List.pairwise_append.2 ⟨h.births, by simp, fun a ha b hb => ?_⟩
      simp at hb; subst hb
      have := h.past a ha
      simp only
      omega
    · rcases List.mem_append.1 he with he | he
      · have := h.past e he
        simp only
        omega
      · simp at he; subst he; simp

theorem find?_eraseIdx {p : MEnt → Bool} : ∀ (l : List MEnt) (j : Nat), (∀ h : j < l.length, p l[j] = false) → (l.eraseIdx j).find? p = l.find? p
  | [], _, _ => by simp
  | e :: l, 0, h => by
    have := h (by simp)
    simp at this
    simp [this]
  | e :: l, j + 1, h => by
    simp only [List.eraseIdx_cons_succ, List.find?_cons]
    rw [find?_eraseIdx l j (fun hj => by have := h (by simpa using hj); rwa [List.getElem_cons_succ] at this)]

theorem find?_modify (g : MEnt → MEnt) (q : MEnt → Bool) : ∀ (l : List MEnt) (j : Nat), (∀ h : j < l.length, q l[j] = false ∧ q (g l[j]) = false) → (l.modify j g).find? q = l.find? q
  | [], _, _ => by simp
  | e :: l, 0, h => by
    have := h (by simp)
    simp at this
    simp [this.1, this.2]
  | e :: l, j + 1, h => by
    simp only [List.modify_succ_cons, List.find?_cons]
    rw [find?_modify g q l j (fun hj => by have := h (by simpa using hj); rwa [List.getElem_cons_succ] at this)]

theorem look_none {l : List MEnt} {r c : Int} (h : ∀ e ∈ l, ¬ (e.r = r ∧ e.c = c)) : lookE l r c = (0, 0, 0, 0) := by
  unfold lookE
  rw [List.find?_eq_none.2 (fun e he => by rw [is_false.2 (h e he)]; simp)]
  rfl

theorem look_drop {l : List MEnt} {clock : Nat} (h : MapOk l clock) (r c r' c' : Int) : lookE (dropE l r c) r' c' = if r' = r ∧ c' = c then (0, 0, 0, 0) else lookE l r' c' := by
  cases hf : l.findIdx? (MEnt.is r c) with
  | none =>
    rw [dropE_none hf]
    rw [List.findIdx?_eq_none_iff] at hf
    by_cases hne : r' = r ∧ c' = c
    · rw [if_pos hne, hne.1, hne.2]
      exact look_none fun e he => is_false.1 (hf e he)
    · rw [if_neg hne]
  | some j =>
    rw [dropE_some hf]
    obtain ⟨hj, hk, _⟩ := List.findIdx?_eq_some_iff_getElem.1 hf
    have hk := is_true.1 hk
    by_cases hne : r' = r ∧ c' = c
    · rw [if_pos hne, hne.1, hne.2]
      refine look_none fun e he hh => ?_
      obtain ⟨i, hi, hi1, hi2⟩ := List.mem_eraseIdx_iff_getElem.1 he
      have hpw := List.pairwise_iff_getElem.1 h.apart
      rcases Nat.lt_or_ge i j with h1 | h1
      · exact hpw i j hi hj h1 (by rw [hi2, hk.1, hk.2]; exact hh)
      · exact hpw j i hj hi (by omega) (by rw [hi2, hk.1, hk.2]; exact ⟨hh.1.symm, hh.2.symm⟩)
    · rw [if_neg hne]
      unfold lookE
      rw [find?_eraseIdx l j (fun _ => is_false.2 (fun e => hne ⟨by rw [← e.1, hk.1], by rw [← e.2, hk.2]⟩))]

/-- What an entry of the list reads as. -/
theorem look_mem {l : List MEnt} {clock : Nat} (h : MapOk l clock) {e : MEnt} (he : e ∈ l) : lookE l e.r e.c = (e.s, e.p, e.k, e.u) := by
  obtain ⟨j, hj, rfl⟩ := List.getElem_of_mem he
  unfold lookE
  rw [find?_idx, find_of h.apart hj ⟨rfl, rfl⟩]
  simp [hj]

theorem look_put {l : List MEnt} {clock : Nat} (h : MapOk l clock) (r c s p k u r' c' : Int) : lookE (putE l clock r c s p k u).1 r' c' = if r' = r ∧ c' = c then (s, p, k, u) else lookE l r' c' := by
  cases hf : l.findIdx? (MEnt.is r c) with
  | none =>
    rw [putE_none hf]
    rw [List.findIdx?_eq_none_iff] at hf
    unfold lookE
    simp only [List.find?_append]
    by_cases hne : r' = r ∧ c' = c
    · rw [if_pos hne, hne.1, hne.2]
      rw [List.find?_eq_none.2 (fun e he => by rw [hf e he]; simp)]
      simp [MEnt.is]
    · rw [if_neg hne]
      have : MEnt.is r' c' ⟨clock, r, c, s, p, k, u⟩ = false := is_false.2 (fun e => hne ⟨e.1.symm, e.2.symm⟩)
      simp [this]
  | some j =>
    rw [putE_some hf]
    obtain ⟨hj, hk, _⟩ := List.findIdx?_eq_some_iff_getElem.1 hf
    have hk := is_true.1 hk
    have hp : (l.modify j (MEnt.with s p k u)).Pairwise fun a b => ¬ (a.r = b.r ∧ a.c = b.c) := pairwise_modify (g := MEnt.with s p k u) (fun a b x => x) (fun a b x => x) h.apart
    by_cases hne : r' = r ∧ c' = c
    · rw [if_pos hne, hne.1, hne.2]
      unfold lookE
      rw [find?_idx, find_of hp (j := j) (by simpa using hj) (by simpa [MEnt.with] using hk)]
      simp [hj, MEnt.with]
    · rw [if_neg hne]
      unfold lookE
      rw [find?_modify _ _ l j (fun _ => ⟨is_false.2 (fun e => hne ⟨by rw [← e.1, hk.1], by rw [← e.2, hk.2]⟩), is_false.2 (fun e => hne ⟨by rw [← e.1]; exact hk.1, by rw [← e.2]; exact hk.2⟩)⟩)]

theorem dropE_mem {l : List MEnt} {r c : Int} {e : MEnt} (h : e ∈ dropE l r c) : e ∈ l := by
  unfold dropE at h
  split at h
  · exact List.mem_of_mem_eraseIdx h
  · exact h
theorem MapOk.drop {l : List MEnt} {clock : Nat} (h : MapOk l clock) (r c : Int) : MapOk (dropE l r c) clock := by
  unfold dropE
  split
  · exact h.erase _
  · exact h
/-- Of other places the entries stay. -/
theorem dropE_mem_of {l : List MEnt} {clock : Nat} {r c : Int} {e : MEnt} (hl : MapOk l clock) (he : e ∈ l) (hne : ¬ (e.r = r ∧ e.c = c)) : e ∈ dropE l r c := by
  cases hf : l.findIdx? (MEnt.is r c) with
  | none => rw [dropE_none hf]; exact he
  | some j =>
    rw [dropE_some hf]
    obtain ⟨hj, hk, _⟩ := List.findIdx?_eq_some_iff_getElem.1 hf
    obtain ⟨i, hi, rfl⟩ := List.getElem_of_mem he
    refine List.mem_eraseIdx_iff_getElem.2 ⟨i, hi, ?_, rfl⟩
    rintro rfl
    exact hne (is_true.1 hk)
theorem putE_mem {l : List MEnt} {clock : Nat} {r c s p k u : Int} {e : MEnt} (h : e ∈ (putE l clock r c s p k u).1) : e ∈ l ∨ (e.r = r ∧ e.c = c ∧ e.s = s) := by
  cases hf : l.findIdx? (MEnt.is r c) with
  | none =>
    rw [putE_none hf] at h
    rcases List.mem_append.1 h with h | h
    · exact .inl h
    · simp at h; subst h; exact .inr ⟨rfl, rfl, rfl⟩
  | some j =>
    rw [putE_some hf] at h
    obtain ⟨hj, hk, _⟩ := List.findIdx?_eq_some_iff_getElem.1 hf
    have hk := is_true.1 hk
    rcases mem_modify_at h with h | ⟨_, rfl⟩
    · exact .inl h
    · exact .inr ⟨hk.1, hk.2, rfl⟩
end Go.Proofs.Ytlcbemcamdafjaa
