import Derived.Test.YthhibagcpjeihaaGreatRows
import Derived.WalkKit
import Derived.ProofKit
import Derived.Deep.RegionLawGrows
import Derived.BigQuiet
import Derived.Deep.QuietTactic
import Derived.Deep.MidRow
import Derived.Handy
import Derived.WideKeyArgs
import Derived.DeepKeys4
import Derived.MapViews
namespace Go.Proofs.YthhibagcpjeihaaGreat
open Go.RowKit
theorem hide {p : Prop} (h : p) : Hid p := h
theorem unhide {p : Prop} (h : Hid p) : p := h
def Has (w : World) (b : Nat) (cs : Array Value) (T : TypeId) : Prop := w.heap[b]? = some (.cells cs T (0, 0))
theorem Has.cell {w : World} {b : Nat} {cs : Array Value} {T : TypeId} (h : Has w b cs T) (o : Nat) : w.cell? ⟨b, o, none⟩ = cs[o]? := by
 unfold Has at h
 simp [World.cell?, h]
theorem Has.frozen {w : World} {b : Nat} {cs : Array Value} {T : TypeId} (h : Has w b cs T) (o : Nat) : w.frozen? ⟨b, o, none⟩ = false := by
 unfold Has at h
 simp [World.frozen?, h]
theorem Has.lt {w : World} {b : Nat} {cs : Array Value} {T : TypeId} (h : Has w b cs T) : b < w.heap.size := (Array.getElem?_eq_some_iff.1 h).1
theorem Has.ne {w : World} {b b' : Nat} {cs cs' : Array Value} {T T' : TypeId} (h : Has w b cs T) (h' : Has w b' cs' T') (hT : T ≠ T') : b ≠ b' := by
 rintro rfl
 unfold Has at h h'
 rw [h] at h'
 injection h' with h'
 injection h' with _ h2
 exact hT h2
structure Mod (S : Nat → Prop) (w w' : World) : Prop where
 os : w'.os = w.os
 tape : w'.tape = w.tape
 output : w'.output = w.output
 size : w.heap.size ≤ w'.heap.size
 block : ∀ k, k < w.heap.size → ¬ S k → w'.heap[k]? = w.heap[k]?
def No : Nat → Prop := fun _ => False
theorem Mod.refl (S : Nat → Prop) (w : World) : Mod S w w := ⟨rfl, rfl, rfl, Nat.le_refl _, fun _ _ _ => rfl⟩
theorem Mod.trans {S : Nat → Prop} {a b c : World} (h : Mod S a b) (k : Mod S b c) : Mod S a c :=
 ⟨k.os.trans h.os, k.tape.trans h.tape, k.output.trans h.output, Nat.le_trans h.size k.size,
  fun i hi hs => (k.block i (Nat.lt_of_lt_of_le hi h.size) hs).trans (h.block i hi hs)⟩
theorem Mod.trans' {S S' : Nat → Prop} {a b c : World} (h : Mod S a b) (k : Mod S' b c) (hS : ∀ i, S' i → i < a.heap.size → S i) : Mod S a c :=
 ⟨k.os.trans h.os, k.tape.trans h.tape, k.output.trans h.output, Nat.le_trans h.size k.size,
  fun i hi hs => (k.block i (Nat.lt_of_lt_of_le hi h.size) (fun h' => hs (hS i h' hi))).trans (h.block i hi hs)⟩
theorem Mod.mono {S S' : Nat → Prop} {a b : World} (h : Mod S a b) (hS : ∀ i, i < a.heap.size → S i → S' i) : Mod S' a b :=
 ⟨h.os, h.tape, h.output, h.size, fun i hi hs => h.block i hi (fun h' => hs (hS i hi h'))⟩
theorem Mod.drew {S : Nat → Prop} {a w : World} (h : Mod S a w) : Mod S a w.drew := ⟨h.os, h.tape, h.output, h.size, h.block⟩
theorem Mod.drewN {S : Nat → Prop} {a w : World} (h : Mod S a w) (n : Nat) : Mod S a (w.drewN n) := ⟨h.os, h.tape, h.output, h.size, h.block⟩
theorem Mod.alloc {S : Nat → Prop} {a w : World} (h : Mod S a w) (o : Obj) : Mod S a (w.alloc o) :=
 h.trans ⟨rfl, rfl, rfl, by simp, fun k hk _ => Below.heap_alloc _ _ _ hk⟩
theorem Mod.setCell {S : Nat → Prop} {a w : World} (h : Mod S a w) {p : Addr} (hp : S p.block ∨ a.heap.size ≤ p.block) (u : Value) : Mod S a (w.setCell p u) :=
 h.trans' (S' := fun k => k = p.block) ⟨rfl, rfl, rfl, by simp, fun k _ hk => Below.heap_setCell _ _ _ _ hk⟩
  (fun i hi hl => by subst hi; rcases hp with hp | hp; exact hp; omega)
theorem Mod.grown {S : Nat → Prop} {a w w' : World} {row : Option Nat} (h : Mod S a w) (hg : w.grownBy w' row) (hr : ∀ k, row = some k → S k ∨ a.heap.size ≤ k) : Mod S a w' :=
 h.trans' (S' := fun k => some k = row) ⟨hg.os, hg.tape, hg.output, hg.size, fun k hk hne => hg.block k hk hne⟩
  (fun i hi hl => by rcases hr i hi.symm with hp | hp; exact hp; omega)
theorem Mod.has {S : Nat → Prop} {w w' : World} (h : Mod S w w') {b : Nat} {cs : Array Value} {T : TypeId} (hb : Has w b cs T) (hs : ¬ S b) : Has w' b cs T := by
 unfold Has; rw [h.block b hb.lt hs]; exact hb
theorem Mod.owns {S : Nat → Prop} {w w' : World} (h : Mod S w w') {base : Nat} {e : TypeId} {size : Nat} {v : Value} {n : Nat} {xs : List Value}
  (ho : w.ownsRow base e size v n xs) (hs : ∀ k, v.ownBlock = some k → ¬ S k) : w'.ownsRow base e size v n xs := by
 refine ⟨ho.1, ?_⟩
 rcases ho.2 with hn | ⟨g, cap, cur, rfl, hb, hg, rest⟩
 ·exact .inl hn
 ·exact .inr ⟨g, cap, cur, rfl, hb, by rw [h.block g (Array.getElem?_eq_some_iff.1 hg).1 (hs g rfl)]; exact hg, rest⟩
theorem Mod.below {w w' : World} (h : Mod No w w') : Below w.heap.size w w' := ⟨h.os, h.tape, h.output, h.size, fun k hk => h.block k hk (fun x => x)⟩
theorem Has.alloc {w : World} {b : Nat} {cs : Array Value} {T : TypeId} (h : Has w b cs T) (o : Obj) : Has (w.alloc o) b cs T := by
 unfold Has; rw [Below.heap_alloc _ _ _ h.lt]; exact h
theorem Has.new (w : World) (cs : Array Value) (T : TypeId) : Has (w.alloc (.cells cs T)) w.heap.size cs T := by
 unfold Has; exact heap_alloc_new w _
theorem Has.drew {w : World} {b : Nat} {cs : Array Value} {T : TypeId} (h : Has w b cs T) : Has w.drew b cs T := h
theorem Has.drewN {w : World} {b : Nat} {cs : Array Value} {T : TypeId} (h : Has w b cs T) (n : Nat) : Has (w.drewN n) b cs T := h
theorem Has.set {w : World} {b : Nat} {cs : Array Value} {T : TypeId} (h : Has w b cs T) (o : Nat) (v : Value) : Has (w.setCell ⟨b, o, none⟩ v) b (cs.setIfInBounds o v) T := by
 unfold Has at h ⊢
 simp [World.setCell, Array.getElem?_modify, h]
theorem Has.set_ne {w : World} {b : Nat} {cs : Array Value} {T : TypeId} (h : Has w b cs T) {a : Addr} (ha : b ≠ a.block) (v : Value) : Has (w.setCell a v) b cs T := by
 unfold Has; rw [Below.heap_setCell _ _ _ _ ha]; exact h
theorem owns_setCell_ne {w : World} {base : Nat} {e : TypeId} {size : Nat} {v : Value} {n : Nat} {xs : List Value} (h : w.ownsRow base e size v n xs) {a : Addr}
  (ha : v.ownBlock ≠ some a.block) (u : Value) : (w.setCell a u).ownsRow base e size v n xs := by
 refine ⟨h.1, ?_⟩
 rcases h.2 with hn | ⟨g, cap, cur, rfl, hb, hg, rest⟩
 ·exact .inl hn
 ·refine .inr ⟨g, cap, cur, rfl, hb, ?_, rest⟩
  rw [Below.heap_setCell _ _ _ _ (by intro e; exact ha (by simp [Value.ownBlock, e]))]
  exact hg
end Go.Proofs.YthhibagcpjeihaaGreat
namespace Go.Proofs.YthhibagcpjeihaaGreat.M
structure Sea where
 row : Int
 col : Int
 st : Int
 pa : Int
 cl : Int
 un : Int
structure Pla where
 rows : Int
 cols : Int
 front : Int
 l0 : Int
 l1 : Int
 l2 : Int
 l3 : Int
 ep : Int
structure Fli where
 num : Int
 pla : Pla
 seats : List Sea
 ep : Int
structure Cmd where
 kind : Int
 flight : Int
 ar : Int
 ac : Int
 tr : Int
 tc : Int
 party : Int
 cls : Int
 time : Int
 pla : Pla
def nx (e : Int) : Int := Go.IntKind.i64.wrap (e + 1)
theorem nx_eq (e : Int) : Go.IntKind.i64.wrap (e + 1) = nx e := rfl
def Pla.next (p : Pla) : Pla := ⟨p.rows, p.cols, p.front, p.l0, p.l1, p.l2, p.l3, nx p.ep⟩
def Pla.at (p : Pla) (e : Int) : Pla := ⟨p.rows, p.cols, p.front, p.l0, p.l1, p.l2, p.l3, e⟩
def Pla.lim (p : Pla) : Nat → Int
 | 0 => p.l0
 | 1 => p.l1
 | 2 => p.l2
 | _ => p.l3
def Sea.sold (s : Sea) : Bool := s.st == 1 || s.st == 2
def Sea.freed (s : Sea) : Sea := ⟨s.row, s.col, 0, 0, 0, 0⟩
def nFree (l : List Sea) : Nat := l.countP fun s => s.st == 0
def nAt (p : Pla) (fr : Bool) (st : Int) (l : List Sea) : Nat := l.countP fun s => (decide (s.row ≤ p.front) == fr) && s.st == st
def nSold (c : Int) (l : List Sea) : Nat := l.countP fun s => s.sold && s.cl == c
def nFrom (c : Int) (l : List Sea) : Nat := l.countP fun s => s.sold && decide (c ≤ s.cl)
def leastTo (p : Pla) (l : List Sea) : Nat → Int
 | 0 => min (nFree l : Int) (p.lim 0 - nFrom 0 l)
 | c + 1 => min (leastTo p l c) (p.lim (c + 1) - nFrom ((c : Int) + 1) l)
def leftOf (p : Pla) (l : List Sea) (c : Nat) : Int := max (leastTo p l c) 0
def Pla.sized (p : Pla) : Bool := decide (1 ≤ p.rows ∧ p.rows ≤ 20 ∧ 1 ≤ p.cols ∧ p.cols ≤ 6 ∧ 0 ≤ p.front ∧ p.front ≤ p.rows)
def Pla.limited (p : Pla) : Bool := decide (0 ≤ p.l0 ∧ p.l0 ≤ 200 ∧ 0 ≤ p.l1 ∧ p.l1 ≤ p.l0 ∧ 0 ≤ p.l2 ∧ p.l2 ≤ p.l1 ∧ 0 ≤ p.l3 ∧ p.l3 ≤ p.l2)
def Pla.has (p : Pla) (r c : Int) : Bool := decide (1 ≤ r ∧ r ≤ p.rows ∧ 1 ≤ c ∧ c ≤ p.cols)
def Pla.idx (p : Pla) (r c : Int) : Nat := ((r - 1) * p.cols + (c - 1)).toNat
def noSea : Sea := ⟨0, 0, 0, 0, 0, 0⟩
structure Sea.wf (s : Sea) : Prop where
 s0 : 0 ≤ s.st
 s1 : s.st ≤ 3
 c0 : 0 ≤ s.cl
 c1 : s.cl ≤ 3
 bare : s.st = 0 ∨ s.st = 3 → s.pa = 0 ∧ s.cl = 0 ∧ s.un = 0
 pa : 0 ≤ s.pa ∧ s.pa ≤ 1000
 un : 0 ≤ s.un ∧ s.un ≤ 4611686018427387904
 bk : s.st = 2 → s.un = 0
structure Fli.wf (f : Fli) : Prop where
 sized : f.pla.sized = true
 limited : f.pla.limited = true
 len : (f.seats.length : Int) = f.pla.rows * f.pla.cols
 place : ∀ i (h : i < f.seats.length), f.seats[i].row = (i : Int) / f.pla.cols + 1 ∧ f.seats[i].col = (i : Int) % f.pla.cols + 1
 seat : ∀ s ∈ f.seats, s.wf
theorem Fli.wf.bounds {f : Fli} (h : f.wf) : 1 ≤ f.pla.rows ∧ f.pla.rows ≤ 20 ∧ 1 ≤ f.pla.cols ∧ f.pla.cols ≤ 6 ∧ 0 ≤ f.pla.front ∧ f.pla.front ≤ f.pla.rows := by
 have := h.sized
 simpa [Pla.sized] using this
theorem Fli.wf.len_le {f : Fli} (h : f.wf) : f.seats.length ≤ 120 := by
 obtain ⟨a, b, c, d, _⟩ := h.bounds
 have hl := h.len
 have : f.pla.rows * f.pla.cols ≤ 20 * 6 := Int.mul_le_mul b d (by omega) (by omega)
 omega
theorem Fli.wf.idx_lt {f : Fli} (h : f.wf) {r c : Int} (hh : f.pla.has r c = true) : f.pla.idx r c < f.seats.length := by
 simp only [Pla.has, decide_eq_true_eq] at hh
 obtain ⟨h1, h2, h3, h4⟩ := hh
 obtain ⟨b1, b2, b3, b4, _⟩ := h.bounds
 have hl := h.len
 have m1 : (r - 1) * f.pla.cols ≤ (f.pla.rows - 1) * f.pla.cols := Int.mul_le_mul_of_nonneg_right (by omega) (by omega)
 have m2 : (f.pla.rows - 1) * f.pla.cols = f.pla.rows * f.pla.cols - f.pla.cols := by rw [Int.sub_mul, Int.one_mul]
 have m3 : 0 ≤ (r - 1) * f.pla.cols := Int.mul_nonneg (by omega) (by omega)
 unfold Pla.idx
 omega
theorem Fli.wf.idx_place {f : Fli} (h : f.wf) {r c : Int} (hh : f.pla.has r c = true) : (f.seats[f.pla.idx r c]'(h.idx_lt hh)).row = r ∧ (f.seats[f.pla.idx r c]'(h.idx_lt hh)).col = c := by
 have hp := h.place _ (h.idx_lt hh)
 simp only [Pla.has, decide_eq_true_eq] at hh
 obtain ⟨h1, h2, h3, h4⟩ := hh
 obtain ⟨b1, b2, b3, b4, _⟩ := h.bounds
 have m3 : 0 ≤ (r - 1) * f.pla.cols := Int.mul_nonneg (by omega) (by omega)
 have e : ((f.pla.idx r c : Nat) : Int) = (c - 1) + (r - 1) * f.pla.cols := by unfold Pla.idx; omega
 rw [e] at hp
 rw [Int.add_mul_ediv_right _ _ (by omega : f.pla.cols ≠ 0), Int.add_mul_emod_self_right, Int.ediv_eq_zero_of_lt (by omega) (by omega), Int.emod_eq_of_lt (by omega) (by omega)] at hp
 omega
theorem Fli.wf.place_has {f : Fli} (h : f.wf) {i : Nat} (hi : i < f.seats.length) : f.pla.has f.seats[i].row f.seats[i].col = true ∧ f.pla.idx f.seats[i].row f.seats[i].col = i := by
 have hp := h.place i hi
 obtain ⟨b1, b2, b3, b4, _⟩ := h.bounds
 have hl := h.len
 have d0 := Int.emod_nonneg (i : Int) (by omega : f.pla.cols ≠ 0)
 have d1 := Int.emod_lt_of_pos (i : Int) (by omega : 0 < f.pla.cols)
 have d2 := Int.mul_ediv_add_emod (i : Int) f.pla.cols
 have d3 : 0 ≤ (i : Int) / f.pla.cols := Int.ediv_nonneg (by omega) (by omega)
 have d4 : (i : Int) / f.pla.cols < f.pla.rows := by
  apply Int.ediv_lt_of_lt_mul (by omega)
  omega
 have d5 : f.pla.cols * ((i : Int) / f.pla.cols) = (i : Int) / f.pla.cols * f.pla.cols := Int.mul_comm _ _
 constructor
 ·simp only [Pla.has, decide_eq_true_eq]
  omega
 ·unfold Pla.idx
  rw [hp.1, hp.2, show (i : Int) / f.pla.cols + 1 - 1 = (i : Int) / f.pla.cols from by omega]
  omega
theorem Fli.wf.place_inj {f : Fli} (h : f.wf) {i j : Nat} (hi : i < f.seats.length) (hj : j < f.seats.length) (hr : f.seats[i].row = f.seats[j].row) (hc : f.seats[i].col = f.seats[j].col) : i = j := by
 have h1 := (h.place_has hi).2
 have h2 := (h.place_has hj).2
 rw [hr, hc] at h1
 omega
theorem countP_set (p : Sea → Bool) (l : List Sea) (i : Nat) (h : i < l.length) (a : Sea) :
  ((l.set i a).countP p : Int) = l.countP p - (if p l[i] then 1 else 0) + (if p a then 1 else 0) := by
 rw [List.countP_set h]
 have pos : p l[i] = true → 1 ≤ l.countP p := fun hp => List.countP_pos_iff.2 ⟨_, List.getElem_mem h, hp⟩
 cases h1 : p l[i] <;> cases h2 : p a
 ·simp
 ·simp
 ·have := pos h1
  simp only [if_true, Bool.false_eq_true, if_false]
  omega
 ·have := pos h1
  simp only [if_true]
  omega
theorem nFree_split (p : Pla) (l : List Sea) : nFree l = nAt p true 0 l + nAt p false 0 l := by
 unfold nFree nAt
 induction l with
 | nil => rfl
 | cons s l ih =>
  simp only [List.countP_cons, ih]
  by_cases h : s.row ≤ p.front <;> by_cases h' : s.st = 0 <;> simp [h, h'] <;> omega
theorem nFrom_split (l : List Sea) (hl : ∀ s ∈ l, 0 ≤ s.cl ∧ s.cl ≤ 3) : nFrom 0 l = nSold 0 l + nSold 1 l + nSold 2 l + nSold 3 l ∧ nFrom 1 l = nSold 1 l + nSold 2 l + nSold 3 l ∧
  nFrom 2 l = nSold 2 l + nSold 3 l ∧ nFrom 3 l = nSold 3 l := by
 unfold nFrom nSold
 induction l with
 | nil => exact ⟨rfl, rfl, rfl, rfl⟩
 | cons s l ih =>
  obtain ⟨i0, i1, i2, i3⟩ := ih (fun x hx => hl x (List.mem_cons_of_mem _ hx))
  obtain ⟨c0, c1⟩ := hl s (List.mem_cons_self)
  simp only [List.countP_cons, i0, i1, i2, i3]
  have : s.cl = 0 ∨ s.cl = 1 ∨ s.cl = 2 ∨ s.cl = 3 := by omega
  rcases this with h | h | h | h <;> cases hs : s.sold <;> simp [h] <;> omega
end Go.Proofs.YthhibagcpjeihaaGreat.M
namespace Go.Proofs.YthhibagcpjeihaaGreat
open Go.RowKit
set_option linter.unusedVariables false
theorem Mod.setCells {S : Nat → Prop} {a : World} {b : Nat} (hb : S b ∨ a.heap.size ≤ b) : ∀ (vs : List Value) (o : Nat) (w : World), Mod S a w → Mod S a (w.setCells b o vs)
 | [], _, _, h => h
 | v :: r, o, w, h => Mod.setCells hb r (o + 1) _ (h.setCell (p := ⟨b, o, none⟩) hb v)
def setAll : Array Value → Nat → List Value → Array Value
 | cs, _, [] => cs
 | cs, o, v :: r => setAll (cs.setIfInBounds o v) (o + 1) r
theorem Has.setCells {b : Nat} {T : TypeId} : ∀ (vs : List Value) (o : Nat) (w : World) (cs : Array Value), Has w b cs T → Has (w.setCells b o vs) b (setAll cs o vs) T
 | [], _, _, _, h => h
 | v :: r, o, _, _, h => Has.setCells r (o + 1) _ _ (h.set o v)
theorem setAll_get : ∀ (vs : List Value) (o : Nat) (cs : Array Value) (i : Nat), (setAll cs o vs)[i]? = if o ≤ i ∧ i < o + vs.length ∧ i < cs.size then vs[i - o]? else cs[i]?
 | [], o, cs, i => by
  simp only [setAll, List.length_nil, Nat.add_zero]
  rw [if_neg (by omega)]
 | v :: r, o, cs, i => by
  simp only [setAll]
  rw [setAll_get r (o + 1) _ i]
  simp only [Array.size_setIfInBounds, List.length_cons]
  by_cases h : o + 1 ≤ i ∧ i < o + 1 + r.length ∧ i < cs.size
  ·rw [if_pos h, if_pos ⟨by omega, by omega, h.2.2⟩]
   obtain ⟨k, rfl⟩ : ∃ k, i = o + 1 + k := ⟨i - (o + 1), by omega⟩
   rw [show o + 1 + k - (o + 1) = k by omega, show o + 1 + k - o = k + 1 by omega]
   rfl
  ·rw [if_neg h]
   by_cases h' : o ≤ i ∧ i < o + (r.length + 1) ∧ i < cs.size
   ·have : i = o := by omega
    subst this
    rw [if_pos h', Array.getElem?_setIfInBounds_self_of_lt h'.2.2, Nat.sub_self]
    rfl
   ·rw [if_neg h']
    by_cases hi : o = i
    ·subst hi
     rw [Array.getElem?_setIfInBounds, if_pos rfl, if_neg (by omega), Array.getElem?_eq_none (by omega)]
    ·rw [Array.getElem?_setIfInBounds_ne hi]
theorem setAll_size : ∀ (vs : List Value) (o : Nat) (cs : Array Value), (setAll cs o vs).size = cs.size
 | [], _, _ => rfl
 | v :: r, o, cs => by simp only [setAll]; rw [setAll_size r (o + 1) _]; simp
theorem setAll_whole (cs vs : Array Value) (h : vs.size = cs.size) : setAll cs 0 vs.toList = vs := by
 apply Array.ext
 ·rw [setAll_size, h]
 ·intro i h1 h2
  have := setAll_get vs.toList 0 cs i
  rw [if_pos ⟨by omega, by simpa using h2, by omega⟩] at this
  rw [Array.getElem?_eq_getElem h1] at this
  simpa [Array.getElem?_eq_getElem h2] using this
theorem Has.range {w : World} {b : Nat} {cs : Array Value} {T : TypeId} (h : Has w b cs T) (o : Nat) (l : List Value) (hl : ∀ j v, l[j]? = some v → cs[o + j]? = some v) : w.rangeAt b o l :=
 fun j v hv => by rw [h.cell]; exact hl j v hv
theorem wpList_load_has {P : Program} {ops : Array Oper} {rest : List Oper} {op : Oper} {a : Act} {w : World} {Q : Exit → Act → World → Prop} (hgd : op.guard = none) (ty : TypeId) (x : Operand) (ho : op.op = .load ty x)
  (b o : Nat) (hx : a.eval x = .pointer (some ⟨b, o, none⟩)) (cs : Array Value) (T : TypeId) (hb : Has w b cs T) (l : Array Value) (hl : ∀ j v, l.toList[j]? = some v → cs[o + j]? = some v)
  (hu : (P.underlying ty).map (·.isRow) = some true) (hi : (P.info? ty).map (·.size) = some l.size)
  (h : wpList P ops Q rest (a.put op.dst (.agg l)) w) : wpList P ops Q (op :: rest) a w := by
 cases hd : P.underlying ty with
 | none => rw [hd] at hu; simp at hu
 | some d =>
  rw [hd] at hu
  exact wpList_load_mid hgd ty x ho b o hx l.toList d (hb.range o _ hl) hd (by simpa using hu) (by simpa using hi) h
theorem wpList_store_has {P : Program} {ops : Array Oper} {rest : List Oper} {op : Oper} {a : Act} {w : World} {Q : Exit → Act → World → Prop} (hgd : op.guard = none) (ty : TypeId) (x y : Operand) (ho : op.op = .store ty x y)
  (b : Nat) (cells : Array Value) (hx : a.eval x = .pointer (some ⟨b, 0, none⟩)) (hy : a.eval y = .agg cells) (cs : Array Value) (T : TypeId) (hb : Has w b cs T) (hs : cells.size = cs.size)
  (hi : (P.info? ty).map (·.size) = some cells.size) (h1 : cells.all (·.oneCell') = true)
  (h : ∀ w', Has w' b cells T → Mod (fun k => k = b) w w' → wpList P ops Q rest (a.put op.dst undef) w') : wpList P ops Q (op :: rest) a w := by
 refine wpList_store_mid hgd ty x y ho b 0 cells hx hy (fun j hj => ⟨?_, hb.frozen _⟩) hi h1 (h _ ?_ ?_)
 ·rw [hb.cell, Nat.zero_add, Array.getElem?_eq_getElem (by omega)]
  rfl
 ·have := hb.setCells cells.toList 0
  rw [setAll_whole cs cells hs] at this
  exact this
 ·exact Mod.setCells (S := fun k => k = b) (.inl rfl) _ _ _ (Mod.refl _ _)
set_option maxRecDepth 100000
set_option maxHeartbeats 2000000
theorem wrap_id (x : Int) (h : -4611686018427387904 ≤ x) (h' : x ≤ 4611686018427387904) : IntKind.i64.wrap x = x := by
 simp [IntKind.wrap, IntKind.bits, IntKind.signed]
 omega
theorem wrap_fit (x : Int) (h : -9223372036854775808 ≤ x) (h' : x ≤ 9223372036854775807) : IntKind.i64.wrap x = x := by
 simp [IntKind.wrap, IntKind.signed, IntKind.bits]
 omega
def pickN (c n : Int) : Int := if c < 0 then (-(c + 1)) % n else c % n
theorem pickN_range (c n : Int) (hn : 0 < n) : 0 ≤ pickN c n ∧ pickN c n < n := by
 unfold pickN
 split
 ·exact ⟨Int.emod_nonneg _ (by omega), Int.emod_lt_of_pos _ hn⟩
 ·exact ⟨Int.emod_nonneg _ (by omega), Int.emod_lt_of_pos _ hn⟩
theorem Has.grown {w w' : World} {b : Nat} {cs : Array Value} {T : TypeId} {row : Option Nat} (h : Has w b cs T) (hg : w.grownBy w' row) (hne : some b ≠ row) : Has w' b cs T := by
 unfold Has; rw [hg.block b h.lt hne]; exact h
theorem slice_of_owns {w : World} {base : Nat} {e : TypeId} {size : Nat} {v : Value} {n : Nat} {xs : List Value} (h : w.ownsRow base e size v n xs) : ∃ a cap, v = .slice a n cap := by
 rcases h.2 with ⟨h1, h2⟩ | ⟨g, cap, cur, hv, _⟩
 ·exact ⟨none, 0, by rw [h1, h2]⟩
 ·exact ⟨_, cap, hv⟩
set_option linter.unusedSimpArgs false
def Reads (w : World) (x : Value) (m : Nat) (news : List Value) : Prop :=
 (x = .slice none 0 0 ∧ m = 0) ∨ ∃ ad c, x = .slice (some ad) m c ∧ ∀ j u, news[j]? = some u → w.cell? (ad.add j) = some u
theorem reads_of_owns {w : World} {base : Nat} {e : TypeId} {size : Nat} {v : Value} {n : Nat} {xs : List Value} (h : w.ownsRow base e size v n xs) : Reads w v n xs := by
 rcases h.2 with ⟨h1, h2⟩ | ⟨g, cap, cur, hv, _, _⟩
 ·exact .inl ⟨h1, h2⟩
 ·refine .inr ⟨⟨g, 0, none⟩, cap, hv, fun j u hu => ?_⟩
  exact h.cells (by rw [hv]; rfl) j u hu
theorem Reads.mod {S : Nat → Prop} {w w' : World} {x : Value} {m : Nat} {news : List Value} (h : Reads w x m news) (hm : Mod S w w') (hs : ∀ k, x.ownBlock = some k → ¬ S k) : Reads w' x m news := by
 rcases h with h | ⟨ad, c, rfl, hc⟩
 ·exact .inl h
 ·refine .inr ⟨ad, c, rfl, fun j u hu => ?_⟩
  have h1 := hc j u hu
  have hb : (ad.add j).block = ad.block := by unfold Addr.add; split <;> rfl
  have hlt := World.block_lt_of_cell? w _ h1
  rw [World.cell?_of_block (w := w) (hm.block _ hlt (by rw [hb]; exact hs _ rfl))]
  exact h1
def Stays (w : World) (v v' : Value) : Prop := ∀ k, v'.ownBlock = some k → v.ownBlock = some k ∨ w.heap.size ≤ k
theorem run_append_row {P : Program} (w : World) (t ty e : TypeId) (i : TypeInfo) (z : Value) (size bytes : Nat) (ht : P.underlying t = some (.slice e)) (hi : P.info? e = some i) (hz : i.zero = some z)
  (hsize : i.size = size) (hby : i.bytes = bytes) (hzs : z.cells.size = size) (hsz : 0 < size)
  (v : Value) (n : Nat) (xs : List Value) (hown : w.ownsRow 0 e size v n xs)
  (x : Value) (m : Nat) (news : List Value) (hx : Reads w x m news) (hl : news.length = m * size) (h1 : ∀ u ∈ news, u.oneCell' = true)
  (h63 : n + m ≤ maxLen) (hbytes : (n + m) * bytes ≤ 140737488355328) :
  ∃ v' w', (Builtin.append_ #[t, t] ty #[v, x]).run P w = .ok v' w' ∧ w'.ownsRow 0 e size v' (n + m) (xs ++ news) ∧ w.grownBy w' v.ownBlock ∧ Stays w v v' := by
 have hsame : w.grownBy w v.ownBlock := ⟨rfl, rfl, rfl, Nat.le_refl _, fun _ _ _ => rfl⟩
 rcases hx with ⟨rfl, rfl⟩ | ⟨ad, c, rfl, hc⟩
 ·obtain rfl : news = [] := List.eq_nil_of_length_eq_zero (by simpa using hl)
  refine ⟨v, w, ?_, by simpa using hown, hsame, fun k hk => .inl hk⟩
  rcases hown.2 with ⟨rfl, rfl⟩ | ⟨g, cap, cur, rfl, _, _, hnc, _⟩
  ·simp [Builtin.append_, run_underlying ht, sizeOf, typeInfo, hi, Builtin.lenOf, Builtin.firstCells, loadCells, loadCellsFrom]
  ·simp [Builtin.append_, run_underlying ht, sizeOf, typeInfo, hi, Builtin.lenOf, Builtin.firstCells, loadCells, loadCellsFrom, hnc, storeCells]
 ·have hown' := hown
  rcases hown.2 with ⟨rfl, rfl⟩ | ⟨g, cap, cur, rfl, _, hg, hnc, hcm, hcs, htake⟩
  ·obtain rfl : xs = [] := List.eq_nil_of_length_eq_zero (by simpa using hown.1)
   obtain ⟨v', w', hr, h2, h3, h4⟩ := run_append_own (P := P) w w.heap.size t ty e i z size bytes ht hi hz hsize hby hzs hsz (.slice none 0 0) 0 [] (World.ownsRow_nil _ _ _ _) ad m c news hl hc h1 h63 hbytes (Nat.le_refl _)
   refine ⟨v', w', hr, ⟨h2.1, ?_⟩, h3, fun k hk => .inr (h2.lt k hk).1⟩
   rcases h2.2 with h | ⟨g, cap, cur, hv, _, r⟩
   ·exact .inl h
   ·exact .inr ⟨g, cap, cur, hv, Nat.zero_le _, r⟩
  ·by_cases hroom : n + m ≤ cap
   ·subst hsize
    have hfit : n * i.size + news.length ≤ cur.size := by rw [hl, hcs, ← Nat.add_mul]; exact Nat.mul_le_mul_right _ hroom
    have hr := run_append_room (P := P) w t ty e i ht hi g n cap cur hg ad m c news hl hc h1 hroom hfit
    obtain ⟨v', w', hr2, h2, h3, _⟩ := run_append_own (P := P) w 0 t ty e i z i.size bytes ht hi hz rfl hby hzs hsz _ n xs hown ad m c news hl hc h1 h63 hbytes (Nat.zero_le _)
    rw [hr] at hr2
    injection hr2 with e1 e2
    subst e1
    subst e2
    exact ⟨_, _, hr, h2, h3, fun k hk => .inl hk⟩
   ·obtain ⟨v', w', hr, h2, h3⟩ := run_append_arg_grows (P := P) w t ty e i z size bytes ht hi hz hsize hby hzs hsz ⟨g, 0, none⟩ n cap xs hown.1 (hown.cells rfl) ad m c news hl hc (by omega) h63 hbytes
    refine ⟨v', w', hr, ⟨h2.1, ?_⟩, ⟨h3.os, h3.tape, h3.output, h3.size, fun k hk _ => h3.block k hk (by simp)⟩, fun k hk => .inr (h2.lt k hk).1⟩
    rcases h2.2 with h | ⟨g, cap, cur, hv, _, r⟩
    ·exact .inl h
    ·exact .inr ⟨g, cap, cur, hv, Nat.zero_le _, r⟩
section
variable {P : Program} {w : World}
theorem wp_append_row {o : Oper} {a : Act} {K : Act → World → Prop} {Q : Exit → Act → World → Prop} (s y : Operand) (t : TypeId)
  (ho : o.op = .call { callee := .builtin .append, args := #[s, y], argTypes := #[t, t] })
  (e : TypeId) (i : TypeInfo) (z : Value) (size bytes : Nat) (ht : P.underlying t = some (.slice e)) (hi : P.info? e = some i) (hz : i.zero = some z)
  (hsize : i.size = size) (hby : i.bytes = bytes) (hzs : z.cells.size = size) (hsz : 0 < size)
  (v : Value) (n : Nat) (xs : List Value) (hs : a.eval s = v) (hown : w.ownsRow 0 e size v n xs)
  (x : Value) (m : Nat) (news : List Value) (hx : a.eval y = x) (hr : Reads w x m news) (hl : news.length = m * size) (h1 : ∀ u ∈ news, u.oneCell' = true)
  (h63 : n + m ≤ maxLen) (hbytes : (n + m) * bytes ≤ 140737488355328)
  (h : ∀ v' w', w'.ownsRow 0 e size v' (n + m) (xs ++ news) → w.grownBy w' v.ownBlock → Stays w v v' → K (a.put o.dst v') w') : o.wp P a w K Q := by
 obtain ⟨v', w', hr, h2, h3, h4⟩ := run_append_row (P := P) w t o.type e i z size bytes ht hi hz hsize hby hzs hsz v n xs hown x m news hr hl h1 h63 hbytes
 unfold Oper.wp execOp
 simp only [ho, resolve, invoke, builtin, Sem.run_bind, Sem.run_pure, Result.andThen_ok, List.map_toArray, List.map_cons, List.map_nil, hs, hx, hr]
 exact h v' w' h2 h3 h4
theorem wpList_append_row {ops : Array Oper} {rest : List Oper} {o : Oper} {a : Act} {Q : Exit → Act → World → Prop} (hgd : o.guard = none) (s y : Operand) (t : TypeId)
  (ho : o.op = .call { callee := .builtin .append, args := #[s, y], argTypes := #[t, t] })
  (e : TypeId) (i : TypeInfo) (z : Value) (size bytes : Nat) (ht : P.underlying t = some (.slice e)) (hi : P.info? e = some i) (hz : i.zero = some z)
  (hsize : i.size = size) (hby : i.bytes = bytes) (hzs : z.cells.size = size) (hsz : 0 < size)
  (v : Value) (n : Nat) (xs : List Value) (hs : a.eval s = v) (hown : w.ownsRow 0 e size v n xs)
  (x : Value) (m : Nat) (news : List Value) (hx : a.eval y = x) (hr : Reads w x m news) (hl : news.length = m * size) (h1 : ∀ u ∈ news, u.oneCell' = true)
  (h63 : n + m ≤ maxLen) (hbytes : (n + m) * bytes ≤ 140737488355328)
  (h : ∀ v' w', w'.ownsRow 0 e size v' (n + m) (xs ++ news) → w.grownBy w' v.ownBlock → Stays w v v' → wpList P ops Q rest (a.put o.dst v') w') : wpList P ops Q (o :: rest) a w :=
 wpList_plain hgd fun _ hK => wp_append_row s y t ho e i z size bytes ht hi hz hsize hby hzs hsz v n xs hs hown x m news hx hr hl h1 h63 hbytes fun v' w' h2 h3 h4 => hK _ _ (h v' w' h2 h3 h4)
theorem step_append_row {ops : Array Oper} {o : Oper} {a : Act} {K : Act → World → Prop} {Q : Exit → Act → World → Prop} {E : Prop} (hgd : o.guard = none) (s y : Operand) (t : TypeId)
  (ho : o.op = .call { callee := .builtin .append, args := #[s, y], argTypes := #[t, t] })
  (e : TypeId) (i : TypeInfo) (z : Value) (size bytes : Nat) (ht : P.underlying t = some (.slice e)) (hi : P.info? e = some i) (hz : i.zero = some z)
  (hsize : i.size = size) (hby : i.bytes = bytes) (hzs : z.cells.size = size) (hsz : 0 < size)
  (v : Value) (n : Nat) (xs : List Value) (hs : a.eval s = v) (hown : w.ownsRow 0 e size v n xs)
  (x : Value) (m : Nat) (news : List Value) (hx : a.eval y = x) (hr : Reads w x m news) (hl : news.length = m * size) (h1 : ∀ u ∈ news, u.oneCell' = true)
  (h63 : n + m ≤ maxLen) (hbytes : (n + m) * bytes ≤ 140737488355328)
  (h : ∀ v' w', w'.ownsRow 0 e size v' (n + m) (xs ++ news) → w.grownBy w' v.ownBlock → Stays w v v' → K (a.put o.dst v') w') :
  if Region.wanted o (yielded ops a.tmps) = true then Oper.wp P o a w K Q else E := by
 have hw : Region.wanted o (yielded ops a.tmps) = true := by simp [Region.wanted, hgd]
 rw [if_pos hw]
 exact wp_append_row s y t ho e i z size bytes ht hi hz hsize hby hzs hsz v n xs hs hown x m news hx hr hl h1 h63 hbytes h
end
open M
def seaV (s : Sea) : Array Value := #[.int .i64 s.row, .int .i64 s.col, .int .i64 s.st, .int .i64 s.pa, .int .i64 s.cl, .int .i64 s.un]
structure RowS (w : World) (g cap : Nat) (l : List Sea) : Prop where
 cur : ∃ cur, Has w g cur 63 ∧ cur.size = cap * 6 ∧ ∀ i (h : i < l.length) j, j < 6 → cur[i * 6 + j]? = (seaV l[i])[j]?
 le : l.length ≤ cap
 max : cap ≤ maxLen
theorem RowS.cell {w : World} {g cap : Nat} {l : List Sea} (h : RowS w g cap l) (i : Nat) (hi : i < l.length) (j : Nat) (hj : j < 6) : w.cell? ⟨g, i * 6 + j, none⟩ = (seaV l[i])[j]? := by
 obtain ⟨cur, h1, h2, h3⟩ := h.cur
 rw [h1.cell]
 exact h3 i hi j hj
theorem RowS.row {w : World} {g cap : Nat} {l : List Sea} (h : RowS w g cap l) (i : Nat) (hi : i < l.length) : w.cell? ⟨g, i * 6, none⟩ = some (.int .i64 l[i].row) := h.cell i hi 0 (by omega)
theorem RowS.col {w : World} {g cap : Nat} {l : List Sea} (h : RowS w g cap l) (i : Nat) (hi : i < l.length) : w.cell? ⟨g, i * 6 + 1, none⟩ = some (.int .i64 l[i].col) := h.cell i hi 1 (by omega)
theorem RowS.st {w : World} {g cap : Nat} {l : List Sea} (h : RowS w g cap l) (i : Nat) (hi : i < l.length) : w.cell? ⟨g, i * 6 + 2, none⟩ = some (.int .i64 l[i].st) := h.cell i hi 2 (by omega)
theorem RowS.pa {w : World} {g cap : Nat} {l : List Sea} (h : RowS w g cap l) (i : Nat) (hi : i < l.length) : w.cell? ⟨g, i * 6 + 3, none⟩ = some (.int .i64 l[i].pa) := h.cell i hi 3 (by omega)
theorem RowS.cl {w : World} {g cap : Nat} {l : List Sea} (h : RowS w g cap l) (i : Nat) (hi : i < l.length) : w.cell? ⟨g, i * 6 + 4, none⟩ = some (.int .i64 l[i].cl) := h.cell i hi 4 (by omega)
theorem RowS.un {w : World} {g cap : Nat} {l : List Sea} (h : RowS w g cap l) (i : Nat) (hi : i < l.length) : w.cell? ⟨g, i * 6 + 5, none⟩ = some (.int .i64 l[i].un) := h.cell i hi 5 (by omega)
theorem RowS.lt {w : World} {g cap : Nat} {l : List Sea} (h : RowS w g cap l) : g < w.heap.size := by
 obtain ⟨cur, h1, _⟩ := h.cur
 exact h1.lt
theorem RowS.mod {w w' : World} {g cap : Nat} {l : List Sea} {S : Nat → Prop} (h : RowS w g cap l) (hm : Mod S w w') (hg : ¬ S g) : RowS w' g cap l := by
 obtain ⟨cur, h1, h2, h3⟩ := h.cur
 exact ⟨⟨cur, hm.has h1 hg, h2, h3⟩, h.le, h.max⟩
theorem flat_at {α : Type} (k : Nat) (hk : 0 < k) (f : α → List Value) (hf : ∀ x, (f x).length = k) : ∀ (l : List α) (i : Nat) (h : i < l.length) (j : Nat), j < k → (l.flatMap f)[i * k + j]? = (f l[i])[j]?
 | [], i, h, _, _ => absurd h (Nat.not_lt_zero _)
 | x :: l, 0, h, j, hj => by
  rw [List.flatMap_cons, Nat.zero_mul, Nat.zero_add, List.getElem?_append_left (by rw [hf]; exact hj)]
  rfl
 | x :: l, i + 1, h, j, hj => by
  rw [List.flatMap_cons, List.getElem?_append_right (by rw [hf, Nat.add_mul]; omega), hf]
  rw [show (i + 1) * k + j - k = i * k + j by rw [Nat.add_mul, Nat.one_mul]; omega]
  exact flat_at k hk f hf l i (by simpa using h) j hj
theorem flat_len {α : Type} (k : Nat) (f : α → List Value) (hf : ∀ x, (f x).length = k) : ∀ (l : List α), (l.flatMap f).length = l.length * k
 | [] => by simp
 | x :: l => by rw [List.flatMap_cons, List.length_append, flat_len k f hf l, hf, List.length_cons, Nat.add_mul]; omega
def seaL (s : Sea) : List Value := (seaV s).toList
theorem seaL_len (s : Sea) : (seaL s).length = 6 := rfl
theorem rowS_of {w : World} {g n cap : Nat} {l : List Sea} (h : w.ownsRow 0 63 6 (.slice (some ⟨g, 0, none⟩) n cap) l.length (l.flatMap seaL)) : n = l.length ∧ RowS w g cap l := by
 obtain ⟨h0, h1 | ⟨g', cap', cur, hv, hb, hg, hn, hm, hsz, ht⟩⟩ := h
 ·exact absurd h1.1 (by simp)
 ·injection hv with e1 e2 e3
  injection e1 with e1
  injection e1 with e1
  subst e1 e2 e3
  refine ⟨rfl, ⟨cur, hg, hsz, fun i hi j hj => ?_⟩, hn, hm⟩
  have := flat_at 6 (by omega) seaL seaL_len l i hi j hj
  rw [← ht, List.getElem?_take, if_pos (by omega)] at this
  rw [← Array.getElem?_toList, this]
  simp [seaL]
theorem rowS_owns {w : World} {g cap : Nat} {l : List Sea} (h : RowS w g cap l) : w.ownsRow 0 63 6 (.slice (some ⟨g, 0, none⟩) l.length cap) l.length (l.flatMap seaL) := by
 obtain ⟨cur, h1, h2, h3⟩ := h.cur
 refine ⟨flat_len 6 seaL seaL_len l, .inr ⟨g, cap, cur, rfl, Nat.zero_le _, h1, h.le, h.max, h2, ?_⟩⟩
 apply List.ext_getElem?
 intro k
 rw [List.getElem?_take]
 by_cases hk : k < l.length * 6
 ·rw [if_pos hk]
  have hi : k / 6 < l.length := by omega
  have e : k = k / 6 * 6 + k % 6 := by omega
  rw [e, flat_at 6 (by omega) seaL seaL_len l (k / 6) hi (k % 6) (by omega), Array.getElem?_toList, h3 _ hi _ (by omega)]
  simp [seaL]
 ·rw [if_neg hk, List.getElem?_eq_none (by rw [flat_len 6 seaL seaL_len]; omega)]
theorem info114 : (Tryz.prog.info? 63).map (fun i => (i.zero, i.size, i.bytes)) = some (some (.agg #[.int .i64 0, .int .i64 0, .int .i64 0, .int .i64 0, .int .i64 0, .int .i64 0]), 6, 48) := by kernel_rfl
open Go.RowKit Go.WideMaps
open Go.ChangeMaps (setBlock)
theorem laidOut : laidOutB Tryz.prog = true := by kernel_rfl
theorem law30 : KeyLaw Tryz.prog 36 := deep_law_laid laidOut (m := 2) (by omega) (of_decide_eq_true (by kernel_rfl)) (by kernel_rfl) (by rw [Tryz.underlying36])
def kv (r c : Int) : Value := .agg #[.int .i64 r, .int .i64 c]
def sv (s p k u : Int) : Value := .agg #[.int .i64 s, .int .i64 p, .int .i64 k, .int .i64 u]
theorem key30 (r c : Int) (hr : 0 ≤ r ∧ r ≤ 1000) (hc : 0 ≤ c ∧ c ≤ 1000) : ∃ l, keyOf Tryz.prog 36 (kv r c) = some l := by
 have w1 : (Lit.int .i64 r).wf = true := by simp [Lit.wf, IntKind.min, IntKind.max, IntKind.signed, IntKind.bits]; omega
 have w2 : (Lit.int .i64 c).wf = true := by simp [Lit.wf, IntKind.min, IntKind.max, IntKind.signed, IntKind.bits]; omega
 have hk : Tryz.prog.keyType 36 = true := by kernel_rfl
 have c30 : Tryz.prog.cellsOf 36 = 2 := by kernel_rfl
 have c3 : Tryz.prog.cellsOf 3 = 1 := by kernel_rfl
 have ts : ∃ n, Tryz.prog.types.size + 1 = n + 2 := ⟨Tryz.prog.types.size - 1, by have : 0 < Tryz.prog.types.size := of_decide_eq_true (by kernel_rfl); omega⟩
 obtain ⟨n, hn⟩ := ts
 apply Option.isSome_iff_exists.1
 unfold keyOf
 rw [Tryz.underlying36, hn]
 simp [hk, kv, Value.formed, Tryz.underlying36, c30, c3, Program.keyLits, Tryz.underlying3, w1, w2, Value.cells]
structure MEnt where
 born : Nat
 r : Int
 c : Int
 s : Int
 p : Int
 k : Int
 u : Int
def MEnt.obj (e : MEnt) : MapEntry := ⟨kv e.r e.c, sv e.s e.p e.k e.u, e.born⟩
def mapObj (l : List MEnt) (clock : Nat) : Obj := .map (l.map MEnt.obj).toArray clock
def MEnt.is (r c : Int) (e : MEnt) : Bool := e.r == r && e.c == c
structure MapOk (l : List MEnt) (clock : Nat) : Prop where
 keys : ∀ e ∈ l, 0 ≤ e.r ∧ e.r ≤ 1000 ∧ 0 ≤ e.c ∧ e.c ≤ 1000
 apart : l.Pairwise fun a b => ¬ (a.r = b.r ∧ a.c = b.c)
 births : l.Pairwise fun a b => a.born ≠ b.born
 past : ∀ e ∈ l, e.born < clock
theorem kv_inj {r c r' c' : Int} : kv r c = kv r' c' ↔ r = r' ∧ c = c' := by
 constructor
 ·intro h
  simp only [kv, Value.agg.injEq] at h
  simp at h
  exact h
 ·rintro ⟨rfl, rfl⟩; rfl
theorem find_of {l : List MEnt} (hp : l.Pairwise fun a b => ¬ (a.r = b.r ∧ a.c = b.c)) {j : Nat} (hj : j < l.length) {r c : Int} (h : l[j].r = r ∧ l[j].c = c) : l.findIdx? (MEnt.is r c) = some j := by
 rw [List.findIdx?_eq_some_iff_getElem]
 refine ⟨hj, by simp [MEnt.is, h.1, h.2], fun i hi => ?_⟩
 have := (List.pairwise_iff_getElem.1 hp) i j (by omega) hj hi
 simp only [MEnt.is, Bool.and_eq_true, beq_iff_eq]
 rintro ⟨h1, h2⟩
 exact this ⟨by rw [h1, h.1], by rw [h2, h.2]⟩
theorem run_find (w : World) (l : List MEnt) (clock : Nat) (hl : MapOk l clock) (r c : Int) (hr : 0 ≤ r ∧ r ≤ 1000) (hc : 0 ≤ c ∧ c ≤ 1000) :
  (Instr.findKey 36 (kv r c) (l.map MEnt.obj)).run Tryz.prog w = .ok ((l.findIdx? (MEnt.is r c)).map fun j => (j, (l[j]?.map fun e => sv e.s e.p e.k e.u).getD undef)) w := by
 obtain ⟨lx, hx⟩ := key30 r c hr hc
 rcases law30.find w hx (l.map MEnt.obj) (fun e he => by
  obtain ⟨m, hm, rfl⟩ := List.mem_map.1 he
  obtain ⟨a, b, c', d⟩ := hl.keys m hm
  exact key30 m.r m.c ⟨a, b⟩ ⟨c', d⟩) with ⟨h, hn⟩ | ⟨j, e, h, hj, hk⟩
 ·rw [h]
  have : l.findIdx? (MEnt.is r c) = none := by
   rw [List.findIdx?_eq_none_iff]
   intro e he
   have := hn _ (List.mem_map_of_mem he)
   simp only [MEnt.is, Bool.and_eq_false_iff, beq_eq_false_iff_ne, ne_eq]
   by_cases h1 : e.r = r
   ·right; intro h2
    exact this (kv_inj.2 ⟨h1, h2⟩)
   ·left; exact h1
  rw [this]
  rfl
 ·rw [h]
  rw [List.getElem?_map] at hj
  obtain ⟨m, hm, rfl⟩ := Option.map_eq_some_iff.1 hj
  obtain ⟨hj', rfl⟩ := List.getElem?_eq_some_iff.1 hm
  have hk' := kv_inj.1 hk
  rw [find_of hl.apart hj' hk']
  simp [hj', MEnt.obj]
def lookE (l : List MEnt) (r c : Int) : Int × Int × Int × Int := ((l.find? (MEnt.is r c)).map fun e => (e.s, e.p, e.k, e.u)).getD (0, 0, 0, 0)
theorem find?_idx (l : List MEnt) (p : MEnt → Bool) : l.find? p = (l.findIdx? p).bind fun j => l[j]? := by
 induction l with
 | nil => rfl
 | cons e l ih =>
  simp only [List.find?_cons, List.findIdx?_cons]
  cases p e
  ·simp only [Bool.false_eq_true, if_false, ih]
   cases l.findIdx? p <;> simp
  ·simp
theorem zero171 (w : World) : (zeroValue 199).run Tryz.prog w = .ok (sv 0 0 0 0) w := by kernel_rfl
theorem map_erase (l : List MEnt) (j : Nat) : (l.map MEnt.obj).eraseIdx j = (l.eraseIdx j).map MEnt.obj := by
 induction l generalizing j with
 | nil => simp
 | cons e l ih => cases j <;> simp_all
theorem map_modify (g : MapEntry → MapEntry) (g' : MEnt → MEnt) : ∀ (l : List MEnt) (j : Nat) (hj : j < l.length), g l[j].obj = (g' l[j]).obj → (l.map MEnt.obj).modify j g = (l.modify j g').map MEnt.obj
 | e :: l, 0, _, h => by simpa using h
 | e :: l, j + 1, hj, h => by
  have := map_modify g g' l j (by simpa using hj) (by simpa using h)
  simp [this]
theorem run_lookup (w : World) (m : Nat) (l : List MEnt) (clock : Nat) (hm : w.heap[m]? = some (mapObj l clock)) (hl : MapOk l clock) (r c : Int) (hr : 0 ≤ r ∧ r ≤ 1000) (hc : 0 ≤ c ∧ c ≤ 1000) :
  (Instr.lookup 162 (.map (some m)) (kv r c) false).run Tryz.prog w = .ok (sv (lookE l r c).1 (lookE l r c).2.1 (lookE l r c).2.2.1 (lookE l r c).2.2.2) w := by
 obtain ⟨lx, hx⟩ := key30 r c hr hc
 have h1 := fun em => law30.check w em hx
 have h2 := run_find w l clock hl r c hr hc
 unfold mapObj at hm
 have hg : (getObj m).run Tryz.prog w = .ok (.map (l.map MEnt.obj).toArray clock) w := by simp [getObj, Sem.run, hm]
 have hs : ∀ o, (setObj m o).run Tryz.prog w = .ok () (setBlock w m o) := fun o => by simp [setObj, Sem.run, hm, setBlock]
 rw [lookE, find?_idx]
 cases hf : l.findIdx? (MEnt.is r c) with
 | none =>
  rw [hf] at h2
  simp [Instr.lookup, run_underlying Tryz.underlying162, hg, h1, h2, zero171, sv]
 | some j =>
  have hj := (List.findIdx?_eq_some_iff_getElem.1 hf).1
  rw [hf] at h2
  simp [hj] at h2
  simp [Instr.lookup, run_underlying Tryz.underlying162, hg, h1, h2, zero171, hj]
theorem run_delete (w : World) (m : Nat) (l : List MEnt) (clock : Nat) (ty : TypeId) (hm : w.heap[m]? = some (mapObj l clock)) (hl : MapOk l clock) (r c : Int) (hr : 0 ≤ r ∧ r ≤ 1000) (hc : 0 ≤ c ∧ c ≤ 1000) :
  (Builtin.delete_ #[162, 36] ty #[.map (some m), kv r c]).run Tryz.prog w =
   .ok (.tuple #[]) (setBlock w m (mapObj (match l.findIdx? (MEnt.is r c) with | some j => l.eraseIdx j | none => l) clock)) := by
 obtain ⟨lx, hx⟩ := key30 r c hr hc
 have h1 := fun em => law30.check w em hx
 have h2 := run_find w l clock hl r c hr hc
 unfold mapObj at hm
 have hg : (getObj m).run Tryz.prog w = .ok (.map (l.map MEnt.obj).toArray clock) w := by simp [getObj, Sem.run, hm]
 have hs : ∀ o, (setObj m o).run Tryz.prog w = .ok () (setBlock w m o) := fun o => by simp [setObj, Sem.run, hm, setBlock]
 cases hf : l.findIdx? (MEnt.is r c) with
 | none =>
  rw [hf] at h2
  simp [Builtin.delete_, run_underlying Tryz.underlying162, hg, hs, h1, h2, mapObj]
 | some j =>
  have hj := (List.findIdx?_eq_some_iff_getElem.1 hf).1
  rw [hf] at h2
  simp [hj] at h2
  simp [Builtin.delete_, run_underlying Tryz.underlying162, hg, hs, h1, h2, mapObj, hj]
  rw [map_erase]
theorem run_update (w : World) (m : Nat) (l : List MEnt) (clock : Nat) (hm : w.heap[m]? = some (mapObj l clock)) (hl : MapOk l clock) (r c s p k u : Int) (hr : 0 ≤ r ∧ r ≤ 1000) (hc : 0 ≤ c ∧ c ≤ 1000) :
  (Instr.mapUpdate 162 (.map (some m)) (kv r c) (sv s p k u)).run Tryz.prog w =
   .ok () (match l.findIdx? (MEnt.is r c) with
    | some j => setBlock w m (mapObj (l.modify j fun e => ⟨e.born, e.r, e.c, s, p, k, u⟩) clock)
    | none => setBlock w m (mapObj (l ++ [⟨clock, r, c, s, p, k, u⟩]) (clock + 1))) := by
 obtain ⟨lx, hx⟩ := key30 r c hr hc
 have h1 := fun em => law30.check w em hx
 have h2 := run_find w l clock hl r c hr hc
 have h3 := law30.stays w hx
 unfold mapObj at hm
 have hg : (getObj m).run Tryz.prog w = .ok (.map (l.map MEnt.obj).toArray clock) w := by simp [getObj, Sem.run, hm]
 have hs : ∀ o, (setObj m o).run Tryz.prog w = .ok () (setBlock w m o) := fun o => by simp [setObj, Sem.run, hm, setBlock]
 cases hf : l.findIdx? (MEnt.is r c) with
 | none =>
  rw [hf] at h2
  simp [Instr.mapUpdate, run_underlying Tryz.underlying162, hg, hs, h1, h2, mapObj, MEnt.obj]
 | some j =>
  have hj := (List.findIdx?_eq_some_iff_getElem.1 hf)
  obtain ⟨hj, hk, _⟩ := hj
  simp [MEnt.is] at hk
  rw [hf] at h2
  simp [hj] at h2
  have hk' : (l[j]).obj.key = kv r c := by simp [MEnt.obj, hk]
  simp [Instr.mapUpdate, run_underlying Tryz.underlying162, hg, hs, h1, h2, mapObj, hj, hk', h3]
  rw [map_modify _ (fun e => ⟨e.born, e.r, e.c, s, p, k, u⟩) l j hj (by simp [MEnt.obj, hk])]
end Go.Proofs.YthhibagcpjeihaaGreat
