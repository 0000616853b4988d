import Derived.Test.YthhibagcpjeihaaRows
import Derived.WalkKit
import Derived.ProofKit
import Derived.Deep.RegionLawGrows
import Derived.BigQuiet
import Derived.Deep.QuietTactic
import Derived.Laws.BitsLemmas
namespace Go.Proofs.Ythhibagcpjeihaa
open Go.RowKit
theorem hide {p : Prop} (h : p) : Hid p := h
theorem unhide {p : Prop} (h : Hid p) : p := h
def Has (w : World) (b : Nat) (cs : Array Value) (T : TypeId) : Prop := w.heap[b]? = some (.cells cs T (0, 0))
theorem Has.cell {w : World} {b : Nat} {cs : Array Value} {T : TypeId} (h : Has w b cs T) (o : Nat) : w.cell? ⟨b, o, none⟩ = cs[o]? := by
 unfold Has at h
 simp [World.cell?, h]
theorem Has.frozen {w : World} {b : Nat} {cs : Array Value} {T : TypeId} (h : Has w b cs T) (o : Nat) : w.frozen? ⟨b, o, none⟩ = false := by
 unfold Has at h
 simp [World.frozen?, h]
theorem Has.lt {w : World} {b : Nat} {cs : Array Value} {T : TypeId} (h : Has w b cs T) : b < w.heap.size := (Array.getElem?_eq_some_iff.1 h).1
theorem Has.ne {w : World} {b b' : Nat} {cs cs' : Array Value} {T T' : TypeId} (h : Has w b cs T) (h' : Has w b' cs' T') (hT : T ≠ T') : b ≠ b' := by
 rintro rfl
 unfold Has at h h'
 rw [h] at h'
 injection h' with h'
 injection h' with _ h2
 exact hT h2
structure Mod (S : Nat → Prop) (w w' : World) : Prop where
 os : w'.os = w.os
 tape : w'.tape = w.tape
 output : w'.output = w.output
 size : w.heap.size ≤ w'.heap.size
 block : ∀ k, k < w.heap.size → ¬ S k → w'.heap[k]? = w.heap[k]?
def No : Nat → Prop := fun _ => False
theorem Mod.refl (S : Nat → Prop) (w : World) : Mod S w w := ⟨rfl, rfl, rfl, Nat.le_refl _, fun _ _ _ => rfl⟩
theorem Mod.trans {S : Nat → Prop} {a b c : World} (h : Mod S a b) (k : Mod S b c) : Mod S a c :=
 ⟨k.os.trans h.os, k.tape.trans h.tape, k.output.trans h.output, Nat.le_trans h.size k.size,
  fun i hi hs => (k.block i (Nat.lt_of_lt_of_le hi h.size) hs).trans (h.block i hi hs)⟩
theorem Mod.trans' {S S' : Nat → Prop} {a b c : World} (h : Mod S a b) (k : Mod S' b c) (hS : ∀ i, S' i → i < a.heap.size → S i) : Mod S a c :=
 ⟨k.os.trans h.os, k.tape.trans h.tape, k.output.trans h.output, Nat.le_trans h.size k.size,
  fun i hi hs => (k.block i (Nat.lt_of_lt_of_le hi h.size) (fun h' => hs (hS i h' hi))).trans (h.block i hi hs)⟩
theorem Mod.mono {S S' : Nat → Prop} {a b : World} (h : Mod S a b) (hS : ∀ i, i < a.heap.size → S i → S' i) : Mod S' a b :=
 ⟨h.os, h.tape, h.output, h.size, fun i hi hs => h.block i hi (fun h' => hs (hS i hi h'))⟩
theorem Mod.drew {S : Nat → Prop} {a w : World} (h : Mod S a w) : Mod S a w.drew := ⟨h.os, h.tape, h.output, h.size, h.block⟩
theorem Mod.drewN {S : Nat → Prop} {a w : World} (h : Mod S a w) (n : Nat) : Mod S a (w.drewN n) := ⟨h.os, h.tape, h.output, h.size, h.block⟩
theorem Mod.alloc {S : Nat → Prop} {a w : World} (h : Mod S a w) (o : Obj) : Mod S a (w.alloc o) :=
 h.trans ⟨rfl, rfl, rfl, by simp, fun k hk _ => Below.heap_alloc _ _ _ hk⟩
theorem Mod.setCell {S : Nat → Prop} {a w : World} (h : Mod S a w) {p : Addr} (hp : S p.block ∨ a.heap.size ≤ p.block) (u : Value) : Mod S a (w.setCell p u) :=
 h.trans' (S' := fun k => k = p.block) ⟨rfl, rfl, rfl, by simp, fun k _ hk => Below.heap_setCell _ _ _ _ hk⟩
  (fun i hi hl => by subst hi; rcases hp with hp | hp; exact hp; omega)
theorem Mod.grown {S : Nat → Prop} {a w w' : World} {row : Option Nat} (h : Mod S a w) (hg : w.grownBy w' row) (hr : ∀ k, row = some k → S k ∨ a.heap.size ≤ k) : Mod S a w' :=
 h.trans' (S' := fun k => some k = row) ⟨hg.os, hg.tape, hg.output, hg.size, fun k hk hne => hg.block k hk hne⟩
  (fun i hi hl => by rcases hr i hi.symm with hp | hp; exact hp; omega)
theorem Mod.has {S : Nat → Prop} {w w' : World} (h : Mod S w w') {b : Nat} {cs : Array Value} {T : TypeId} (hb : Has w b cs T) (hs : ¬ S b) : Has w' b cs T := by
 unfold Has; rw [h.block b hb.lt hs]; exact hb
theorem Mod.owns {S : Nat → Prop} {w w' : World} (h : Mod S w w') {base : Nat} {e : TypeId} {size : Nat} {v : Value} {n : Nat} {xs : List Value}
  (ho : w.ownsRow base e size v n xs) (hs : ∀ k, v.ownBlock = some k → ¬ S k) : w'.ownsRow base e size v n xs := by
 refine ⟨ho.1, ?_⟩
 rcases ho.2 with hn | ⟨g, cap, cur, rfl, hb, hg, rest⟩
 ·exact .inl hn
 ·exact .inr ⟨g, cap, cur, rfl, hb, by rw [h.block g (Array.getElem?_eq_some_iff.1 hg).1 (hs g rfl)]; exact hg, rest⟩
theorem Mod.below {w w' : World} (h : Mod No w w') : Below w.heap.size w w' := ⟨h.os, h.tape, h.output, h.size, fun k hk => h.block k hk (fun x => x)⟩
theorem Has.alloc {w : World} {b : Nat} {cs : Array Value} {T : TypeId} (h : Has w b cs T) (o : Obj) : Has (w.alloc o) b cs T := by
 unfold Has; rw [Below.heap_alloc _ _ _ h.lt]; exact h
theorem Has.new (w : World) (cs : Array Value) (T : TypeId) : Has (w.alloc (.cells cs T)) w.heap.size cs T := by
 unfold Has; exact heap_alloc_new w _
theorem Has.drew {w : World} {b : Nat} {cs : Array Value} {T : TypeId} (h : Has w b cs T) : Has w.drew b cs T := h
theorem Has.drewN {w : World} {b : Nat} {cs : Array Value} {T : TypeId} (h : Has w b cs T) (n : Nat) : Has (w.drewN n) b cs T := h
theorem Has.set {w : World} {b : Nat} {cs : Array Value} {T : TypeId} (h : Has w b cs T) (o : Nat) (v : Value) : Has (w.setCell ⟨b, o, none⟩ v) b (cs.setIfInBounds o v) T := by
 unfold Has at h ⊢
 simp [World.setCell, Array.getElem?_modify, h]
theorem Has.set_ne {w : World} {b : Nat} {cs : Array Value} {T : TypeId} (h : Has w b cs T) {a : Addr} (ha : b ≠ a.block) (v : Value) : Has (w.setCell a v) b cs T := by
 unfold Has; rw [Below.heap_setCell _ _ _ _ ha]; exact h
theorem owns_setCell_ne {w : World} {base : Nat} {e : TypeId} {size : Nat} {v : Value} {n : Nat} {xs : List Value} (h : w.ownsRow base e size v n xs) {a : Addr}
  (ha : v.ownBlock ≠ some a.block) (u : Value) : (w.setCell a u).ownsRow base e size v n xs := by
 refine ⟨h.1, ?_⟩
 rcases h.2 with hn | ⟨g, cap, cur, rfl, hb, hg, rest⟩
 ·exact .inl hn
 ·refine .inr ⟨g, cap, cur, rfl, hb, ?_, rest⟩
  rw [Below.heap_setCell _ _ _ _ (by intro e; exact ha (by simp [Value.ownBlock, e]))]
  exact hg
end Go.Proofs.Ythhibagcpjeihaa
namespace Go.Proofs.Ythhibagcpjeihaa.M
structure Sea where
 row : Int
 col : Int
 st : Int
 pa : Int
 cl : Int
 un : Int
structure Pla where
 rows : Int
 cols : Int
 front : Int
 l0 : Int
 l1 : Int
 l2 : Int
 l3 : Int
 ep : Int
structure Fli where
 num : Int
 pla : Pla
 seats : List Sea
 ep : Int
structure Cmd where
 kind : Int
 flight : Int
 ar : Int
 ac : Int
 tr : Int
 tc : Int
 party : Int
 cls : Int
 time : Int
 pla : Pla
def nx (e : Int) : Int := Go.IntKind.i64.wrap (e + 1)
theorem nx_eq (e : Int) : Go.IntKind.i64.wrap (e + 1) = nx e := rfl
def Pla.next (p : Pla) : Pla := ⟨p.rows, p.cols, p.front, p.l0, p.l1, p.l2, p.l3, nx p.ep⟩
def Pla.at (p : Pla) (e : Int) : Pla := ⟨p.rows, p.cols, p.front, p.l0, p.l1, p.l2, p.l3, e⟩
def Pla.lim (p : Pla) : Nat → Int
 | 0 => p.l0
 | 1 => p.l1
 | 2 => p.l2
 | _ => p.l3
def Sea.sold (s : Sea) : Bool := s.st == 1 || s.st == 2
def Sea.freed (s : Sea) : Sea := ⟨s.row, s.col, 0, 0, 0, 0⟩
def nFree (l : List Sea) : Nat := l.countP fun s => s.st == 0
def nAt (p : Pla) (fr : Bool) (st : Int) (l : List Sea) : Nat := l.countP fun s => (decide (s.row ≤ p.front) == fr) && s.st == st
def nSold (c : Int) (l : List Sea) : Nat := l.countP fun s => s.sold && s.cl == c
def nFrom (c : Int) (l : List Sea) : Nat := l.countP fun s => s.sold && decide (c ≤ s.cl)
def leastTo (p : Pla) (l : List Sea) : Nat → Int
 | 0 => min (nFree l : Int) (p.lim 0 - nFrom 0 l)
 | c + 1 => min (leastTo p l c) (p.lim (c + 1) - nFrom ((c : Int) + 1) l)
def leftOf (p : Pla) (l : List Sea) (c : Nat) : Int := max (leastTo p l c) 0
def Pla.sized (p : Pla) : Bool := decide (1 ≤ p.rows ∧ p.rows ≤ 20 ∧ 1 ≤ p.cols ∧ p.cols ≤ 6 ∧ 0 ≤ p.front ∧ p.front ≤ p.rows)
def Pla.limited (p : Pla) : Bool := decide (0 ≤ p.l0 ∧ p.l0 ≤ 200 ∧ 0 ≤ p.l1 ∧ p.l1 ≤ p.l0 ∧ 0 ≤ p.l2 ∧ p.l2 ≤ p.l1 ∧ 0 ≤ p.l3 ∧ p.l3 ≤ p.l2)
def Pla.has (p : Pla) (r c : Int) : Bool := decide (1 ≤ r ∧ r ≤ p.rows ∧ 1 ≤ c ∧ c ≤ p.cols)
def Pla.idx (p : Pla) (r c : Int) : Nat := ((r - 1) * p.cols + (c - 1)).toNat
def noSea : Sea := ⟨0, 0, 0, 0, 0, 0⟩
structure Sea.wf (s : Sea) : Prop where
 s0 : 0 ≤ s.st
 s1 : s.st ≤ 3
 c0 : 0 ≤ s.cl
 c1 : s.cl ≤ 3
 bare : s.st = 0 ∨ s.st = 3 → s.pa = 0 ∧ s.cl = 0 ∧ s.un = 0
 pa : 0 ≤ s.pa ∧ s.pa ≤ 1000
 un : 0 ≤ s.un ∧ s.un ≤ 4611686018427387904
 bk : s.st = 2 → s.un = 0
structure Fli.wf (f : Fli) : Prop where
 sized : f.pla.sized = true
 limited : f.pla.limited = true
 len : (f.seats.length : Int) = f.pla.rows * f.pla.cols
 place : ∀ i (h : i < f.seats.length), f.seats[i].row = (i : Int) / f.pla.cols + 1 ∧ f.seats[i].col = (i : Int) % f.pla.cols + 1
 seat : ∀ s ∈ f.seats, s.wf
theorem Fli.wf.bounds {f : Fli} (h : f.wf) : 1 ≤ f.pla.rows ∧ f.pla.rows ≤ 20 ∧ 1 ≤ f.pla.cols ∧ f.pla.cols ≤ 6 ∧ 0 ≤ f.pla.front ∧ f.pla.front ≤ f.pla.rows := by
 have := h.sized
 simpa [Pla.sized] using this
theorem Fli.wf.len_le {f : Fli} (h : f.wf) : f.seats.length ≤ 120 := by
 obtain ⟨a, b, c, d, _⟩ := h.bounds
 have hl := h.len
 have : f.pla.rows * f.pla.cols ≤ 20 * 6 := Int.mul_le_mul b d (by omega) (by omega)
 omega
theorem Fli.wf.idx_lt {f : Fli} (h : f.wf) {r c : Int} (hh : f.pla.has r c = true) : f.pla.idx r c < f.seats.length := by
 simp only [Pla.has, decide_eq_true_eq] at hh
 obtain ⟨h1, h2, h3, h4⟩ := hh
 obtain ⟨b1, b2, b3, b4, _⟩ := h.bounds
 have hl := h.len
 have m1 : (r - 1) * f.pla.cols ≤ (f.pla.rows - 1) * f.pla.cols := Int.mul_le_mul_of_nonneg_right (by omega) (by omega)
 have m2 : (f.pla.rows - 1) * f.pla.cols = f.pla.rows * f.pla.cols - f.pla.cols := by rw [Int.sub_mul, Int.one_mul]
 have m3 : 0 ≤ (r - 1) * f.pla.cols := Int.mul_nonneg (by omega) (by omega)
 unfold Pla.idx
 omega
theorem Fli.wf.idx_place {f : Fli} (h : f.wf) {r c : Int} (hh : f.pla.has r c = true) : (f.seats[f.pla.idx r c]'(h.idx_lt hh)).row = r ∧ (f.seats[f.pla.idx r c]'(h.idx_lt hh)).col = c := by
 have hp := h.place _ (h.idx_lt hh)
 simp only [Pla.has, decide_eq_true_eq] at hh
 obtain ⟨h1, h2, h3, h4⟩ := hh
 obtain ⟨b1, b2, b3, b4, _⟩ := h.bounds
 have m3 : 0 ≤ (r - 1) * f.pla.cols := Int.mul_nonneg (by omega) (by omega)
 have e : ((f.pla.idx r c : Nat) : Int) = (c - 1) + (r - 1) * f.pla.cols := by unfold Pla.idx; omega
 rw [e] at hp
 rw [Int.add_mul_ediv_right _ _ (by omega : f.pla.cols ≠ 0), Int.add_mul_emod_self_right, Int.ediv_eq_zero_of_lt (by omega) (by omega), Int.emod_eq_of_lt (by omega) (by omega)] at hp
 omega
theorem Fli.wf.place_has {f : Fli} (h : f.wf) {i : Nat} (hi : i < f.seats.length) : f.pla.has f.seats[i].row f.seats[i].col = true ∧ f.pla.idx f.seats[i].row f.seats[i].col = i := by
 have hp := h.place i hi
 obtain ⟨b1, b2, b3, b4, _⟩ := h.bounds
 have hl := h.len
 have d0 := Int.emod_nonneg (i : Int) (by omega : f.pla.cols ≠ 0)
 have d1 := Int.emod_lt_of_pos (i : Int) (by omega : 0 < f.pla.cols)
 have d2 := Int.mul_ediv_add_emod (i : Int) f.pla.cols
 have d3 : 0 ≤ (i : Int) / f.pla.cols := Int.ediv_nonneg (by omega) (by omega)
 have d4 : (i : Int) / f.pla.cols < f.pla.rows := by
  apply Int.ediv_lt_of_lt_mul (by omega)
  omega
 have d5 : f.pla.cols * ((i : Int) / f.pla.cols) = (i : Int) / f.pla.cols * f.pla.cols := Int.mul_comm _ _
 constructor
 ·simp only [Pla.has, decide_eq_true_eq]
  omega
 ·unfold Pla.idx
  rw [hp.1, hp.2, show (i : Int) / f.pla.cols + 1 - 1 = (i : Int) / f.pla.cols from by omega]
  omega
theorem Fli.wf.place_inj {f : Fli} (h : f.wf) {i j : Nat} (hi : i < f.seats.length) (hj : j < f.seats.length) (hr : f.seats[i].row = f.seats[j].row) (hc : f.seats[i].col = f.seats[j].col) : i = j := by
 have h1 := (h.place_has hi).2
 have h2 := (h.place_has hj).2
 rw [hr, hc] at h1
 omega
theorem countP_set (p : Sea → Bool) (l : List Sea) (i : Nat) (h : i < l.length) (a : Sea) :
  ((l.set i a).countP p : Int) = l.countP p - (if p l[i] then 1 else 0) + (if p a then 1 else 0) := by
 rw [List.countP_set h]
 have pos : p l[i] = true → 1 ≤ l.countP p := fun hp => List.countP_pos_iff.2 ⟨_, List.getElem_mem h, hp⟩
 cases h1 : p l[i] <;> cases h2 : p a
 ·simp
 ·simp
 ·have := pos h1
  simp only [if_true, Bool.false_eq_true, if_false]
  omega
 ·have := pos h1
  simp only [if_true]
  omega
theorem nFree_split (p : Pla) (l : List Sea) : nFree l = nAt p true 0 l + nAt p false 0 l := by
 unfold nFree nAt
 induction l with
 | nil => rfl
 | cons s l ih =>
  simp only [List.countP_cons, ih]
  by_cases h : s.row ≤ p.front <;> by_cases h' : s.st = 0 <;> simp [h, h'] <;> omega
theorem nFrom_split (l : List Sea) (hl : ∀ s ∈ l, 0 ≤ s.cl ∧ s.cl ≤ 3) : nFrom 0 l = nSold 0 l + nSold 1 l + nSold 2 l + nSold 3 l ∧ nFrom 1 l = nSold 1 l + nSold 2 l + nSold 3 l ∧
  nFrom 2 l = nSold 2 l + nSold 3 l ∧ nFrom 3 l = nSold 3 l := by
 unfold nFrom nSold
 induction l with
 | nil => exact ⟨rfl, rfl, rfl, rfl⟩
 | cons s l ih =>
  obtain ⟨i0, i1, i2, i3⟩ := ih (fun x hx => hl x (List.mem_cons_of_mem _ hx))
  obtain ⟨c0, c1⟩ := hl s (List.mem_cons_self)
  simp only [List.countP_cons, i0, i1, i2, i3]
  have : s.cl = 0 ∨ s.cl = 1 ∨ s.cl = 2 ∨ s.cl = 3 := by omega
  rcases this with h | h | h | h <;> cases hs : s.sold <;> simp [h] <;> omega
end Go.Proofs.Ythhibagcpjeihaa.M
namespace Go.Proofs.Ythhibagcpjeihaa
open Go.RowKit
set_option linter.unusedVariables false
set_option maxRecDepth 100000
set_option maxHeartbeats 2000000
theorem wrap_id (x : Int) (h : -4611686018427387904 ≤ x) (h' : x ≤ 4611686018427387904) : IntKind.i64.wrap x = x := by
 simp [IntKind.wrap, IntKind.bits, IntKind.signed]
 omega
theorem wrap_fit (x : Int) (h : -9223372036854775808 ≤ x) (h' : x ≤ 9223372036854775807) : IntKind.i64.wrap x = x := by
 simp [IntKind.wrap, IntKind.signed, IntKind.bits]
 omega
def pickN (c n : Int) : Int := if c < 0 then (-(c + 1)) % n else c % n
theorem pickN_range (c n : Int) (hn : 0 < n) : 0 ≤ pickN c n ∧ pickN c n < n := by
 unfold pickN
 split
 ·exact ⟨Int.emod_nonneg _ (by omega), Int.emod_lt_of_pos _ hn⟩
 ·exact ⟨Int.emod_nonneg _ (by omega), Int.emod_lt_of_pos _ hn⟩
theorem Has.grown {w w' : World} {b : Nat} {cs : Array Value} {T : TypeId} {row : Option Nat} (h : Has w b cs T) (hg : w.grownBy w' row) (hne : some b ≠ row) : Has w' b cs T := by
 unfold Has; rw [hg.block b h.lt hne]; exact h
theorem slice_of_owns {w : World} {base : Nat} {e : TypeId} {size : Nat} {v : Value} {n : Nat} {xs : List Value} (h : w.ownsRow base e size v n xs) : ∃ a cap, v = .slice a n cap := by
 rcases h.2 with ⟨h1, h2⟩ | ⟨g, cap, cur, hv, _⟩
 ·exact ⟨none, 0, by rw [h1, h2]⟩
 ·exact ⟨_, cap, hv⟩
structure TFile where
 v : Value
 xs : List Value
 last : Nat
structure TTape where
 f0 : TFile
 f1 : TFile
 f2 : TFile
 f3 : TFile
 room : Int
 fuse : Int
def TTape.cells (t : TTape) : Array Value :=
 #[t.f0.v, .int .i64 t.f0.last, t.f1.v, .int .i64 t.f1.last, t.f2.v, .int .i64 t.f2.last, t.f3.v, .int .i64 t.f3.last, .int .i64 t.room, .int .i64 t.fuse]
structure TFile.ok (S : Nat → Prop) (w : World) (f : TFile) : Prop where
 owns : w.ownsRow 0 5 1 f.v f.xs.length f.xs
 last : f.last ≤ f.xs.length
 len : f.xs.length ≤ 17592186044416
 bytes : ∀ x ∈ f.xs, ∃ n : Int, x = .int .u8 n ∧ 0 ≤ n ∧ n < 256
 inn : ∀ k, f.v.ownBlock = some k → S k
def TFile.apart (f g : TFile) : Prop := ∀ k, f.v.ownBlock = some k → g.v.ownBlock ≠ some k
theorem TFile.apart.symm {f g : TFile} (h : f.apart g) : g.apart f := fun k hk hf => h k hf hk
structure TTape.ok (S : Nat → Prop) (w : World) (b : Nat) (t : TTape) : Prop where
 has : Has w b t.cells 103
 inn : S b
 k0 : t.f0.ok S w
 k1 : t.f1.ok S w
 k2 : t.f2.ok S w
 k3 : t.f3.ok S w
 a01 : t.f0.apart t.f1
 a02 : t.f0.apart t.f2
 a03 : t.f0.apart t.f3
 a12 : t.f1.apart t.f2
 a13 : t.f1.apart t.f3
 a23 : t.f2.apart t.f3
theorem slice_form {S : Nat → Prop} {w : World} {f : TFile} (h : f.ok S w) : ∃ a cap, f.v = .slice a f.xs.length cap ∧ (f.xs.length : Int) ≤ 17592186044416 := by
 obtain ⟨⟨hl, h⟩, _, hm, _⟩ := h
 rcases h with ⟨h, hn⟩ | ⟨g, cap, cur, h, _⟩
 ·exact ⟨none, 0, by rw [h, hn], by omega⟩
 ·exact ⟨_, cap, h, by omega⟩
def TTape.used (t : TTape) : Nat := t.f0.xs.length + t.f1.xs.length + t.f2.xs.length + t.f3.xs.length
theorem TFile.ok.mod {S S' : Nat → Prop} {w w' : World} {f : TFile} (h : f.ok S w) (hm : Mod S' w w') (hs : ∀ k, f.v.ownBlock = some k → ¬ S' k) : f.ok S w' :=
 ⟨hm.owns h.owns hs, h.last, h.len, h.bytes, h.inn⟩
theorem TTape.ok.mod {S S' : Nat → Prop} {w w' : World} {b : Nat} {t : TTape} (h : t.ok S w b) (hm : Mod S' w w') (hs : ∀ k, S k → ¬ S' k) : t.ok S w' b :=
 ⟨hm.has h.has (hs b h.inn), h.inn, h.k0.mod hm (fun k hk => hs k (h.k0.inn k hk)), h.k1.mod hm (fun k hk => hs k (h.k1.inn k hk)),
  h.k2.mod hm (fun k hk => hs k (h.k2.inn k hk)), h.k3.mod hm (fun k hk => hs k (h.k3.inn k hk)), h.a01, h.a02, h.a03, h.a12, h.a13, h.a23⟩
theorem TTape.ok.mod0 {S : Nat → Prop} {w w' : World} {b : Nat} {t : TTape} (h : t.ok S w b) (hm : Mod No w w') : t.ok S w' b := h.mod hm (fun _ _ x => x)
theorem TFile.ok.wide {S S' : Nat → Prop} {w : World} {f : TFile} (h : f.ok S w) (hs : ∀ k, S k → S' k) : f.ok S' w := ⟨h.owns, h.last, h.len, h.bytes, fun k hk => hs k (h.inn k hk)⟩
theorem TTape.ok.wide {S S' : Nat → Prop} {w : World} {b : Nat} {t : TTape} (h : t.ok S w b) (hs : ∀ k, S k → S' k) : t.ok S' w b :=
 ⟨h.has, hs _ h.inn, h.k0.wide hs, h.k1.wide hs, h.k2.wide hs, h.k3.wide hs, h.a01, h.a02, h.a03, h.a12, h.a13, h.a23⟩
set_option linter.unusedSimpArgs false
def burnt (f : Int) : Int := if 0 < f then f - 1 else f
theorem cells_fuse (t : TTape) (n : Int) : t.cells.setIfInBounds 9 (.int .i64 n) = ({ t with fuse := n } : TTape).cells := rfl
theorem TTape.ok.fuse {S : Nat → Prop} {w : World} {b : Nat} {t : TTape} (h : t.ok S w b) (n : Int) : ({ t with fuse := n } : TTape).ok S (w.setCell ⟨b, 9, none⟩ (.int .i64 n)) b := by
 have ne : ∀ (f : TFile), f.ok S w → f.v.ownBlock ≠ some b := fun f hf e => by
  rcases hf.owns.2 with ⟨hv, _⟩ | ⟨g, cap, cur, hv, _, hg, _⟩
  ·rw [hv] at e; simp [Value.ownBlock] at e
  ·rw [hv] at e; simp [Value.ownBlock] at e; subst e
   exact h.has.ne (T' := 5) hg (by decide) rfl
 have k : ∀ (f : TFile), f.ok S w → f.ok S (w.setCell ⟨b, 9, none⟩ (.int .i64 n)) := fun f hf =>
  ⟨owns_setCell_ne hf.owns (by simpa using ne f hf) _, hf.last, hf.len, hf.bytes, hf.inn⟩
 exact ⟨by have := h.has.set 9 (.int .i64 n); rwa [cells_fuse] at this, h.inn, k _ h.k0, k _ h.k1, k _ h.k2, k _ h.k3, h.a01, h.a02, h.a03, h.a12, h.a13, h.a23⟩
theorem burn_any {S : Nat → Prop} (b : Nat) (t : TTape) (w : World) (h : t.ok S w b) (hf : -9223372036854775808 ≤ t.fuse ∧ t.fuse ≤ 9223372036854775807) :
  Calls Try.prog 54 #[.pointer (some ⟨b, 0, none⟩)] w fun e w' => e = .returned (.bool (decide (t.fuse ≠ 0))) ∧ ({ t with fuse := burnt t.fuse } : TTape).ok S w' b ∧ Mod (· = b) w w' := by
 have hc := h.has.cell
 have hz := h.has.frozen
 have H := hide h
 have e9 : t.cells[9]? = some (.int .i64 t.fuse) := rfl
 have hc9 := hc 9
 rw [e9] at hc9
 clear hc h e9
 obtain ⟨f0, f1, f2, f3, room, f⟩ := t
 simp only at hc9 hf
 simp only
 rcases Int.lt_trichotomy f 0 with hlt | heq | hgt
 ·go_enter Try.func54, Try.ntmps54
  go_wp2
  all_goals go_ret
  all_goals exact ⟨by simp; omega, by simpa [burnt, Int.not_lt.2 (Int.le_of_lt hlt)] using unhide H, Mod.refl _ _⟩
 ·subst heq
  go_enter Try.func54, Try.ntmps54
  go_wp2
  all_goals go_ret
  all_goals exact ⟨by simp, by simpa [burnt] using unhide H, Mod.refl _ _⟩
 ·have hw : IntKind.i64.wrap (f - 1) = f - 1 := by rw [IntKind.wrap_i64]; omega
  go_enter Try.func54, Try.ntmps54
  go_wp2
  all_goals go_ret
  all_goals exact ⟨by simp; omega, by simpa [burnt, hgt] using (unhide H).fuse (f - 1), Mod.setCell (S := fun k => k = b) (Mod.refl _ w) (p := ⟨b, 9, none⟩) (.inl rfl) _⟩
def TTape.get (t : TTape) : Nat → TFile
 | 0 => t.f0
 | 1 => t.f1
 | 2 => t.f2
 | _ => t.f3
def TTape.put (t : TTape) (f : TFile) : Nat → TTape
 | 0 => { t with f0 := f }
 | 1 => { t with f1 := f }
 | 2 => { t with f2 := f }
 | _ => { t with f3 := f }
def Touch (b : Nat) (f : TFile) : Nat → Prop := fun k => k = b ∨ f.v.ownBlock = some k
theorem TFile.ok.ne {S : Nat → Prop} {w : World} {f : TFile} (hf : f.ok S w) {b : Nat} {cs : Array Value} (h : Has w b cs 103) : f.v.ownBlock ≠ some b := fun e => by
 rcases hf.owns.2 with ⟨hv, _⟩ | ⟨g, cap, cur, hv, _, hg, _⟩
 ·rw [hv] at e; simp [Value.ownBlock] at e
 ·rw [hv] at e; simp [Value.ownBlock] at e; subst e
  exact h.ne (T' := 5) hg (by decide) rfl
theorem TFile.ok.other {S : Nat → Prop} {w w' : World} {b : Nat} {f g : TFile} {cs : Array Value} (hf : f.ok S w) (hb : Has w b cs 103) (ha : f.apart g) (hm : Mod (Touch b g) w w') : f.ok S w' :=
 hf.mod hm (fun k hk => by
  rintro (rfl | h)
  ·exact hf.ne hb hk
  ·exact ha k hk h)
theorem TTape.ok.put {S S' : Nat → Prop} {w w' : World} {b : Nat} {t : TTape} (h : t.ok S w b) (i : Nat) (hi : i < 4) (f : TFile)
  (hm : Mod (Touch b (t.get i)) w w') (hhas : Has w' b (t.put f i).cells 103) (hf : f.ok S' w') (hS : ∀ k, S k → S' k)
  (hst : ∀ k, f.v.ownBlock = some k → (t.get i).v.ownBlock = some k ∨ w.heap.size ≤ k) : (t.put f i).ok S' w' b := by
 have lt : ∀ (g : TFile), g.ok S w → ∀ k, g.v.ownBlock = some k → k < w.heap.size := fun g hg k hk => (hg.owns.lt k hk).2
 have ap : ∀ (g : TFile), g.ok S w → (t.get i).apart g → f.apart g := fun g hg ha k hk hgk => by
  rcases hst k hk with h1 | h1
  ·exact ha k h1 hgk
  ·have := lt g hg k hgk; omega
 match i, hi with
 | 0, _ =>
  exact ⟨hhas, hS _ h.inn, hf, (h.k1.other h.has h.a01.symm hm).wide hS, (h.k2.other h.has h.a02.symm hm).wide hS, (h.k3.other h.has h.a03.symm hm).wide hS,
   ap _ h.k1 h.a01, ap _ h.k2 h.a02, ap _ h.k3 h.a03, h.a12, h.a13, h.a23⟩
 | 1, _ =>
  exact ⟨hhas, hS _ h.inn, (h.k0.other h.has h.a01 hm).wide hS, hf, (h.k2.other h.has h.a12.symm hm).wide hS, (h.k3.other h.has h.a13.symm hm).wide hS,
   (ap _ h.k0 h.a01.symm).symm, h.a02, h.a03, ap _ h.k2 h.a12, ap _ h.k3 h.a13, h.a23⟩
 | 2, _ =>
  exact ⟨hhas, hS _ h.inn, (h.k0.other h.has h.a02 hm).wide hS, (h.k1.other h.has h.a12 hm).wide hS, hf, (h.k3.other h.has h.a23.symm hm).wide hS,
   h.a01, (ap _ h.k0 h.a02.symm).symm, h.a03, (ap _ h.k1 h.a12.symm).symm, h.a13, ap _ h.k3 h.a23⟩
 | 3, _ =>
  exact ⟨hhas, hS _ h.inn, (h.k0.other h.has h.a03 hm).wide hS, (h.k1.other h.has h.a13 hm).wide hS, (h.k2.other h.has h.a23 hm).wide hS, hf,
   h.a01, h.a02, (ap _ h.k0 h.a03.symm).symm, h.a12, (ap _ h.k1 h.a13.symm).symm, (ap _ h.k2 h.a23.symm).symm⟩
theorem TTape.ok.get {S : Nat → Prop} {w : World} {b : Nat} {t : TTape} (h : t.ok S w b) (i : Nat) (hi : i < 4) : (t.get i).ok S w := by
 match i, hi with
 | 0, _ => exact h.k0
 | 1, _ => exact h.k1
 | 2, _ => exact h.k2
 | 3, _ => exact h.k3
theorem cells_v (t : TTape) (i : Nat) (hi : i < 4) : t.cells[i * 2]? = some (t.get i).v ∧ t.cells[i * 2 + 1]? = some (.int .i64 (t.get i).last) := by
 match i, hi with
 | 0, _ => exact ⟨rfl, rfl⟩
 | 1, _ => exact ⟨rfl, rfl⟩
 | 2, _ => exact ⟨rfl, rfl⟩
 | 3, _ => exact ⟨rfl, rfl⟩
theorem cells_put (t : TTape) (v : Value) (xs : List Value) (l : Nat) (i : Nat) (hi : i < 4) : (t.cells.setIfInBounds (i * 2) v).setIfInBounds (i * 2 + 1) (.int .i64 l) = (t.put ⟨v, xs, l⟩ i).cells := by
 match i, hi with
 | 0, _ => rfl
 | 1, _ => rfl
 | 2, _ => rfl
 | 3, _ => rfl
theorem cells_put_v (t : TTape) (v : Value) (xs : List Value) (i : Nat) (hi : i < 4) : t.cells.setIfInBounds (i * 2) v = (t.put ⟨v, xs, (t.get i).last⟩ i).cells := by
 match i, hi with
 | 0, _ => rfl
 | 1, _ => rfl
 | 2, _ => rfl
 | 3, _ => rfl
theorem cells_put_l (t : TTape) (xs : List Value) (l : Nat) (i : Nat) (hi : i < 4) : t.cells.setIfInBounds (i * 2 + 1) (.int .i64 l) = (t.put ⟨(t.get i).v, xs, l⟩ i).cells := by
 match i, hi with
 | 0, _ => rfl
 | 1, _ => rfl
 | 2, _ => rfl
 | 3, _ => rfl
theorem new_any (n : Int) (w : World) :
  Calls Try.prog 15 #[.int .i64 n] w fun e w' => e = .returned (.pointer (some ⟨w.heap.size, 0, none⟩)) ∧
   w' = w.alloc (.cells (⟨⟨.slice none 0 0, [], 0⟩, ⟨.slice none 0 0, [], 0⟩, ⟨.slice none 0 0, [], 0⟩, ⟨.slice none 0 0, [], 0⟩, n, -1⟩ : TTape).cells 103) := by
 go_enter Try.func15, Try.ntmps15
 go_wp2
 go_ret
 exact ⟨rfl, rfl⟩
theorem fuse_any (b : Nat) (n : Int) (w : World) (cs : Array Value) (h : Has w b cs 103) (h9 : 9 < cs.size) :
  Calls Try.prog 34 #[.pointer (some ⟨b, 0, none⟩), .int .i64 n] w fun e w' => e = .returned (.tuple #[]) ∧ w' = w.setCell ⟨b, 9, none⟩ (.int .i64 n) := by
 have hc := h.cell 9
 have hz := h.frozen 9
 rw [Array.getElem?_eq_getElem h9] at hc
 clear h
 generalize cs[9] = x at hc
 go_enter Try.func34, Try.ntmps34
 go_wp2
 go_end0
 exact ⟨rfl, rfl⟩
theorem room_any (b : Nat) (n : Int) (w : World) (cs : Array Value) (h : Has w b cs 103) (h8 : cs[8]? = some (.int .i64 n)) :
  Calls Try.prog 42 #[.pointer (some ⟨b, 0, none⟩)] w fun e w' => e = .returned (.int .i64 n) ∧ w' = w := by
 have hc := h.cell 8
 rw [h8] at hc
 clear h
 go_enter Try.func42, Try.ntmps42
 go_wp2
 go_ret
 exact ⟨rfl, rfl⟩
theorem idx84_0 (x0 x1 x2 x3 x4 x5 x6 x7 : Value) (w : World) : (Instr.index 101 (.agg #[x0, x1, x2, x3, x4, x5, x6, x7]) (.int .i64 0)).run Try.prog w = .ok (.agg #[x0, x1]) w := by
 simp [go_sem, Instr.index]
theorem idx84_1 (x0 x1 x2 x3 x4 x5 x6 x7 : Value) (w : World) : (Instr.index 101 (.agg #[x0, x1, x2, x3, x4, x5, x6, x7]) (.int .i64 1)).run Try.prog w = .ok (.agg #[x2, x3]) w := by
 simp [go_sem, Instr.index]
theorem idx84_2 (x0 x1 x2 x3 x4 x5 x6 x7 : Value) (w : World) : (Instr.index 101 (.agg #[x0, x1, x2, x3, x4, x5, x6, x7]) (.int .i64 2)).run Try.prog w = .ok (.agg #[x4, x5]) w := by
 simp [go_sem, Instr.index]
theorem idx84_3 (x0 x1 x2 x3 x4 x5 x6 x7 : Value) (w : World) : (Instr.index 101 (.agg #[x0, x1, x2, x3, x4, x5, x6, x7]) (.int .i64 3)).run Try.prog w = .ok (.agg #[x6, x7]) w := by
 simp [go_sem, Instr.index]
attribute [local go_sem] idx84_0 idx84_1 idx84_2 idx84_3
set_option maxRecDepth 100000 in
theorem used_core (b : Nat) (a0 a1 a2 a3 : Option Addr) (n0 n1 n2 n3 c0 c1 c2 c3 : Nat) (l0 l1 l2 l3 r f : Int) (w : World)
  (h0 : n0 ≤ 17592186044416) (h1 : n1 ≤ 17592186044416) (h2 : n2 ≤ 17592186044416) (h3 : n3 ≤ 17592186044416)
  (hc : ∀ o, w.cell? ⟨b, o, none⟩ = (#[.slice a0 n0 c0, .int .i64 l0, .slice a1 n1 c1, .int .i64 l1, .slice a2 n2 c2, .int .i64 l2, .slice a3 n3 c3, .int .i64 l3, .int .i64 r, .int .i64 f] : Array Value)[o]?) :
  Calls Try.prog 57 #[.pointer (some ⟨b, 0, none⟩)] w fun e w' => e = .returned (.int .i64 (n0 + n1 + n2 + n3 : Nat)) ∧ Mod No w w' := by
 go_enter Try.func57, Try.ntmps57
 go_wp2
 go_loopw [3, 10] (fun n i wr => ((i = .int .i64 0 ∧ n = .int .i64 0) ∨ (i = .int .i64 1 ∧ n = .int .i64 n0) ∨ (i = .int .i64 2 ∧ n = .int .i64 (n0 + n1)) ∨ (i = .int .i64 3 ∧ n = .int .i64 (n0 + n1 + n2)) ∨ (i = .int .i64 4 ∧ n = .int .i64 (n0 + n1 + n2 + n3))) ∧ Mod No w wr) (fun _ i _ => 4 - (intOf i).toNat)
 case atStart => exact ⟨.inl ⟨rfl, rfl⟩, Mod.refl _ _⟩
 case round =>
  obtain ⟨hr, hm⟩ := hrel
  clear hc
  rcases hr with ⟨rfl, rfl⟩ | ⟨rfl, rfl⟩ | ⟨rfl, rfl⟩ | ⟨rfl, rfl⟩ | ⟨rfl, rfl⟩
  ·go_wp2
   go_roundw
   ·exact ⟨.inr (.inl ⟨rfl, rfl⟩), hm.alloc _⟩
   ·simp [intOf]
  ·go_wp2
   go_roundw
   ·exact ⟨.inr (.inr (.inl ⟨rfl, rfl⟩)), hm.alloc _⟩
   ·simp [intOf]
  ·go_wp2
   go_roundw
   ·exact ⟨.inr (.inr (.inr (.inl ⟨rfl, rfl⟩))), hm.alloc _⟩
   ·simp [intOf]
  ·go_wp2
   go_roundw
   ·exact ⟨.inr (.inr (.inr (.inr ⟨rfl, rfl⟩))), hm.alloc _⟩
   ·simp [intOf]
  ·go_wp2
   go_ret
   exact ⟨rfl, hm⟩
theorem used_any {S : Nat → Prop} (b : Nat) (t : TTape) (w : World) (h : t.ok S w b) :
  Calls Try.prog 57 #[.pointer (some ⟨b, 0, none⟩)] w fun e w' => e = .returned (.int .i64 t.used) ∧ Mod No w w' := by
 have hc := h.has.cell
 obtain ⟨a0, c0, e0, m0⟩ := slice_form h.k0
 obtain ⟨a1, c1, e1, m1⟩ := slice_form h.k1
 obtain ⟨a2, c2, e2, m2⟩ := slice_form h.k2
 obtain ⟨a3, c3, e3, m3⟩ := slice_form h.k3
 unfold TTape.cells at hc
 rw [e0, e1, e2, e3] at hc
 exact used_core b a0 a1 a2 a3 _ _ _ _ c0 c1 c2 c3 _ _ _ _ _ _ w (by omega) (by omega) (by omega) (by omega) hc
theorem fits_core (b : Nat) (cs : Array Value) (u n r : Int) (w : World) (hu : 0 ≤ u) (hu2 : u ≤ 140737488355328) (hn : 0 ≤ n) (hn2 : n ≤ 140737488355328) (h : Has w b cs 103)
  (hused : ∀ W, Mod No w W → Calls Try.prog 57 #[.pointer (some ⟨b, 0, none⟩)] W fun e w' => e = .returned (.int .i64 u) ∧ Mod No W w')
  (hr : cs[8]? = some (.int .i64 r)) :
  Calls Try.prog 43 #[.pointer (some ⟨b, 0, none⟩), .int .i64 n] w fun e w' => e = .returned (.bool (decide (u + n ≤ r))) ∧ Mod No w w' := by
 have hc := h.cell
 have hw := wrap_id (u + n) (by omega) (by omega)
 go_enter Try.func43, Try.ntmps43
 go_wp2_with fail
 go_region_with (go_at_call 57; refine (hused _ ?_).mono ?_; exact (Mod.refl No w).drew; rintro e w' ⟨rfl, hm⟩; have hc' := (hm.has h.drew (fun x => x)).cell)
 all_goals
  go_wp2
  go_ret
  exact ⟨by simp [Act.put], (Mod.refl No w).drew.trans hm⟩
theorem fits_any {S : Nat → Prop} (b : Nat) (t : TTape) (n : Int) (w : World) (h : t.ok S w b) (hn : 0 ≤ n) (hn2 : n ≤ 140737488355328) :
  Calls Try.prog 43 #[.pointer (some ⟨b, 0, none⟩), .int .i64 n] w fun e w' => e = .returned (.bool (decide (t.used + n ≤ t.room))) ∧ Mod No w w' :=
 fits_core b t.cells t.used n t.room w (by omega)
  (by have h0 := h.k0.len; have h1 := h.k1.len; have h2 := h.k2.len; have h3 := h.k3.len; unfold TTape.used; omega) hn hn2 h.has
  (fun W hW => used_any b t W (h.mod0 hW)) rfl
def Reads (w : World) (x : Value) (m : Nat) (news : List Value) : Prop :=
 (x = .slice none 0 0 ∧ m = 0) ∨ ∃ ad c, x = .slice (some ad) m c ∧ ∀ j u, news[j]? = some u → w.cell? (ad.add j) = some u
theorem reads_of_owns {w : World} {base : Nat} {e : TypeId} {size : Nat} {v : Value} {n : Nat} {xs : List Value} (h : w.ownsRow base e size v n xs) : Reads w v n xs := by
 rcases h.2 with ⟨h1, h2⟩ | ⟨g, cap, cur, hv, _, _⟩
 ·exact .inl ⟨h1, h2⟩
 ·refine .inr ⟨⟨g, 0, none⟩, cap, hv, fun j u hu => ?_⟩
  exact h.cells (by rw [hv]; rfl) j u hu
theorem Reads.mod {S : Nat → Prop} {w w' : World} {x : Value} {m : Nat} {news : List Value} (h : Reads w x m news) (hm : Mod S w w') (hs : ∀ k, x.ownBlock = some k → ¬ S k) : Reads w' x m news := by
 rcases h with h | ⟨ad, c, rfl, hc⟩
 ·exact .inl h
 ·refine .inr ⟨ad, c, rfl, fun j u hu => ?_⟩
  have h1 := hc j u hu
  have hb : (ad.add j).block = ad.block := by unfold Addr.add; split <;> rfl
  have hlt := World.block_lt_of_cell? w _ h1
  rw [World.cell?_of_block (w := w) (hm.block _ hlt (by rw [hb]; exact hs _ rfl))]
  exact h1
def Stays (w : World) (v v' : Value) : Prop := ∀ k, v'.ownBlock = some k → v.ownBlock = some k ∨ w.heap.size ≤ k
theorem run_append_row {P : Program} (w : World) (t ty e : TypeId) (i : TypeInfo) (z : Value) (size bytes : Nat) (ht : P.underlying t = some (.slice e)) (hi : P.info? e = some i) (hz : i.zero = some z)
  (hsize : i.size = size) (hby : i.bytes = bytes) (hzs : z.cells.size = size) (hsz : 0 < size)
  (v : Value) (n : Nat) (xs : List Value) (hown : w.ownsRow 0 e size v n xs)
  (x : Value) (m : Nat) (news : List Value) (hx : Reads w x m news) (hl : news.length = m * size) (h1 : ∀ u ∈ news, u.oneCell' = true)
  (h63 : n + m ≤ maxLen) (hbytes : (n + m) * bytes ≤ 140737488355328) :
  ∃ v' w', (Builtin.append_ #[t, t] ty #[v, x]).run P w = .ok v' w' ∧ w'.ownsRow 0 e size v' (n + m) (xs ++ news) ∧ w.grownBy w' v.ownBlock ∧ Stays w v v' := by
 have hsame : w.grownBy w v.ownBlock := ⟨rfl, rfl, rfl, Nat.le_refl _, fun _ _ _ => rfl⟩
 rcases hx with ⟨rfl, rfl⟩ | ⟨ad, c, rfl, hc⟩
 ·obtain rfl : news = [] := List.eq_nil_of_length_eq_zero (by simpa using hl)
  refine ⟨v, w, ?_, by simpa using hown, hsame, fun k hk => .inl hk⟩
  rcases hown.2 with ⟨rfl, rfl⟩ | ⟨g, cap, cur, rfl, _, _, hnc, _⟩
  ·simp [Builtin.append_, run_underlying ht, sizeOf, typeInfo, hi, Builtin.lenOf, Builtin.firstCells, loadCells, loadCellsFrom]
  ·simp [Builtin.append_, run_underlying ht, sizeOf, typeInfo, hi, Builtin.lenOf, Builtin.firstCells, loadCells, loadCellsFrom, hnc, storeCells]
 ·have hown' := hown
  rcases hown.2 with ⟨rfl, rfl⟩ | ⟨g, cap, cur, rfl, _, hg, hnc, hcm, hcs, htake⟩
  ·obtain rfl : xs = [] := List.eq_nil_of_length_eq_zero (by simpa using hown.1)
   obtain ⟨v', w', hr, h2, h3, h4⟩ := run_append_own (P := P) w w.heap.size t ty e i z size bytes ht hi hz hsize hby hzs hsz (.slice none 0 0) 0 [] (World.ownsRow_nil _ _ _ _) ad m c news hl hc h1 h63 hbytes (Nat.le_refl _)
   refine ⟨v', w', hr, ⟨h2.1, ?_⟩, h3, fun k hk => .inr (h2.lt k hk).1⟩
   rcases h2.2 with h | ⟨g, cap, cur, hv, _, r⟩
   ·exact .inl h
   ·exact .inr ⟨g, cap, cur, hv, Nat.zero_le _, r⟩
  ·by_cases hroom : n + m ≤ cap
   ·subst hsize
    have hfit : n * i.size + news.length ≤ cur.size := by rw [hl, hcs, ← Nat.add_mul]; exact Nat.mul_le_mul_right _ hroom
    have hr := run_append_room (P := P) w t ty e i ht hi g n cap cur hg ad m c news hl hc h1 hroom hfit
    obtain ⟨v', w', hr2, h2, h3, _⟩ := run_append_own (P := P) w 0 t ty e i z i.size bytes ht hi hz rfl hby hzs hsz _ n xs hown ad m c news hl hc h1 h63 hbytes (Nat.zero_le _)
    rw [hr] at hr2
    injection hr2 with e1 e2
    subst e1
    subst e2
    exact ⟨_, _, hr, h2, h3, fun k hk => .inl hk⟩
   ·obtain ⟨v', w', hr, h2, h3⟩ := run_append_arg_grows (P := P) w t ty e i z size bytes ht hi hz hsize hby hzs hsz ⟨g, 0, none⟩ n cap xs hown.1 (hown.cells rfl) ad m c news hl hc (by omega) h63 hbytes
    refine ⟨v', w', hr, ⟨h2.1, ?_⟩, ⟨h3.os, h3.tape, h3.output, h3.size, fun k hk _ => h3.block k hk (by simp)⟩, fun k hk => .inr (h2.lt k hk).1⟩
    rcases h2.2 with h | ⟨g, cap, cur, hv, _, r⟩
    ·exact .inl h
    ·exact .inr ⟨g, cap, cur, hv, Nat.zero_le _, r⟩
section
variable {P : Program} {w : World}
theorem wp_append_row {o : Oper} {a : Act} {K : Act → World → Prop} {Q : Exit → Act → World → Prop} (s y : Operand) (t : TypeId)
  (ho : o.op = .call { callee := .builtin .append, args := #[s, y], argTypes := #[t, t] })
  (e : TypeId) (i : TypeInfo) (z : Value) (size bytes : Nat) (ht : P.underlying t = some (.slice e)) (hi : P.info? e = some i) (hz : i.zero = some z)
  (hsize : i.size = size) (hby : i.bytes = bytes) (hzs : z.cells.size = size) (hsz : 0 < size)
  (v : Value) (n : Nat) (xs : List Value) (hs : a.eval s = v) (hown : w.ownsRow 0 e size v n xs)
  (x : Value) (m : Nat) (news : List Value) (hx : a.eval y = x) (hr : Reads w x m news) (hl : news.length = m * size) (h1 : ∀ u ∈ news, u.oneCell' = true)
  (h63 : n + m ≤ maxLen) (hbytes : (n + m) * bytes ≤ 140737488355328)
  (h : ∀ v' w', w'.ownsRow 0 e size v' (n + m) (xs ++ news) → w.grownBy w' v.ownBlock → Stays w v v' → K (a.put o.dst v') w') : o.wp P a w K Q := by
 obtain ⟨v', w', hr, h2, h3, h4⟩ := run_append_row (P := P) w t o.type e i z size bytes ht hi hz hsize hby hzs hsz v n xs hown x m news hr hl h1 h63 hbytes
 unfold Oper.wp execOp
 simp only [ho, resolve, invoke, builtin, Sem.run_bind, Sem.run_pure, Result.andThen_ok, List.map_toArray, List.map_cons, List.map_nil, hs, hx, hr]
 exact h v' w' h2 h3 h4
theorem wpList_append_row {ops : Array Oper} {rest : List Oper} {o : Oper} {a : Act} {Q : Exit → Act → World → Prop} (hgd : o.guard = none) (s y : Operand) (t : TypeId)
  (ho : o.op = .call { callee := .builtin .append, args := #[s, y], argTypes := #[t, t] })
  (e : TypeId) (i : TypeInfo) (z : Value) (size bytes : Nat) (ht : P.underlying t = some (.slice e)) (hi : P.info? e = some i) (hz : i.zero = some z)
  (hsize : i.size = size) (hby : i.bytes = bytes) (hzs : z.cells.size = size) (hsz : 0 < size)
  (v : Value) (n : Nat) (xs : List Value) (hs : a.eval s = v) (hown : w.ownsRow 0 e size v n xs)
  (x : Value) (m : Nat) (news : List Value) (hx : a.eval y = x) (hr : Reads w x m news) (hl : news.length = m * size) (h1 : ∀ u ∈ news, u.oneCell' = true)
  (h63 : n + m ≤ maxLen) (hbytes : (n + m) * bytes ≤ 140737488355328)
  (h : ∀ v' w', w'.ownsRow 0 e size v' (n + m) (xs ++ news) → w.grownBy w' v.ownBlock → Stays w v v' → wpList P ops Q rest (a.put o.dst v') w') : wpList P ops Q (o :: rest) a w :=
 wpList_plain hgd fun _ hK => wp_append_row s y t ho e i z size bytes ht hi hz hsize hby hzs hsz v n xs hs hown x m news hx hr hl h1 h63 hbytes fun v' w' h2 h3 h4 => hK _ _ (h v' w' h2 h3 h4)
theorem step_append_row {ops : Array Oper} {o : Oper} {a : Act} {K : Act → World → Prop} {Q : Exit → Act → World → Prop} {E : Prop} (hgd : o.guard = none) (s y : Operand) (t : TypeId)
  (ho : o.op = .call { callee := .builtin .append, args := #[s, y], argTypes := #[t, t] })
  (e : TypeId) (i : TypeInfo) (z : Value) (size bytes : Nat) (ht : P.underlying t = some (.slice e)) (hi : P.info? e = some i) (hz : i.zero = some z)
  (hsize : i.size = size) (hby : i.bytes = bytes) (hzs : z.cells.size = size) (hsz : 0 < size)
  (v : Value) (n : Nat) (xs : List Value) (hs : a.eval s = v) (hown : w.ownsRow 0 e size v n xs)
  (x : Value) (m : Nat) (news : List Value) (hx : a.eval y = x) (hr : Reads w x m news) (hl : news.length = m * size) (h1 : ∀ u ∈ news, u.oneCell' = true)
  (h63 : n + m ≤ maxLen) (hbytes : (n + m) * bytes ≤ 140737488355328)
  (h : ∀ v' w', w'.ownsRow 0 e size v' (n + m) (xs ++ news) → w.grownBy w' v.ownBlock → Stays w v v' → K (a.put o.dst v') w') :
  if Region.wanted o (yielded ops a.tmps) = true then Oper.wp P o a w K Q else E := by
 have hw : Region.wanted o (yielded ops a.tmps) = true := by simp [Region.wanted, hgd]
 rw [if_pos hw]
 exact wp_append_row s y t ho e i z size bytes ht hi hz hsize hby hzs hsz v n xs hs hown x m news hx hr hl h1 h63 hbytes h
end
end Go.Proofs.Ythhibagcpjeihaa
