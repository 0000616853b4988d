import Derived.Test.YtlcbemcamdafjaaRows
import Derived.WalkKit
import Derived.ProofKit
import Derived.Deep.RegionLawGrows
import Derived.BigQuiet
import Derived.Deep.QuietTactic
import Derived.WideKeyArgs
import Derived.DeepKeys4
import Derived.MapViews
/- Facts on worlds that every contract below uses: what a block of cells gives its reader, what a change leaves alone. -/
namespace Go.Proofs.Ytlcbemcamdafjaa
open Go.RowKit

theorem hide {p : Prop} (h : p) : Hid p := h
theorem unhide {p : Prop} (h : Hid p) : p := h

/-- A block of cells that nothing has frozen. -/
def Has (w : World) (b : Nat) (cs : Array Value) (T : TypeId) : Prop := w.heap[b]? = some (.cells cs T (0, 0))

theorem Has.cell {w : World} {b : Nat} {cs : Array Value} {T : TypeId} (h : Has w b cs T) (o : Nat) : w.cell? ⟨b, o, none⟩ = cs[o]? := by
  unfold Has at h
  simp [World.cell?, h]
theorem Has.frozen {w : World} {b : Nat} {cs : Array Value} {T : TypeId} (h : Has w b cs T) (o : Nat) : w.frozen? ⟨b, o, none⟩ = false := by
  unfold Has at h
  simp [World.frozen?, h]
theorem Has.lt {w : World} {b : Nat} {cs : Array Value} {T : TypeId} (h : Has w b cs T) : b < w.heap.size := (Array.getElem?_eq_some_iff.1 h).1
theorem Has.ne {w : World} {b b' : Nat} {cs cs' : Array Value} {T T' : TypeId} (h : Has w b cs T) (h' : Has w b' cs' T') (hT : T ≠ T') : b ≠ b' := by
  rintro rfl
  unfold Has at h h'
  rw [h] at h'
  injection h' with h'
  injection h' with _ h2
  exact hT h2

/-- What a step may turn: the blocks of S, and what is new. -/
structure Mod (S : Nat → Prop) (w w' : World) : Prop where
  os : w'.os = w.os
  tape : w'.tape = w.tape
  output : w'.output = w.output
  size : w.heap.size ≤ w'.heap.size
  block : ∀ k, k < w.heap.size → ¬ S k → w'.heap[k]? = w.heap[k]?

def No : Nat → Prop := fun _ => False

theorem Mod.refl (S : Nat → Prop) (w : World) : Mod S w w := ⟨rfl, rfl, rfl, Nat.le_refl _, fun _ _ _ => rfl⟩
theorem Mod.trans {S : Nat → Prop} {a b c : World} (h : Mod S a b) (k : Mod S b c) : Mod S a c :=
  ⟨k.os.trans h.os, k.tape.trans h.tape, k.output.trans h.output, Nat.le_trans h.size k.size,
   fun i hi hs => (k.block i (Nat.lt_of_lt_of_le hi h.size) hs).trans (h.block i hi hs)⟩
/-- The second step may turn what the first made. -/
theorem Mod.trans' {S S' : Nat → Prop} {a b c : World} (h : Mod S a b) (k : Mod S' b c) (hS : ∀ i, S' i → i < a.heap.size → S i) : Mod S a c :=
  ⟨k.os.trans h.os, k.tape.trans h.tape, k.output.trans h.output, Nat.le_trans h.size k.size,
   fun i hi hs => (k.block i (Nat.lt_of_lt_of_le hi h.size) (fun h' => hs (hS i h' hi))).trans (h.block i hi hs)⟩
theorem Mod.mono {S S' : Nat → Prop} {a b : World} (h : Mod S a b) (hS : ∀ i, i < a.heap.size → S i → S' i) : Mod S' a b :=
  ⟨h.os, h.tape, h.output, h.size, fun i hi hs => h.block i hi (fun h' => hs (hS i hi h'))⟩
theorem Mod.drew {S : Nat → Prop} {a w : World} (h : Mod S a w) : Mod S a w.drew := ⟨h.os, h.tape, h.output, h.size, h.block⟩
theorem Mod.drewN {S : Nat → Prop} {a w : World} (h : Mod S a w) (n : Nat) : Mod S a (w.drewN n) := ⟨h.os, h.tape, h.output, h.size, h.block⟩
theorem Mod.alloc {S : Nat → Prop} {a w : World} (h : Mod S a w) (o : Obj) : Mod S a (w.alloc o) :=
  h.trans ⟨rfl, rfl, rfl, by simp, fun k hk _ => Below.heap_alloc _ _ _ hk⟩
theorem Mod.setCell {S : Nat → Prop} {a w : World} (h : Mod S a w) {p : Addr} (hp : S p.block ∨ a.heap.size ≤ p.block) (u : Value) : Mod S a (w.setCell p u) :=
  h.trans' (S' := fun k => k = p.block) ⟨rfl, rfl, rfl, by simp, fun k _ hk => Below.heap_setCell _ _ _ _ hk⟩
    (fun i hi hl => by subst hi; rcases hp with hp | hp; exact hp; omega)
theorem Mod.grown {S : Nat → Prop} {a w w' : World} {row : Option Nat} (h : Mod S a w) (hg : w.grownBy w' row) (hr : ∀ k, row = some k → S k ∨ a.heap.size ≤ k) : Mod S a w' :=
  h.trans' (S' := fun k => some k = row) ⟨hg.os, hg.tape, hg.output, hg.size, fun k hk hne => hg.block k hk hne⟩
    (fun i hi hl => by rcases hr i hi.symm with hp | hp; exact hp; omega)
theorem Mod.has {S : Nat → Prop} {w w' : World} (h : Mod S w w') {b : Nat} {cs : Array Value} {T : TypeId} (hb : Has w b cs T) (hs : ¬ S b) : Has w' b cs T := by
  unfold Has; rw [h.block b hb.lt hs]; exact hb
theorem Mod.owns {S : Nat → Prop} {w w' : World} (h : Mod S w w') {base : Nat} {e : TypeId} {size : Nat} {v : Value} {n : Nat} {xs : List Value}
    (ho : w.ownsRow base e size v n xs) (hs : ∀ k, v.ownBlock = some k → ¬ S k) : w'.ownsRow base e size v n xs := by
  refine ⟨ho.1, ?_⟩
  rcases ho.2 with hn | ⟨g, cap, cur, rfl, hb, hg, rest⟩
  · exact .inl hn
  · exact .inr ⟨g, cap, cur, rfl, hb, by rw [h.block g (Array.getElem?_eq_some_iff.1 hg).1 (hs g rfl)]; exact hg, rest⟩
theorem Mod.below {w w' : World} (h : Mod No w w') : Below w.heap.size w w' := ⟨h.os, h.tape, h.output, h.size, fun k hk => h.block k hk (fun x => x)⟩

theorem Has.alloc {w : World} {b : Nat} {cs : Array Value} {T : TypeId} (h : Has w b cs T) (o : Obj) : Has (w.alloc o) b cs T := by
  unfold Has; rw [Below.heap_alloc _ _ _ h.lt]; exact h
theorem Has.new (w : World) (cs : Array Value) (T : TypeId) : Has (w.alloc (.cells cs T)) w.heap.size cs T := by
  unfold Has; exact heap_alloc_new w _
theorem Has.drew {w : World} {b : Nat} {cs : Array Value} {T : TypeId} (h : Has w b cs T) : Has w.drew b cs T := h
theorem Has.drewN {w : World} {b : Nat} {cs : Array Value} {T : TypeId} (h : Has w b cs T) (n : Nat) : Has (w.drewN n) b cs T := h
theorem Has.set {w : World} {b : Nat} {cs : Array Value} {T : TypeId} (h : Has w b cs T) (o : Nat) (v : Value) : Has (w.setCell ⟨b, o, none⟩ v) b (cs.setIfInBounds o v) T := by
  unfold Has at h ⊢
  simp [World.setCell, Array.getElem?_modify, h]
theorem Has.set_ne {w : World} {b : Nat} {cs : Array Value} {T : TypeId} (h : Has w b cs T) {a : Addr} (ha : b ≠ a.block) (v : Value) : Has (w.setCell a v) b cs T := by
  unfold Has; rw [Below.heap_setCell _ _ _ _ ha]; exact h
theorem owns_setCell_ne {w : World} {base : Nat} {e : TypeId} {size : Nat} {v : Value} {n : Nat} {xs : List Value} (h : w.ownsRow base e size v n xs) {a : Addr}
    (ha : v.ownBlock ≠ some a.block) (u : Value) : (w.setCell a u).ownsRow base e size v n xs := by
  refine ⟨h.1, ?_⟩
  rcases h.2 with hn | ⟨g, cap, cur, rfl, hb, hg, rest⟩
  · exact .inl hn
  · refine .inr ⟨g, cap, cur, rfl, hb, ?_, rest⟩
    rw [Below.heap_setCell _ _ _ _ (by intro e; exact ha (by simp [Value.ownBlock, e]))]
    exact hg
theorem owns_drew {w : World} {base : Nat} {e : TypeId} {size : Nat} {v : Value} {n : Nat} {xs : List Value} (h : w.ownsRow base e size v n xs) : w.drew.ownsRow base e size v n xs := h
end Go.Proofs.Ytlcbemcamdafjaa
/- The map of seats by their places: what a look-up, a store and a delete do to a list of entries. -/
namespace Go.Proofs.Ytlcbemcamdafjaa
open Go.RowKit Go.WideMaps
open Go.ChangeMaps (setBlock)
set_option linter.unusedVariables false
set_option linter.unusedSimpArgs false
set_option maxRecDepth 100000

theorem laidOut : laidOutB Try.prog = true := by kernel_rfl
theorem law30 : KeyLaw Try.prog 32 := deep_law_laid laidOut (m := 2) (by omega) (of_decide_eq_true (by kernel_rfl)) (by kernel_rfl) (by rw [Try.underlying32])

/-- A place, a seat, as values. -/
def kv (r c : Int) : Value := .agg #[.int .i64 r, .int .i64 c]
def sv (s p k u : Int) : Value := .agg #[.int .i64 s, .int .i64 p, .int .i64 k, .int .i64 u]

theorem key30 (r c : Int) (hr : 0 ≤ r ∧ r ≤ 1000) (hc : 0 ≤ c ∧ c ≤ 1000) : ∃ l, keyOf Try.prog 32 (kv r c) = some l := by
  have w1 : (Lit.int .i64 r).wf = true := by simp [Lit.wf, IntKind.min, IntKind.max, IntKind.signed, IntKind.bits]; omega
  have w2 : (Lit.int .i64 c).wf = true := by simp [Lit.wf, IntKind.min, IntKind.max, IntKind.signed, IntKind.bits]; omega
  have hk : Try.prog.keyType 32 = true := by kernel_rfl
  have c30 : Try.prog.cellsOf 32 = 2 := by kernel_rfl
  have c3 : Try.prog.cellsOf 3 = 1 := by kernel_rfl
  have ts : ∃ n, Try.prog.types.size + 1 = n + 2 := ⟨Try.prog.types.size - 1, by have : 0 < Try.prog.types.size := of_decide_eq_true (by kernel_rfl); omega⟩
  obtain ⟨n, hn⟩ := ts
  apply Option.isSome_iff_exists.1
  unfold keyOf
  rw [Try.underlying32, hn]
  simp [hk, kv, Value.formed, Try.underlying32, c30, c3, Program.keyLits, Try.underlying3, w1, w2, Value.cells]

/-- One entry: when it came, its place, its seat. -/
structure MEnt where
  born : Nat
  r : Int
  c : Int
  s : Int
  p : Int
  k : Int
  u : Int

def MEnt.obj (e : MEnt) : MapEntry := ⟨kv e.r e.c, sv e.s e.p e.k e.u, e.born⟩
def mapObj (l : List MEnt) (clock : Nat) : Obj := .map (l.map MEnt.obj).toArray clock
/-- Is this the entry of the place? -/
def MEnt.is (r c : Int) (e : MEnt) : Bool := e.r == r && e.c == c

/-- What holds of every list of entries: places apart, births apart and past. -/
structure MapOk (l : List MEnt) (clock : Nat) : Prop where
  keys : ∀ e ∈ l, 0 ≤ e.r ∧ e.r ≤ 1000 ∧ 0 ≤ e.c ∧ e.c ≤ 1000
  apart : l.Pairwise fun a b => ¬ (a.r = b.r ∧ a.c = b.c)
  births : l.Pairwise fun a b => a.born ≠ b.born
  past : ∀ e ∈ l, e.born < clock

theorem kv_inj {r c r' c' : Int} : kv r c = kv r' c' ↔ r = r' ∧ c = c' := by
  constructor
  · intro h
    simp only [kv, Value.agg.injEq] at h
    simp at h
    exact h
  · rintro ⟨rfl, rfl⟩; rfl

theorem find_of {l : List MEnt} (hp : l.Pairwise fun a b => ¬ (a.r = b.r ∧ a.c = b.c)) {j : Nat} (hj : j < l.length) {r c : Int} (h : l[j].r = r ∧ l[j].c = c) : l.findIdx? (MEnt.is r c) = some j := by
  rw [List.findIdx?_eq_some_iff_getElem]
  refine ⟨hj, by simp [MEnt.is, h.1, h.2], fun i hi => ?_⟩
  have := (List.pairwise_iff_getElem.1 hp) i j (by omega) hj hi
  simp only [MEnt.is, Bool.and_eq_true, beq_iff_eq]
  rintro ⟨h1, h2⟩
  exact this ⟨by rw [h1, h.1], by rw [h2, h.2]⟩

/-- findKey, over such a list. -/
theorem run_find (w : World) (l : List MEnt) (clock : Nat) (hl : MapOk l clock) (r c : Int) (hr : 0 ≤ r ∧ r ≤ 1000) (hc : 0 ≤ c ∧ c ≤ 1000) :
    (Instr.findKey 32 (kv r c) (l.map MEnt.obj)).run Try.prog w = .ok ((l.findIdx? (MEnt.is r c)).map fun j => (j, (l[j]?.map fun e => sv e.s e.p e.k e.u).getD undef)) w := by
  obtain ⟨lx, hx⟩ := key30 r c hr hc
  rcases law30.find w hx (l.map MEnt.obj) (fun e he => by
    obtain ⟨m, hm, rfl⟩ := List.mem_map.1 he
    obtain ⟨a, b, c', d⟩ := hl.keys m hm
    exact key30 m.r m.c ⟨a, b⟩ ⟨c', d⟩) with ⟨h, hn⟩ | ⟨j, e, h, hj, hk⟩
  · rw [h]
    have : l.findIdx? (MEnt.is r c) = none := by
      rw [List.findIdx?_eq_none_iff]
      intro e he
      have := hn _ (List.mem_map_of_mem he)
      simp only [MEnt.is, Bool.and_eq_false_iff, beq_eq_false_iff_ne, ne_eq]
      by_cases h1 : e.r = r
      · right; intro h2
        exact this (kv_inj.2 ⟨h1, h2⟩)
      · left; exact h1
    rw [this]
    rfl
  · rw [h]
    rw [List.getElem?_map] at hj
    obtain ⟨m, hm, rfl⟩ := Option.map_eq_some_iff.1 hj
    obtain ⟨hj', rfl⟩ := List.getElem?_eq_some_iff.1 hm
    have hk' := kv_inj.1 hk
    rw [find_of hl.apart hj' hk']
    simp [hj', MEnt.obj]

/-- The seat that a look-up finds: an empty one, if there is no entry. -/
def lookE (l : List MEnt) (r c : Int) : Int × Int × Int × Int := ((l.find? (MEnt.is r c)).map fun e => (e.s, e.p, e.k, e.u)).getD (0, 0, 0, 0)

theorem find?_idx (l : List MEnt) (p : MEnt → Bool) : l.find? p = (l.findIdx? p).bind fun j => l[j]? := by
  induction l with
  | nil => rfl
  | cons e l ih =>
    simp only [List.find?_cons, List.findIdx?_cons]
    cases p e
    · simp only [Bool.false_eq_true, if_false, ih]
      cases l.findIdx? p <;> simp
    · simp

theorem zero171 (w : World) : (zeroValue 143).run Try.prog w = .ok (sv 0 0 0 0) w := by kernel_rfl

theorem map_erase (l : List MEnt) (j : Nat) : (l.map MEnt.obj).eraseIdx j = (l.eraseIdx j).map MEnt.obj := by
  induction l generalizing j with
  | nil => simp
  | cons e l ih => cases j <;> simp_all
theorem map_modify (g : MapEntry → MapEntry) (g' : MEnt → MEnt) : ∀ (l : List MEnt) (j : Nat) (hj : j < l.length), g l[j].obj = (g' l[j]).obj → (l.map MEnt.obj).modify j g = (l.modify j g').map MEnt.obj
  | e :: l, 0, _, h => by simpa using h
  | e :: l, j + 1, hj, h => by
    have := map_modify g g' l j (by simpa using hj) (by simpa using h)
    simp [this]

theorem erase_obj (l : List MEnt) (j : Nat) : (l.map MEnt.obj).toArray.eraseIdxIfInBounds j = ((l.eraseIdx j).map MEnt.obj).toArray := by
  apply Array.toList_inj.1
  rw [Array.toList_eraseIdxIfInBounds]
  simp only
  induction l generalizing j with
  | nil => simp
  | cons e l ih => cases j <;> simp_all

theorem run_lookup (w : World) (m : Nat) (l : List MEnt) (clock : Nat) (hm : w.heap[m]? = some (mapObj l clock)) (hl : MapOk l clock) (r c : Int) (hr : 0 ≤ r ∧ r ≤ 1000) (hc : 0 ≤ c ∧ c ≤ 1000) :
    (Instr.lookup 119 (.map (some m)) (kv r c) false).run Try.prog w = .ok (sv (lookE l r c).1 (lookE l r c).2.1 (lookE l r c).2.2.1 (lookE l r c).2.2.2) w := by
  obtain ⟨lx, hx⟩ := key30 r c hr hc
  have h1 := fun em => law30.check w em hx
  have h2 := run_find w l clock hl r c hr hc
  unfold mapObj at hm
  have hg : (getObj m).run Try.prog w = .ok (.map (l.map MEnt.obj).toArray clock) w := by simp [getObj, Sem.run, hm]
  have hs : ∀ o, (setObj m o).run Try.prog w = .ok () (setBlock w m o) := fun o => by simp [setObj, Sem.run, hm, setBlock]
  rw [lookE, find?_idx]
  cases hf : l.findIdx? (MEnt.is r c) with
  | none =>
    rw [hf] at h2
    simp [Instr.lookup, run_underlying Try.underlying119, hg, h1, h2, zero171, sv]
  | some j =>
    have hj := (List.findIdx?_eq_some_iff_getElem.1 hf).1
    rw [hf] at h2
    simp [hj] at h2
    simp [Instr.lookup, run_underlying Try.underlying119, hg, h1, h2, zero171, hj]

theorem run_delete (w : World) (m : Nat) (l : List MEnt) (clock : Nat) (ty : TypeId) (hm : w.heap[m]? = some (mapObj l clock)) (hl : MapOk l clock) (r c : Int) (hr : 0 ≤ r ∧ r ≤ 1000) (hc : 0 ≤ c ∧ c ≤ 1000) :
    (Builtin.delete_ #[119, 32] ty #[.map (some m), kv r c]).run Try.prog w =
      .ok (.tuple #[]) (setBlock w m (mapObj (match l.findIdx? (MEnt.is r c) with | some j => l.eraseIdx j | none => l) clock)) := by
  obtain ⟨lx, hx⟩ := key30 r c hr hc
  have h1 := fun em => law30.check w em hx
  have h2 := run_find w l clock hl r c hr hc
  unfold mapObj at hm
  have hg : (getObj m).run Try.prog w = .ok (.map (l.map MEnt.obj).toArray clock) w := by simp [getObj, Sem.run, hm]
  have hs : ∀ o, (setObj m o).run Try.prog w = .ok () (setBlock w m o) := fun o => by simp [setObj, Sem.run, hm, setBlock]
  cases hf : l.findIdx? (MEnt.is r c) with
  | none =>
    rw [hf] at h2
    simp [Builtin.delete_, run_underlying Try.underlying119, hg, hs, h1, h2, mapObj]
  | some j =>
    have hj := (List.findIdx?_eq_some_iff_getElem.1 hf).1
    rw [hf] at h2
    simp [hj] at h2
    simp [Builtin.delete_, run_underlying Try.underlying119, hg, hs, h1, h2, mapObj, hj]
    rw [map_erase]

theorem run_update (w : World) (m : Nat) (l : List MEnt) (clock : Nat) (hm : w.heap[m]? = some (mapObj l clock)) (hl : MapOk l clock) (r c s p k u : Int) (hr : 0 ≤ r ∧ r ≤ 1000) (hc : 0 ≤ c ∧ c ≤ 1000) :
    (Instr.mapUpdate 119 (.map (some m)) (kv r c) (sv s p k u)).run Try.prog w =
      .ok () (match l.findIdx? (MEnt.is r c) with
        | some j => setBlock w m (mapObj (l.modify j fun e => ⟨e.born, e.r, e.c, s, p, k, u⟩) clock)
        | none => setBlock w m (mapObj (l ++ [⟨clock, r, c, s, p, k, u⟩]) (clock + 1))) := by
  obtain ⟨lx, hx⟩ := key30 r c hr hc
  have h1 := fun em => law30.check w em hx
  have h2 := run_find w l clock hl r c hr hc
  have h3 := law30.stays w hx
  unfold mapObj at hm
  have hg : (getObj m).run Try.prog w = .ok (.map (l.map MEnt.obj).toArray clock) w := by simp [getObj, Sem.run, hm]
  have hs : ∀ o, (setObj m o).run Try.prog w = .ok () (setBlock w m o) := fun o => by simp [setObj, Sem.run, hm, setBlock]
  cases hf : l.findIdx? (MEnt.is r c) with
  | none =>
    rw [hf] at h2
    simp [Instr.mapUpdate, run_underlying Try.underlying119, hg, hs, h1, h2, mapObj, MEnt.obj]
  | some j =>
    have hj := (List.findIdx?_eq_some_iff_getElem.1 hf)
    obtain ⟨hj, hk, _⟩ := hj
    simp [MEnt.is] at hk
    rw [hf] at h2
    simp [hj] at h2
    have hk' : (l[j]).obj.key = kv r c := by simp [MEnt.obj, hk]
    simp [Instr.mapUpdate, run_underlying Try.underlying119, hg, hs, h1, h2, mapObj, hj, hk', h3]
    rw [map_modify _ (fun e => ⟨e.born, e.r, e.c, s, p, k, u⟩) l j hj (by simp [MEnt.obj, hk])]
end Go.Proofs.Ytlcbemcamdafjaa
