import Derived.Test.YtlcbemcamdafjaaCfoldedModelMaps2
import Derived.Test.YtlcbemcamdafjaaCfoldedBaseMaps
/- The map of what a follower was told: its keys are arrays of a flight's and a class's number: what a look-up and a store do to a list of entries. -/
namespace Go.Proofs.Ytlcbemcamdafjaa
open Go.RowKit Go.WideMaps
open Go.ChangeMaps (setBlock)
set_option linter.unusedVariables false
set_option linter.unusedSimpArgs false
set_option maxRecDepth 100000

theorem lawF : KeyLaw Try.prog 145 := deep_law_laid laidOut (m := 2) (by omega) (of_decide_eq_true (by kernel_rfl)) (by kernel_rfl) (by rw [Try.underlying145])

theorem keyF (r c : Int) (hr : 0 ≤ r ∧ r ≤ 1000) (hc : 0 ≤ c ∧ c ≤ 1000) : ∃ l, keyOf Try.prog 145 (kv r c) = some l := by
  have w1 : (Lit.int .i64 r).wf = true := by simp [Lit.wf, IntKind.min, IntKind.max, IntKind.signed, IntKind.bits]; omega
  have w2 : (Lit.int .i64 c).wf = true := by simp [Lit.wf, IntKind.min, IntKind.max, IntKind.signed, IntKind.bits]; omega
  have hk : Try.prog.keyType 145 = true := by kernel_rfl
  have c30 : Try.prog.cellsOf 145 = 2 := by kernel_rfl
  have c3 : Try.prog.cellsOf 3 = 1 := by kernel_rfl
  have ts : ∃ n, Try.prog.types.size + 1 = n + 2 := ⟨Try.prog.types.size - 1, by have : 0 < Try.prog.types.size := of_decide_eq_true (by kernel_rfl); omega⟩
  obtain ⟨n, hn⟩ := ts
  apply Option.isSome_iff_exists.1
  unfold keyOf
  rw [Try.underlying145, hn]
  simp [hk, kv, Value.formed, Try.underlying145, c30, c3, Program.keyLits, Try.underlying3, w1, w2, Value.cells, List.range_succ]

/-- One entry: when it came, its flight, its class, what was told. -/
structure FEnt where
  born : Nat
  r : Int
  c : Int
  n : Int

def FEnt.obj (e : FEnt) : MapEntry := ⟨kv e.r e.c, .int .i64 e.n, e.born⟩
def folObj (l : List FEnt) (clock : Nat) : Obj := .map (l.map FEnt.obj).toArray clock
def FEnt.is (r c : Int) (e : FEnt) : Bool := e.r == r && e.c == c

structure FolOk (l : List FEnt) : Prop where
  keys : ∀ e ∈ l, 0 ≤ e.r ∧ e.r ≤ 1000 ∧ 0 ≤ e.c ∧ e.c ≤ 1000
  apart : l.Pairwise fun a b => ¬ (a.r = b.r ∧ a.c = b.c)

theorem fis_false {r c : Int} {e : FEnt} : FEnt.is r c e = false ↔ ¬ (e.r = r ∧ e.c = c) := by
  simp only [FEnt.is, Bool.and_eq_false_iff, beq_eq_false_iff_ne]
  by_cases h1 : e.r = r
  · simp [h1]
  · simp [h1]
theorem fis_true {r c : Int} {e : FEnt} : FEnt.is r c e = true ↔ (e.r = r ∧ e.c = c) := by
  simp [FEnt.is]

theorem ffind_of {l : List FEnt} (hp : l.Pairwise fun a b => ¬ (a.r = b.r ∧ a.c = b.c)) {j : Nat} (hj : j < l.length) {r c : Int} (h : l[j].r = r ∧ l[j].c = c) : l.findIdx? (FEnt.is r c) = some j := by
  rw [List.findIdx?_eq_some_iff_getElem]
  refine ⟨hj, by simp [FEnt.is, h.1, h.2], fun i hi => ?_⟩
  have := (List.pairwise_iff_getElem.1 hp) i j (by omega) hj hi
  simp only [FEnt.is, Bool.and_eq_true, beq_iff_eq]
  rintro ⟨h1, h2⟩
  exact this ⟨by rw [h1, h.1], by rw [h2, h.2]⟩

theorem run_findF (w : World) (l : List FEnt) (hl : FolOk l) (r c : Int) (hr : 0 ≤ r ∧ r ≤ 1000) (hc : 0 ≤ c ∧ c ≤ 1000) :
    (Instr.findKey 145 (kv r c) (l.map FEnt.obj)).run Try.prog w = .ok ((l.findIdx? (FEnt.is r c)).map fun j => (j, (l[j]?.map fun e => Value.int .i64 e.n).getD undef)) w := by
  obtain ⟨lx, hx⟩ := keyF r c hr hc
  rcases lawF.find w hx (l.map FEnt.obj) (fun e he => by
    obtain ⟨m, hm, rfl⟩ := List.mem_map.1 he
    obtain ⟨a, b, c', d⟩ := hl.keys m hm
    exact keyF m.r m.c ⟨a, b⟩ ⟨c', d⟩) with ⟨h, hn⟩ | ⟨j, e, h, hj, hk⟩
  · rw [h]
    have : l.findIdx? (FEnt.is r c) = none := by
      rw [List.findIdx?_eq_none_iff]
      intro e he
      have := hn _ (List.mem_map_of_mem he)
      simp only [FEnt.is, Bool.and_eq_false_iff, beq_eq_false_iff_ne, ne_eq]
      by_cases h1 : e.r = r
      · right; intro h2
        exact this (kv_inj.2 ⟨h1, h2⟩)
      · left; exact h1
    rw [this]
    rfl
  · rw [h]
    rw [List.getElem?_map] at hj
    obtain ⟨m, hm, rfl⟩ := Option.map_eq_some_iff.1 hj
    obtain ⟨hj', rfl⟩ := List.getElem?_eq_some_iff.1 hm
    have hk' := kv_inj.1 hk
    rw [ffind_of hl.apart hj' hk']
    simp [hj', FEnt.obj]

/-- What a follower was told of a class of a flight. -/
def lookF (l : List FEnt) (r c : Int) : Option Int := (l.find? (FEnt.is r c)).map FEnt.n

theorem ffind?_idx (l : List FEnt) (p : FEnt → Bool) : l.find? p = (l.findIdx? p).bind fun j => l[j]? := by
  induction l with
  | nil => rfl
  | cons e l ih =>
    simp only [List.find?_cons, List.findIdx?_cons]
    cases p e
    · simp only [Bool.false_eq_true, if_false, ih]
      cases l.findIdx? p <;> simp
    · simp

theorem zeroInt (w : World) : (zeroValue 3).run Try.prog w = .ok (.int .i64 0) w := by kernel_rfl

def toldV : Option Int → Value
  | none => .tuple #[.int .i64 0, .bool false]
  | some n => .tuple #[.int .i64 n, .bool true]

theorem run_lookupF (w : World) (m : Nat) (l : List FEnt) (clock : Nat) (hm : w.heap[m]? = some (folObj l clock)) (hl : FolOk l) (r c : Int) (hr : 0 ≤ r ∧ r ≤ 1000) (hc : 0 ≤ c ∧ c ≤ 1000) :
    (Instr.lookup 103 (.map (some m)) (kv r c) true).run Try.prog w = .ok (toldV (lookF l r c)) w := by
  obtain ⟨lx, hx⟩ := keyF r c hr hc
  have h1 := fun em => lawF.check w em hx
  have h2 := run_findF w l hl r c hr hc
  unfold folObj at hm
  have hg : (getObj m).run Try.prog w = .ok (.map (l.map FEnt.obj).toArray clock) w := by simp [getObj, Sem.run, hm]
  rw [lookF, ffind?_idx]
  cases hf : l.findIdx? (FEnt.is r c) with
  | none =>
    rw [hf] at h2
    simp [Instr.lookup, run_underlying Try.underlying103, hg, h1, h2, zeroInt, toldV]
  | some j =>
    have hj := (List.findIdx?_eq_some_iff_getElem.1 hf).1
    rw [hf] at h2
    simp [hj] at h2
    simp [Instr.lookup, run_underlying Try.underlying103, hg, h1, h2, zeroInt, hj, toldV]

/-- The list behind a store. -/
def putF (l : List FEnt) (clock : Nat) (r c n : Int) : List FEnt × Nat :=
  match l.findIdx? (FEnt.is r c) with
  | some j => (l.modify j fun e => ⟨e.born, e.r, e.c, n⟩, clock)
  | none => (l ++ [⟨clock, r, c, n⟩], clock + 1)
theorem putF_some {l : List FEnt} {clock : Nat} {r c n : Int} {j : Nat} (h : l.findIdx? (FEnt.is r c) = some j) : putF l clock r c n = (l.modify j fun e => ⟨e.born, e.r, e.c, n⟩, clock) := by
  unfold putF; rw [h]
theorem putF_none {l : List FEnt} {clock : Nat} {r c n : Int} (h : l.findIdx? (FEnt.is r c) = none) : putF l clock r c n = (l ++ [⟨clock, r, c, n⟩], clock + 1) := by
  unfold putF; rw [h]

theorem fmap_modify (g : MapEntry → MapEntry) (g' : FEnt → FEnt) : ∀ (l : List FEnt) (j : Nat) (hj : j < l.length), g l[j].obj = (g' l[j]).obj → (l.map FEnt.obj).modify j g = (l.modify j g').map FEnt.obj
  | e :: l, 0, _, h => by simpa using h
  | e :: l, j + 1, hj, h => by
    have := fmap_modify g g' l j (by simpa using hj) (by simpa using h)
    simp [this]

theorem run_updateF (w : World) (m : Nat) (l : List FEnt) (clock : Nat) (hm : w.heap[m]? = some (folObj l clock)) (hl : FolOk l) (r c n : Int) (hr : 0 ≤ r ∧ r ≤ 1000) (hc : 0 ≤ c ∧ c ≤ 1000) :
    (Instr.mapUpdate 103 (.map (some m)) (kv r c) (.int .i64 n)).run Try.prog w = .ok () (setBlock w m (folObj (putF l clock r c n).1 (putF l clock r c n).2)) := by
  obtain ⟨lx, hx⟩ := keyF r c hr hc
  have h1 := fun em => lawF.check w em hx
  have h2 := run_findF w l hl r c hr hc
  have h3 := lawF.stays w hx
  unfold folObj at hm
  have hg : (getObj m).run Try.prog w = .ok (.map (l.map FEnt.obj).toArray clock) w := by simp [getObj, Sem.run, hm]
  have hs : ∀ o, (setObj m o).run Try.prog w = .ok () (setBlock w m o) := fun o => by simp [setObj, Sem.run, hm, setBlock]
  cases hf : l.findIdx? (FEnt.is r c) with
  | none =>
    rw [hf] at h2
    rw [putF_none hf]
    simp [Instr.mapUpdate, run_underlying Try.underlying103, hg, hs, h1, h2, folObj, FEnt.obj]
  | some j =>
    have hj := (List.findIdx?_eq_some_iff_getElem.1 hf)
    obtain ⟨hj, hk, _⟩ := hj
    simp [FEnt.is] at hk
    rw [hf] at h2
    simp [hj] at h2
    have hk' : (l[j]).obj.key = kv r c := by simp [FEnt.obj, hk]
    rw [putF_some hf]
    simp [Instr.mapUpdate, run_underlying Try.underlying103, hg, hs, h1, h2, folObj, hj, hk', h3]
    rw [fmap_modify _ (fun e => ⟨e.born, e.r, e.c, n⟩) l j hj (by simp [FEnt.obj, hk])]

theorem fmem_modify {α : Type} {g : α → α} : ∀ {l : List α} {j : Nat} {x : α}, x ∈ l.modify j g → x ∈ l ∨ ∃ y ∈ l, x = g y := fun h => mem_modify h

theorem FolOk.nil : FolOk [] := ⟨fun _ h => by simp at h, List.Pairwise.nil⟩
theorem FolOk.put {l : List FEnt} (clock : Nat) (h : FolOk l) (r c n : Int) (hr : 0 ≤ r ∧ r ≤ 1000) (hc : 0 ≤ c ∧ c ≤ 1000) : FolOk (putF l clock r c n).1 := by
  cases hf : l.findIdx? (FEnt.is r c) with
  | some j =>
    rw [putF_some hf]
    refine ⟨fun e he => ?_, pairwise_modify (g := fun e : FEnt => ⟨e.born, e.r, e.c, n⟩) (fun a b x => x) (fun a b x => x) h.apart⟩
    rcases mem_modify he with he | ⟨y, hy, rfl⟩
    · exact h.keys e he
    · exact h.keys y hy
  | none =>
    rw [putF_none hf]
    rw [List.findIdx?_eq_none_iff] at hf
    refine ⟨fun e he => ?_, ?_⟩
    · rcases List.mem_append.1 he with he | he
      · exact h.keys e he
      · simp at he; subst he; exact ⟨hr.1, hr.2, hc.1, hc.2⟩
    · refine List.pairwise_append.2 ⟨h.apart, by simp, fun a ha b hb => ?_⟩
      simp at hb; subst hb
      exact fis_false.1 (hf a ha)

theorem ffind?_modify (g : FEnt → FEnt) (q : FEnt → Bool) : ∀ (l : List FEnt) (j : Nat), (∀ h : j < l.length, q l[j] = false ∧ q (g l[j]) = false) → (l.modify j g).find? q = l.find? q
  | [], _, _ => by simp
  | e :: l, 0, h => by
    have := h (by simp)
    simp at this
    simp [this.1, this.2]
  | e :: l, j + 1, h => by
    simp only [List.modify_succ_cons, List.find?_cons]
    rw [ffind?_modify g q l j (fun hj => by have := h (by simpa using hj); rwa [List.getElem_cons_succ] at this)]

theorem lookF_put {l : List FEnt} (clock : Nat) (h : FolOk l) (r c n r' c' : Int) : lookF (putF l clock r c n).1 r' c' = if r' = r ∧ c' = c then some n else lookF l r' c' := by
  cases hf : l.findIdx? (FEnt.is r c) with
  | none =>
    rw [putF_none hf]
    rw [List.findIdx?_eq_none_iff] at hf
    unfold lookF
    simp only [List.find?_append]
    by_cases hne : r' = r ∧ c' = c
    · rw [if_pos hne, hne.1, hne.2]
      rw [List.find?_eq_none.2 (fun e he => by rw [hf e he]; simp)]
      simp [FEnt.is]
    · rw [if_neg hne]
      have : FEnt.is r' c' ⟨clock, r, c, n⟩ = false := fis_false.2 (fun e => hne ⟨e.1.symm, e.2.symm⟩)
      simp [this]
  | some j =>
    rw [putF_some hf]
    obtain ⟨hj, hk, _⟩ := List.findIdx?_eq_some_iff_getElem.1 hf
    have hk := fis_true.1 hk
    have hp : (l.modify j fun e => (⟨e.born, e.r, e.c, n⟩ : FEnt)).Pairwise fun a b => ¬ (a.r = b.r ∧ a.c = b.c) := pairwise_modify (g := fun e : FEnt => ⟨e.born, e.r, e.c, n⟩) (fun a b x => x) (fun a b x => x) h.apart
    by_cases hne : r' = r ∧ c' = c
    · rw [if_pos hne, hne.1, hne.2]
      unfold lookF
      rw [ffind?_idx, ffind_of hp (j := j) (by simpa using hj) (by simpa using hk)]
      simp [hj]
    · rw [if_neg hne]
      unfold lookF
      rw [ffind?_modify _ _ l j (fun _ => ⟨fis_false.2 (fun e => hne ⟨by rw [← e.1, hk.1], by rw [← e.2, hk.2]⟩), fis_false.2 (fun e => hne ⟨by rw [← e.1]; exact hk.1, by rw [← e.2]; exact hk.2⟩)⟩)]
theorem lookF_nil (r c : Int) : lookF [] r c = none := rfl
end Go.Proofs.Ytlcbemcamdafjaa
/- Numbers that fit; a raw number is brought to one of n things; what a row that grows leaves alone. -/
namespace Go.Proofs.Ytlcbemcamdafjaa
open Go.RowKit
set_option linter.unusedVariables false
set_option maxRecDepth 100000
set_option maxHeartbeats 2000000

theorem wrap_id (x : Int) (h : -4611686018427387904 ≤ x) (h' : x ≤ 4611686018427387904) : IntKind.i64.wrap x = x := by
  simp [IntKind.wrap, IntKind.bits, IntKind.signed]
  omega
theorem wrap_fit (x : Int) (h : -9223372036854775808 ≤ x) (h' : x ≤ 9223372036854775807) : IntKind.i64.wrap x = x := by
  simp [IntKind.wrap, IntKind.signed, IntKind.bits]
  omega

theorem wrap_low (x : Int) : -9223372036854775808 ≤ IntKind.i64.wrap x ∧ IntKind.i64.wrap x ≤ 9223372036854775807 := by
  simp [IntKind.wrap, IntKind.signed, IntKind.bits]
  omega

/-- Which of n things a raw number speaks of. -/
def pickN (c n : Int) : Int := if c < 0 then (-(c + 1)) % n else c % n
theorem pickN_range (c n : Int) (hn : 0 < n) : 0 ≤ pickN c n ∧ pickN c n < n := by
  unfold pickN
  split
  · exact ⟨Int.emod_nonneg _ (by omega), Int.emod_lt_of_pos _ hn⟩
  · exact ⟨Int.emod_nonneg _ (by omega), Int.emod_lt_of_pos _ hn⟩

theorem Has.grown {w w' : World} {b : Nat} {cs : Array Value} {T : TypeId} {row : Option Nat} (h : Has w b cs T) (hg : w.grownBy w' row) (hne : some b ≠ row) : Has w' b cs T := by
  unfold Has; rw [hg.block b h.lt hne]; exact h
theorem slice_of_owns {w : World} {base : Nat} {e : TypeId} {size : Nat} {v : Value} {n : Nat} {xs : List Value} (h : w.ownsRow base e size v n xs) : ∃ a cap, v = .slice a n cap := by
  rcases h.2 with ⟨h1, h2⟩ | ⟨g, cap, cur, hv, _⟩
  · exact ⟨none, 0, by rw [h1, h2]⟩
  · exact ⟨_, cap, hv⟩
end Go.Proofs.Ytlcbemcamdafjaa
/- A flight's counts: one seat more or less; what is left, reckoned. -/
namespace Go.Proofs.Ytlcbemcamdafjaa
open Go.RowKit
open M
set_option linter.unusedVariables false
set_option linter.unusedSimpArgs false
set_option maxRecDepth 100000

theorem sold_any (n : Nat) (pa cl un : Int) (w : World) :
    Calls Try.prog 76 #[.agg #[.int .i64 n, .int .i64 pa, .int .i64 cl, .int .i64 un]] w fun e w' => e = .returned (.bool (decide (n = 1 ∨ n = 2))) ∧ Mod No w w' := by
  by_cases h1 : n = 1
  · subst h1
    go_enter Try.func76, Try.ntmps76
    go_wp2
    go_ret
    exact ⟨rfl, (Mod.refl _ _).alloc _⟩
  · have h1' : ((n : Int) == 1) = false := by simp; omega
    by_cases h2 : n = 2
    · subst h2
      go_enter Try.func76, Try.ntmps76
      go_wp2
      go_ret
      exact ⟨rfl, (Mod.refl _ _).alloc _⟩
    · have h2' : ((n : Int) == 2) = false := by simp; omega
      go_enter Try.func76, Try.ntmps76
      go_wp2
      go_ret
      exact ⟨by simp [h1, h2, h1', h2'], (Mod.refl _ _).alloc _⟩

/-- A store into the one block. -/
theorem Mod.at {a w : World} {b : Nat} (h : Mod (fun k => k = b) a w) (o : Nat) (v : Value) : Mod (fun k => k = b) a (w.setCell ⟨b, o, none⟩ v) := Mod.setCell (S := fun k => k = b) h (p := ⟨b, o, none⟩) (.inl rfl) v

/-- The counts, a seat more or less. -/
def tallied (cs : Array Value) (base n k : Nat) (x y times : Int) : Array Value :=
  if n = 1 ∨ n = 2 then (cs.setIfInBounds (base + n) (.int .i64 (x + times))).setIfInBounds (16 + k) (.int .i64 (y + times)) else cs.setIfInBounds (base + n) (.int .i64 (x + times))

theorem tally_core (b n k base : Nat) (cs : Array Value) (row col pa un front x y times : Int) (w : World) (h : Has w b cs 121) (h2 : cs[2]? = some (.int .i64 front))
    (hbase : (row ≤ front ∧ base = 8) ∨ (¬ row ≤ front ∧ base = 12)) (hn : n < 4) (hk : k < 4)
    (hx : cs[base + n]? = some (.int .i64 x)) (hy : cs[16 + k]? = some (.int .i64 y)) (bx : -100000 ≤ x ∧ x ≤ 100000) (by_ : -100000 ≤ y ∧ y ≤ 100000) (bt : -1 ≤ times ∧ times ≤ 1) :
    Calls Try.prog 77 #[.pointer (some ⟨b, 0, none⟩), .agg #[.int .i64 row, .int .i64 col], .agg #[.int .i64 n, .int .i64 pa, .int .i64 k, .int .i64 un], .int .i64 times] w fun e w' =>
      e = .returned (.tuple #[]) ∧ Mod (· = b) w w' ∧
        Has w' b (tallied cs base n k x y times) 121 := by
  have hlt := h.lt
  have c2 := h.cell 2
  have cx := h.cell (base + n)
  have cy := h.cell (16 + k)
  have hz := h.frozen
  rw [h2] at c2
  rw [hx] at cx
  rw [hy] at cy
  have H := hide h
  have w1 := wrap_id (x + times) (by omega) (by omega)
  have HY := hide hy
  clear h h2 hx hy
  have hn' : (n : Int) < 4 := by omega
  have hk' : (k : Int) < 4 := by omega
  rcases hbase with ⟨hr, rfl⟩ | ⟨hr, rfl⟩
  · go_enter Try.func77, Try.ntmps77
    go_wp2
    go_quiet (fail)
    go_wp2
    go_region
    go_wp2_with fail
    refine (sold_any n pa k un _).mono ?_
    rintro e w3 ⟨rfl, hm⟩
    have hb3 : Has w3 b (cs.setIfInBounds (8 + n) (.int .i64 (x + times))) 121 := hm.has (((((unhide H).alloc _).alloc _).drewN (nq + 1)).set (8 + n) _) (fun x => x)
    have hs0 : Has w3 (w.heap.size + 1) #[.int .i64 n, .int .i64 pa, .int .i64 k, .int .i64 un] 143 :=
      hm.has (Has.set_ne (Has.drewN (by have := Has.new (w.alloc (.cells #[.int .i64 row, .int .i64 col] 32)) #[.int .i64 n, .int .i64 pa, .int .i64 k, .int .i64 un] 143; rwa [World.size_alloc] at this) (nq + 1)) (by simp; omega) _) (fun x => x)
    have m3 : Mod (· = b) w w3 := ((((((Mod.refl _ w).alloc _).alloc _).drewN (nq + 1)).at (8 + n) _)).trans (hm.mono (fun _ _ x => x.elim))
    have y3 := hb3.cell (16 + k)
    have z3 := hb3.frozen
    have s3 := hs0.cell 2
    rw [Array.getElem?_setIfInBounds, if_neg (by omega), (unhide HY)] at y3
    simp only [List.getElem?_toArray, List.getElem?_cons_succ, List.getElem?_cons_zero] at s3
    have HB3 := hide hb3
    have M3 := hide m3
    clear hm hb3 hs0 m3 c2 cx cy hz w1
    by_cases hst : n = 1 ∨ n = 2
    · have hd : decide (n = 1 ∨ n = 2) = true := decide_eq_true hst
      rw [hd]
      have HST := hide hst
      clear hst hd
      have w2 := wrap_id (y + times) (by omega) (by omega)
      go_wp2_with fail
      go_region
      go_wp2
      go_end0
      refine ⟨rfl, ((unhide M3).at (16 + k) _).drew, ?_⟩
      unfold tallied
      rw [if_pos (unhide HST)]
      exact (unhide HB3).set (16 + k) _
    · have hd : decide (n = 1 ∨ n = 2) = false := decide_eq_false hst
      rw [hd]
      have HST := hide hst
      clear hst hd
      go_wp2
      go_end0
      refine ⟨rfl, unhide M3, ?_⟩
      unfold tallied
      rw [if_neg (unhide HST)]
      exact unhide HB3
  · go_enter Try.func77, Try.ntmps77
    go_wp2
    go_quiet (fail)
    go_wp2
    go_region
    go_wp2_with fail
    refine (sold_any n pa k un _).mono ?_
    rintro e w3 ⟨rfl, hm⟩
    have hb3 : Has w3 b (cs.setIfInBounds (12 + n) (.int .i64 (x + times))) 121 := hm.has (((((unhide H).alloc _).alloc _).drewN (nq + 1)).set (12 + n) _) (fun x => x)
    have hs0 : Has w3 (w.heap.size + 1) #[.int .i64 n, .int .i64 pa, .int .i64 k, .int .i64 un] 143 :=
      hm.has (Has.set_ne (Has.drewN (by have := Has.new (w.alloc (.cells #[.int .i64 row, .int .i64 col] 32)) #[.int .i64 n, .int .i64 pa, .int .i64 k, .int .i64 un] 143; rwa [World.size_alloc] at this) (nq + 1)) (by simp; omega) _) (fun x => x)
    have m3 : Mod (· = b) w w3 := ((((((Mod.refl _ w).alloc _).alloc _).drewN (nq + 1)).at (12 + n) _)).trans (hm.mono (fun _ _ x => x.elim))
    have y3 := hb3.cell (16 + k)
    have z3 := hb3.frozen
    have s3 := hs0.cell 2
    rw [Array.getElem?_setIfInBounds, if_neg (by omega), (unhide HY)] at y3
    simp only [List.getElem?_toArray, List.getElem?_cons_succ, List.getElem?_cons_zero] at s3
    have HB3 := hide hb3
    have M3 := hide m3
    clear hm hb3 hs0 m3 c2 cx cy hz w1
    by_cases hst : n = 1 ∨ n = 2
    · have hd : decide (n = 1 ∨ n = 2) = true := decide_eq_true hst
      rw [hd]
      have HST := hide hst
      clear hst hd
      have w2 := wrap_id (y + times) (by omega) (by omega)
      go_wp2_with fail
      go_region
      go_wp2
      go_end0
      refine ⟨rfl, ((unhide M3).at (16 + k) _).drew, ?_⟩
      unfold tallied
      rw [if_pos (unhide HST)]
      exact (unhide HB3).set (16 + k) _
    · have hd : decide (n = 1 ∨ n = 2) = false := decide_eq_false hst
      rw [hd]
      have HST := hide hst
      clear hst hd
      go_wp2
      go_end0
      refine ⟨rfl, unhide M3, ?_⟩
      unfold tallied
      rw [if_neg (unhide HST)]
      exact unhide HB3
end Go.Proofs.Ytlcbemcamdafjaa
