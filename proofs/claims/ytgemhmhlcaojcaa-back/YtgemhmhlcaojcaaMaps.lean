import Derived.Test.YtgemhmhlcaojcaaBase
import Derived.WideKeyArgs
import Derived.DeepKeys4
import Derived.MapViews
/- The map of seats by their places: what a look-up, a store and a delete do to a list of entries. -/
namespace Go.Proofs.Ytgemhmhlcaojcaa
open Go.RowKit Go.WideMaps
open Go.ChangeMaps (setBlock)
set_option linter.unusedVariables false
set_option linter.unusedSimpArgs false
set_option maxRecDepth 100000

theorem laidOut : laidOutB Try.prog = true := by kernel_rfl
theorem law30 : KeyLaw Try.prog 32 := deep_law_laid laidOut (m := 2) (by omega) (of_decide_eq_true (by kernel_rfl)) (by kernel_rfl) (by rw [Try.underlying32])

/-- A place, a seat, as values. -/
def kv (r c : Int) : Value := .agg #[.int .i64 r, .int .i64 c]
def sv (s p k u : Int) : Value := .agg #[.int .i64 s, .int .i64 p, .int .i64 k, .int .i64 u]

theorem key30 (r c : Int) (hr : 0 ≤ r ∧ r ≤ 1000) (hc : 0 ≤ c ∧ c ≤ 1000) : ∃ l, keyOf Try.prog 32 (kv r c) = some l := by
  have w1 : (Lit.int .i64 r).wf = true := by simp [Lit.wf, IntKind.min, IntKind.max, IntKind.signed, IntKind.bits]; omega
  have w2 : (Lit.int .i64 c).wf = true := by simp [Lit.wf, IntKind.min, IntKind.max, IntKind.signed, IntKind.bits]; omega
  have hk : Try.prog.keyType 32 = true := by kernel_rfl
  have c30 : Try.prog.cellsOf 32 = 2 := by kernel_rfl
  have c3 : Try.prog.cellsOf 3 = 1 := by kernel_rfl
  have ts : ∃ n, Try.prog.types.size + 1 = n + 2 := ⟨Try.prog.types.size - 1, by have : 0 < Try.prog.types.size := of_decide_eq_true (by kernel_rfl); omega⟩
  obtain ⟨n, hn⟩ := ts
  apply Option.isSome_iff_exists.1
  unfold keyOf
  rw [Try.underlying32, hn]
  simp [hk, kv, Value.formed, Try.underlying32, c30, c3, Program.keyLits, Try.underlying3, w1, w2, Value.cells]

/-- One entry: when it came, its place, its seat. -/
structure MEnt where
  born : Nat
  r : Int
  c : Int
  s : Int
  p : Int
  k : Int
  u : Int

def MEnt.obj (e : MEnt) : MapEntry := ⟨kv e.r e.c, sv e.s e.p e.k e.u, e.born⟩
def mapObj (l : List MEnt) (clock : Nat) : Obj := .map (l.map MEnt.obj).toArray clock
/-- Is this the entry of the place? -/
def MEnt.is (r c : Int) (e : MEnt) : Bool := e.r == r && e.c == c

/-- What holds of every list of entries: places apart, births apart and past. -/
structure MapOk (l : List MEnt) (clock : Nat) : Prop where
  keys : ∀ e ∈ l, 0 ≤ e.r ∧ e.r ≤ 1000 ∧ 0 ≤ e.c ∧ e.c ≤ 1000
  apart : l.Pairwise fun a b => ¬ (a.r = b.r ∧ a.c = b.c)
  births : l.Pairwise fun a b => a.born ≠ b.born
  past : ∀ e ∈ l, e.born < clock

theorem kv_inj {r c r' c' : Int} : kv r c = kv r' c' ↔ r = r' ∧ c = c' := by
  constructor
  · intro h
    simp only [kv, Value.agg.injEq] at h
    simp at h
    exact h
  · rintro ⟨rfl, rfl⟩; rfl

theorem find_of {l : List MEnt} (hp : l.Pairwise fun a b => ¬ (a.r = b.r ∧ a.c = b.c)) {j : Nat} (hj : j < l.length) {r c : Int} (h : l[j].r = r ∧ l[j].c = c) : l.findIdx? (MEnt.is r c) = some j := by
  rw [List.findIdx?_eq_some_iff_getElem]
  refine ⟨hj, by simp [MEnt.is, h.1, h.2], fun i hi => ?_⟩
  have := (List.pairwise_iff_getElem.1 hp) i j (by omega) hj hi
  simp only [MEnt.is, Bool.and_eq_true, beq_iff_eq]
  rintro ⟨h1, h2⟩
  exact this ⟨by rw [h1, h.1], by rw [h2, h.2]⟩

/-- findKey, over such a list. -/
theorem run_find (w : World) (l : List MEnt) (clock : Nat) (hl : MapOk l clock) (r c : Int) (hr : 0 ≤ r ∧ r ≤ 1000) (hc : 0 ≤ c ∧ c ≤ 1000) :
    (Instr.findKey 32 (kv r c) (l.map MEnt.obj)).run Try.prog w = .ok ((l.findIdx? (MEnt.is r c)).map fun j => (j, (l[j]?.map fun e => sv e.s e.p e.k e.u).getD undef)) w := by
  obtain ⟨lx, hx⟩ := key30 r c hr hc
  rcases law30.find w hx (l.map MEnt.obj) (fun e he => by
    obtain ⟨m, hm, rfl⟩ := List.mem_map.1 he
    obtain ⟨a, b, c', d⟩ := hl.keys m hm
    exact key30 m.r m.c ⟨a, b⟩ ⟨c', d⟩) with ⟨h, hn⟩ | ⟨j, e, h, hj, hk⟩
  · rw [h]
    have : l.findIdx? (MEnt.is r c) = none := by
      rw [List.findIdx?_eq_none_iff]
      intro e he
      have := hn _ (List.mem_map_of_mem he)
      simp only [MEnt.is, Bool.and_eq_false_iff, beq_eq_false_iff_ne, ne_eq]
      by_cases h1 : e.r = r
      · right; intro h2
        exact this (kv_inj.2 ⟨h1, h2⟩)
      · left; exact h1
    rw [this]
    rfl
  · rw [h]
    rw [List.getElem?_map] at hj
    obtain ⟨m, hm, rfl⟩ := Option.map_eq_some_iff.1 hj
    obtain ⟨hj', rfl⟩ := List.getElem?_eq_some_iff.1 hm
    have hk' := kv_inj.1 hk
    rw [find_of hl.apart hj' hk']
    simp [hj', MEnt.obj]

/-- The seat that a look-up finds: an empty one, if there is no entry. -/
def lookE (l : List MEnt) (r c : Int) : Int × Int × Int × Int := ((l.find? (MEnt.is r c)).map fun e => (e.s, e.p, e.k, e.u)).getD (0, 0, 0, 0)

theorem find?_idx (l : List MEnt) (p : MEnt → Bool) : l.find? p = (l.findIdx? p).bind fun j => l[j]? := by
  induction l with
  | nil => rfl
  | cons e l ih =>
    simp only [List.find?_cons, List.findIdx?_cons]
    cases p e
    · simp only [Bool.false_eq_true, if_false, ih]
      cases l.findIdx? p <;> simp
    · simp

theorem zero171 (w : World) : (zeroValue 123).run Try.prog w = .ok (sv 0 0 0 0) w := by kernel_rfl

theorem map_erase (l : List MEnt) (j : Nat) : (l.map MEnt.obj).eraseIdx j = (l.eraseIdx j).map MEnt.obj := by
  induction l generalizing j with
  | nil => simp
  | cons e l ih => cases j <;> simp_all
theorem map_modify (g : MapEntry → MapEntry) (g' : MEnt → MEnt) : ∀ (l : List MEnt) (j : Nat) (hj : j < l.length), g l[j].obj = (g' l[j]).obj → (l.map MEnt.obj).modify j g = (l.modify j g').map MEnt.obj
  | e :: l, 0, _, h => by simpa using h
  | e :: l, j + 1, hj, h => by
    have := map_modify g g' l j (by simpa using hj) (by simpa using h)
    simp [this]

theorem erase_obj (l : List MEnt) (j : Nat) : (l.map MEnt.obj).toArray.eraseIdxIfInBounds j = ((l.eraseIdx j).map MEnt.obj).toArray := by
  apply Array.toList_inj.1
  rw [Array.toList_eraseIdxIfInBounds]
  simp only
  induction l generalizing j with
  | nil => simp
  | cons e l ih => cases j <;> simp_all

theorem run_lookup (w : World) (m : Nat) (l : List MEnt) (clock : Nat) (hm : w.heap[m]? = some (mapObj l clock)) (hl : MapOk l clock) (r c : Int) (hr : 0 ≤ r ∧ r ≤ 1000) (hc : 0 ≤ c ∧ c ≤ 1000) :
    (Instr.lookup 102 (.map (some m)) (kv r c) false).run Try.prog w = .ok (sv (lookE l r c).1 (lookE l r c).2.1 (lookE l r c).2.2.1 (lookE l r c).2.2.2) w := by
  obtain ⟨lx, hx⟩ := key30 r c hr hc
  have h1 := fun em => law30.check w em hx
  have h2 := run_find w l clock hl r c hr hc
  unfold mapObj at hm
  have hg : (getObj m).run Try.prog w = .ok (.map (l.map MEnt.obj).toArray clock) w := by simp [getObj, Sem.run, hm]
  have hs : ∀ o, (setObj m o).run Try.prog w = .ok () (setBlock w m o) := fun o => by simp [setObj, Sem.run, hm, setBlock]
  rw [lookE, find?_idx]
  cases hf : l.findIdx? (MEnt.is r c) with
  | none =>
    rw [hf] at h2
    simp [Instr.lookup, run_underlying Try.underlying102, hg, h1, h2, zero171, sv]
  | some j =>
    have hj := (List.findIdx?_eq_some_iff_getElem.1 hf).1
    rw [hf] at h2
    simp [hj] at h2
    simp [Instr.lookup, run_underlying Try.underlying102, hg, h1, h2, zero171, hj]

theorem run_delete (w : World) (m : Nat) (l : List MEnt) (clock : Nat) (ty : TypeId) (hm : w.heap[m]? = some (mapObj l clock)) (hl : MapOk l clock) (r c : Int) (hr : 0 ≤ r ∧ r ≤ 1000) (hc : 0 ≤ c ∧ c ≤ 1000) :
    (Builtin.delete_ #[102, 32] ty #[.map (some m), kv r c]).run Try.prog w =
      .ok (.tuple #[]) (setBlock w m (mapObj (match l.findIdx? (MEnt.is r c) with | some j => l.eraseIdx j | none => l) clock)) := by
  obtain ⟨lx, hx⟩ := key30 r c hr hc
  have h1 := fun em => law30.check w em hx
  have h2 := run_find w l clock hl r c hr hc
  unfold mapObj at hm
  have hg : (getObj m).run Try.prog w = .ok (.map (l.map MEnt.obj).toArray clock) w := by simp [getObj, Sem.run, hm]
  have hs : ∀ o, (setObj m o).run Try.prog w = .ok () (setBlock w m o) := fun o => by simp [setObj, Sem.run, hm, setBlock]
  cases hf : l.findIdx? (MEnt.is r c) with
  | none =>
    rw [hf] at h2
    simp [Builtin.delete_, run_underlying Try.underlying102, hg, hs, h1, h2, mapObj]
  | some j =>
    have hj := (List.findIdx?_eq_some_iff_getElem.1 hf).1
    rw [hf] at h2
    simp [hj] at h2
    simp [Builtin.delete_, run_underlying Try.underlying102, hg, hs, h1, h2, mapObj, hj]
    rw [map_erase]

theorem run_update (w : World) (m : Nat) (l : List MEnt) (clock : Nat) (hm : w.heap[m]? = some (mapObj l clock)) (hl : MapOk l clock) (r c s p k u : Int) (hr : 0 ≤ r ∧ r ≤ 1000) (hc : 0 ≤ c ∧ c ≤ 1000) :
    (Instr.mapUpdate 102 (.map (some m)) (kv r c) (sv s p k u)).run Try.prog w =
      .ok () (match l.findIdx? (MEnt.is r c) with
        | some j => setBlock w m (mapObj (l.modify j fun e => ⟨e.born, e.r, e.c, s, p, k, u⟩) clock)
        | none => setBlock w m (mapObj (l ++ [⟨clock, r, c, s, p, k, u⟩]) (clock + 1))) := by
  obtain ⟨lx, hx⟩ := key30 r c hr hc
  have h1 := fun em => law30.check w em hx
  have h2 := run_find w l clock hl r c hr hc
  have h3 := law30.stays w hx
  unfold mapObj at hm
  have hg : (getObj m).run Try.prog w = .ok (.map (l.map MEnt.obj).toArray clock) w := by simp [getObj, Sem.run, hm]
  have hs : ∀ o, (setObj m o).run Try.prog w = .ok () (setBlock w m o) := fun o => by simp [setObj, Sem.run, hm, setBlock]
  cases hf : l.findIdx? (MEnt.is r c) with
  | none =>
    rw [hf] at h2
    simp [Instr.mapUpdate, run_underlying Try.underlying102, hg, hs, h1, h2, mapObj, MEnt.obj]
  | some j =>
    have hj := (List.findIdx?_eq_some_iff_getElem.1 hf)
    obtain ⟨hj, hk, _⟩ := hj
    simp [MEnt.is] at hk
    rw [hf] at h2
    simp [hj] at h2
    have hk' : (l[j]).obj.key = kv r c := by simp [MEnt.obj, hk]
    simp [Instr.mapUpdate, run_underlying Try.underlying102, hg, hs, h1, h2, mapObj, hj, hk', h3]
    rw [map_modify _ (fun e => ⟨e.born, e.r, e.c, s, p, k, u⟩) l j hj (by simp [MEnt.obj, hk])]
end Go.Proofs.Ytgemhmhlcaojcaa
