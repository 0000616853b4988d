import Derived.Test.YtlcbemcamdafjaaCbackStart
import Derived.Maps.RangeRun
import Derived.Test.YtlcbemcamdafjaaCbackBaseMaps
import Derived.ChangeKeysEq
import Derived.DeepKeys
/- Time passes for a flight: the map ranged over, whatever the order. -/
namespace Go.Proofs.Ytlcbemcamdafjaa
open Go.RowKit
open Go.ChangeMaps (setBlock)
open M
set_option linter.unusedVariables false
set_option linter.unusedSimpArgs false
set_option maxRecDepth 100000

/-- Is a seat to be given back at this time? -/
def due (now : Int) (s : Sea) : Bool := s.st == 1 && decide (s.un ≤ now)
def tickSeats (now : Int) (l : List Sea) : List Sea := l.map fun s => if due now s then s.freed else s

theorem idx_of {p : Pla} {l : List Sea} (h : Wf p l) {r c : Int} (hh : p.has r c = true) : ∃ i, ∃ hi : i < l.length, l[i].row = r ∧ l[i].col = c := by
  have h1 := Fli.wf.idx_lt h hh
  have h2 := Fli.wf.idx_place h hh
  exact ⟨p.idx r c, h1, h2⟩

/-- The seat of an entry. -/
theorem ent_seat {es : List MEnt} {clock : Nat} {p : Pla} {l : List Sea} (hok : MapOk es clock) (hrel : MapRel es p l) (hwf : Wf p l) {e : MEnt} (he : e ∈ es) :
    ∃ i, ∃ hi : i < l.length, l[i].row = e.r ∧ l[i].col = e.c ∧ l[i].st = e.s ∧ l[i].pa = e.p ∧ l[i].cl = e.k ∧ l[i].un = e.u := by
  obtain ⟨i, hi, h1, h2⟩ := idx_of hwf (hrel.ent e he).1
  have h3 := hrel.seat i hi
  rw [h1, h2, look_mem hok he] at h3
  simp only [Prod.mk.injEq] at h3
  exact ⟨i, hi, h1, h2, h3.1.symm, h3.2.1.symm, h3.2.2.1.symm, h3.2.2.2.symm⟩

/-- A seat that is not free has an entry. -/
theorem seat_ent {es : List MEnt} {p : Pla} {l : List Sea} (hrel : MapRel es p l) {i : Nat} (hi : i < l.length) (hs : l[i].st ≠ 0) :
    ∃ e ∈ es, e.r = l[i].row ∧ e.c = l[i].col ∧ e.s = l[i].st ∧ e.u = l[i].un := by
  have h3 := hrel.seat i hi
  unfold lookE at h3
  cases hf : es.find? (MEnt.is l[i].row l[i].col) with
  | none =>
    rw [hf] at h3
    simp at h3
    exact absurd h3.1.symm hs
  | some e =>
    rw [hf] at h3
    simp at h3
    have hk := is_true.1 (List.find?_some hf)
    exact ⟨e, List.mem_of_find?_eq_some hf, hk.1, hk.2, h3.1, h3.2.2.2⟩

/-- What has been done when the entries of 'seen' have come. -/
structure Passed (now : Int) (l l' : List Sea) (es : List MEnt) (seen : Array Nat) : Prop where
  len : l'.length = l.length
  each : ∀ i (h : i < l.length) (h' : i < l'.length), l'[i] = l[i] ∨ (due now l[i] = true ∧ l'[i] = l[i].freed)
  done : ∀ e ∈ es, e.born ∈ seen → ¬ (e.s = 1 ∧ e.u ≤ now)

theorem Passed.start (now : Int) (l : List Sea) (es : List MEnt) : Passed now l l es #[] := ⟨rfl, fun i h h' => .inl rfl, fun e _ h => by simp at h⟩

theorem Passed.keep {now : Int} {l l' : List Sea} {es : List MEnt} {seen : Array Nat} {clock : Nat} (h : Passed now l l' es seen) (hok : MapOk es clock) {e : MEnt} (he : e ∈ es) (hn : ¬ (e.s = 1 ∧ e.u ≤ now)) : Passed now l l' es (seen.push e.born) := by
  refine ⟨h.len, h.each, fun x hx hs => ?_⟩
  rcases Array.mem_push.1 hs with hs | hs
  · exact h.done x hx hs
  · have : x = e := by
      obtain ⟨i, hi, rfl⟩ := List.getElem_of_mem hx
      obtain ⟨j, hj, rfl⟩ := List.getElem_of_mem he
      have hp := List.pairwise_iff_getElem.1 hok.births
      rcases Nat.lt_trichotomy i j with h1 | h1 | h1
      · exact absurd hs (hp i j hi hj h1)
      · subst h1; rfl
      · exact absurd hs.symm (hp j i hj hi h1)
    rw [this]
    exact hn

theorem Passed.give {now : Int} {l l' : List Sea} {es : List MEnt} {seen : Array Nat} {clock : Nat} (h : Passed now l l' es seen) (hok : MapOk es clock) {e : MEnt} (he : e ∈ es) {i : Nat} (hi : i < l'.length) (hd : due now l'[i] = true) :
    Passed now l (l'.set i l'[i].freed) (dropE es e.r e.c) (seen.push e.born) := by
  refine ⟨by simp [h.len], fun j hj hj' => ?_, fun x hx hs => ?_⟩
  · have hj2 : j < l'.length := by simpa using hj'
    simp only [List.getElem_set]
    by_cases e1 : i = j
    · subst e1
      rw [if_pos rfl]
      rcases h.each i hj hi with h1 | ⟨h1, h2⟩
      · rw [h1] at hd ⊢
        exact .inr ⟨hd, rfl⟩
      · rw [h2] at hd
        simp [due, Sea.freed] at hd
    · rw [if_neg e1]
      exact h.each j hj hj2
  · have hx' := dropE_mem hx
    rcases Array.mem_push.1 hs with hs | hs
    · exact h.done x hx' hs
    · have hxe : x = e := by
        obtain ⟨i, hi, rfl⟩ := List.getElem_of_mem hx'
        obtain ⟨j, hj, rfl⟩ := List.getElem_of_mem he
        have hp := List.pairwise_iff_getElem.1 hok.births
        rcases Nat.lt_trichotomy i j with h1 | h1 | h1
        · exact absurd hs (hp i j hi hj h1)
        · subst h1; rfl
        · exact absurd hs.symm (hp j i hj hi h1)
      subst hxe
      have hl := look_mem (hok.drop x.r x.c) hx
      rw [look_drop hok] at hl
      simp at hl
      rintro ⟨h1, _⟩
      omega

theorem Passed.finish {now : Int} {l l' : List Sea} {es : List MEnt} {seen : Array Nat} {p : Pla} (h : Passed now l l' es seen) (hrel : MapRel es p l') (hall : ∀ e ∈ es, e.born ∈ seen) : l' = tickSeats now l := by
  apply List.ext_getElem (by simp [tickSeats, h.len])
  intro i hi hi2
  have hil : i < l.length := by rw [← h.len]; exact hi
  simp only [tickSeats, List.getElem_map]
  rcases h.each i hil hi with h1 | ⟨h1, h2⟩
  · have : due now l[i] = false := by
      cases hd : due now l[i] with
      | false => rfl
      | true =>
        exfalso
        simp only [due, Bool.and_eq_true, beq_iff_eq, decide_eq_true_eq] at hd
        obtain ⟨e, he, _, _, e3, e4⟩ := seat_ent hrel hi (by rw [h1]; omega)
        exact h.done e he (hall e he) ⟨by rw [e3, h1]; exact hd.1, by rw [e4, h1]; exact hd.2⟩
    rw [this, h1]
    rfl
  · rw [h1, h2]
    rfl

/-- How many entries are still to come. -/
def leftN (w : World) (m r : Nat) : Nat :=
  match w.heap[m]?, w.heap[r]? with
  | some (.map es _), some (.mapIter _ _ seen _) => (es.toList.filter fun e => !seen.contains e.born).length
  | _, _ => 0

theorem leftN_eq {w : World} {m r : Nat} {es : List MEnt} {clock : Nat} {bm : Option Nat} {s c : Nat} {seen : Array Nat} (hm : w.heap[m]? = some (mapObj es clock)) (hr : w.heap[r]? = some (.mapIter bm s seen c)) :
    leftN w m r = (es.filter fun e => !seen.contains e.born).length := by
  unfold leftN
  rw [hm, hr]
  simp only [mapObj]
  rw [List.filter_map, List.length_map]
  rfl

theorem filter_lt {α : Type} {p q : α → Bool} : ∀ {l l' : List α}, l'.Sublist l → (∀ x ∈ l, q x = true → p x = true) → (∃ x ∈ l, p x = true ∧ q x = false) → (l'.filter q).length < (l.filter p).length := by
  intro l l' hs hpq hx
  have h1 : (l'.filter q).length ≤ (l.filter q).length := (hs.filter q).length_le
  have h2 : (l.filter q).length < (l.filter p).length := by
    clear hs h1
    induction l with
    | nil => obtain ⟨x, hx, _⟩ := hx; simp at hx
    | cons a l ih =>
      have hle : (l.filter q).length ≤ (l.filter p).length := by
        rw [← List.countP_eq_length_filter, ← List.countP_eq_length_filter]
        exact List.countP_mono_left (fun x hx h => hpq x (List.mem_cons_of_mem _ hx) h)
      simp only [List.filter_cons]
      obtain ⟨x, hx, hp, hq⟩ := hx
      rcases List.mem_cons.1 hx with rfl | hx
      · rw [hp, hq]
        simp
        omega
      · have := ih (fun x hx h => hpq x (List.mem_cons_of_mem _ hx) h) ⟨x, hx, hp, hq⟩
        have ha := hpq a (List.mem_cons_self)
        cases h1 : q a <;> cases h2 : p a <;> simp_all <;> omega
  omega
end Go.Proofs.Ytlcbemcamdafjaa
/- Four numbers are compared with four. -/
namespace Go.Proofs.Ytlcbemcamdafjaa
open Go.RowKit
set_option linter.unusedVariables false
set_option maxRecDepth 100000

def same4 (a0 a1 a2 a3 b0 b1 b2 b3 : Int) : Bool := a0 == b0 && (a1 == b1 && (a2 == b2 && a3 == b3))

theorem part3 (xs : Array Value) (i : Nat) (v : Value) (h : xs[i]? = some v) (w : World) : (part 3 xs i).run Try.prog w = .ok v w := by
  unfold part
  simp [Sem.run_bind, isAgg, run_underlying Try.underlying3, h]

theorem eq_step (n : Nat) (is : List Nat) (xs ys : Array Value) (i : Nat) (x y : Int) (hx : xs[i * 1]? = some (.int .i64 x)) (hy : ys[i * 1]? = some (.int .i64 y)) (w : World) :
    (Op.eqItems (n + 1) 3 1 xs ys (i :: is)).run Try.prog w = if (x == y) = true then (Op.eqItems (n + 1) 3 1 xs ys is).run Try.prog w else .ok false w := by
  have r : (Op.equalIn (n + 1) 3 (.int .i64 x) (.int .i64 y)).run Try.prog w = .ok (x == y) w := run_equalIn_int w n 3 .i64 .i64 x y Try.underlying3
  simp only [Op.eqItems, Sem.run_bind, part3 _ _ _ hx, part3 _ _ _ hy, r, Result.andThen_ok]
  cases x == y
  · rfl
  · rfl

theorem eq4n (n : Nat) (a0 a1 a2 a3 b0 b1 b2 b3 : Int) (w : World) :
    (Op.equalIn (n + 2) 33 (.agg #[.int .i64 a0, .int .i64 a1, .int .i64 a2, .int .i64 a3]) (.agg #[.int .i64 b0, .int .i64 b1, .int .i64 b2, .int .i64 b3])).run Try.prog w = .ok (same4 a0 a1 a2 a3 b0 b1 b2 b3) w := by
  have hi : (Try.prog.info? 3).isSome = true := by kernel_rfl
  obtain ⟨i3, hi⟩ := Option.isSome_iff_exists.1 hi
  have c3 : Try.prog.cellsOf 3 = 1 := by kernel_rfl
  rw [run_equalIn_array w (n + 1) _ _ Try.underlying33 hi, c3]
  rw [show List.range 4 = [0, 1, 2, 3] from rfl]
  unfold same4
  rw [eq_step n _ _ _ 0 a0 b0 rfl rfl, eq_step n _ _ _ 1 a1 b1 rfl rfl, eq_step n _ _ _ 2 a2 b2 rfl rfl, eq_step n _ _ _ 3 a3 b3 rfl rfl]
  cases a0 == b0 <;> cases a1 == b1 <;> cases a2 == b2 <;> cases a3 == b3 <;> rfl
theorem eq40 (a0 a1 a2 a3 b0 b1 b2 b3 : Int) (w : World) :
    (Op.equalIn 9999 33 (.agg #[.int .i64 a0, .int .i64 a1, .int .i64 a2, .int .i64 a3]) (.agg #[.int .i64 b0, .int .i64 b1, .int .i64 b2, .int .i64 b3])).run Try.prog w = .ok (same4 a0 a1 a2 a3 b0 b1 b2 b3) w := eq4n 9997 ..
theorem eq41 (a0 a1 a2 a3 b0 b1 b2 b3 : Int) (w : World) :
    (Op.equalIn 10000 33 (.agg #[.int .i64 a0, .int .i64 a1, .int .i64 a2, .int .i64 a3]) (.agg #[.int .i64 b0, .int .i64 b1, .int .i64 b2, .int .i64 b3])).run Try.prog w = .ok (same4 a0 a1 a2 a3 b0 b1 b2 b3) w := eq4n 9998 ..
theorem guard40 (op : BinOp) (x y : Operand) (xs ys : Array Value) (w : World) : (eqGuard op 33 x y (.agg xs) (.agg ys)).run Try.prog w = .ok () w := by
  have h : Try.prog.eqGuardType Try.prog.depth 33 = false := by kernel_rfl
  unfold eqGuard
  cases op <;> simp [Sem.run, program, h]
theorem neq40 (a0 a1 a2 a3 b0 b1 b2 b3 : Int) (w : World) :
    (binOp .neq 33 (.agg #[.int .i64 a0, .int .i64 a1, .int .i64 a2, .int .i64 a3]) (.agg #[.int .i64 b0, .int .i64 b1, .int .i64 b2, .int .i64 b3])).run Try.prog w = .ok (.bool (!same4 a0 a1 a2 a3 b0 b1 b2 b3)) w := by
  simp only [binOp, Op.equal, Sem.run_bind]
  rw [show Op.maxDepth = 9998 + 2 from rfl, eq4n]
  rfl
theorem same4_self (a0 a1 a2 a3 : Int) : same4 a0 a1 a2 a3 a0 a1 a2 a3 = true := by simp [same4]
end Go.Proofs.Ytlcbemcamdafjaa
