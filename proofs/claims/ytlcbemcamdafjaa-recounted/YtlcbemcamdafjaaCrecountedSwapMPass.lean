import Derived.Test.YtlcbemcamdafjaaCrecountedStart
import Derived.BigQuiet
import Derived.Handy
import Derived.Deep.QuietTactic
import Derived.Maps.RangeRun
/- Another plane: who stays, who goes where. Nothing of the program. -/
namespace Go.Proofs.Ytlcbemcamdafjaa
open M
set_option linter.unusedVariables false
set_option linter.unusedSimpArgs false

/-- How many seats are not free. -/
def nFull (l : List Sea) : Nat := l.countP fun s => s.st != 0
/-- A seat that stays is laid into the new plane. -/
def stayStep (q : Pla) (acc : List Sea) (s : Sea) : List Sea := if s.st ≠ 0 ∧ q.has s.row s.col = true then acc.set (q.idx s.row s.col) s else acc
def stay (q : Pla) (l : List Sea) : List Sea := l.foldl (stayStep q) (emptySeats q)
def homeless (q : Pla) (l : List Sea) : List Sea := l.filter fun s => s.st != 0 && !q.has s.row s.col
def firstFree (l : List Sea) : Nat := l.findIdx fun s => s.st == 0
/-- A seat at another place. -/
def Sea.at (s x : Sea) : Sea := ⟨x.row, x.col, s.st, s.pa, s.cl, s.un⟩
def reseatStep (acc : List Sea) (s : Sea) : List Sea := acc.set (firstFree acc) (Sea.at s (acc.getD (firstFree acc) noSea))
def swapSeats (q : Pla) (l : List Sea) : List Sea := (homeless q l).foldl reseatStep (stay q l)
/-- The flight's plane behind a Swap: its own limits. -/
def swapPla (p q : Pla) : Pla := ⟨q.rows, q.cols, q.front, p.l0, p.l1, p.l2, p.l3, nx p.ep⟩

theorem has_place {q : Pla} {r c r' c' : Int} (hc : 1 ≤ q.cols) (h : q.has r c = true) (h' : q.has r' c' = true) (e : q.idx r c = q.idx r' c') : r = r' ∧ c = c' := by
  simp only [Pla.has, decide_eq_true_eq] at h h'
  unfold Pla.idx at e
  have m1 : 0 ≤ (r - 1) * q.cols := Int.mul_nonneg (by omega) (by omega)
  have m2 : 0 ≤ (r' - 1) * q.cols := Int.mul_nonneg (by omega) (by omega)
  have e' : (c - 1) + (r - 1) * q.cols = (c' - 1) + (r' - 1) * q.cols := by omega
  have hd : ((c - 1) + (r - 1) * q.cols) / q.cols = ((c' - 1) + (r' - 1) * q.cols) / q.cols := by rw [e']
  rw [Int.add_mul_ediv_right _ _ (by omega), Int.add_mul_ediv_right _ _ (by omega), Int.ediv_eq_zero_of_lt (by omega) (by omega), Int.ediv_eq_zero_of_lt (by omega) (by omega)] at hd
  have hr : r = r' := by omega
  subst hr
  omega

theorem at_wf {s x : Sea} (h : s.wf) : (Sea.at s x).wf := ⟨h.s0, h.s1, h.c0, h.c1, h.bare, h.pa, h.un, h.bk⟩

/-- Who has been laid, of the first i seats. -/
structure Stayed (q : Pla) (l acc : List Sea) (i : Nat) : Prop where
  wf : Wf q acc
  from_ : ∀ j (h : j < acc.length), acc[j].st ≠ 0 → ∃ k, ∃ hk : k < l.length, k < i ∧ l[k].row = acc[j].row ∧ l[k].col = acc[j].col
  count : nFull acc + (homeless q (l.take i)).length = nFull (l.take i)

theorem Stayed.start {p q : Pla} (l : List Sea) (h1 : q.sized = true) (h2 : q.limited = true) : Stayed q l (emptySeats q) 0 := by
  refine ⟨empty_wf h1 h2, fun j h hs => ?_, ?_⟩
  · simp [emptySeats] at hs
  · have : nFull (emptySeats q) = 0 := by
      unfold nFull
      rw [List.countP_eq_zero]
      intro s hs
      simp only [emptySeats, List.mem_map] at hs
      obtain ⟨i, _, rfl⟩ := hs
      simp
    rw [this]
    rfl

theorem take_succ {α : Type} (l : List α) (i : Nat) (h : i < l.length) : l.take (i + 1) = l.take i ++ [l[i]] := by
  rw [List.take_add_one, List.getElem?_eq_getElem h]
  rfl

theorem nFull_set {acc : List Sea} {j : Nat} (h : j < acc.length) (s : Sea) (h0 : acc[j].st = 0) (hs : s.st ≠ 0) : nFull (acc.set j s) = nFull acc + 1 := by
  have := countP_set (fun s : Sea => s.st != 0) acc j h s
  simp [h0, hs] at this
  unfold nFull
  omega

/-- A seat that stays has a free place in the new plane. -/
theorem Stayed.free {p q : Pla} {l acc : List Sea} {i : Nat} (h : Stayed q l acc i) (hwf : Wf p l) (hi : i < l.length) (hh : q.has l[i].row l[i].col = true) :
    ∃ hj : q.idx l[i].row l[i].col < acc.length, acc[q.idx l[i].row l[i].col].st = 0 ∧ acc[q.idx l[i].row l[i].col].row = l[i].row ∧ acc[q.idx l[i].row l[i].col].col = l[i].col := by
  have hj : q.idx l[i].row l[i].col < acc.length := Fli.wf.idx_lt h.wf hh
  have hp := Fli.wf.idx_place h.wf hh
  refine ⟨hj, ?_, hp⟩
  by_cases h0 : acc[q.idx l[i].row l[i].col].st = 0
  · exact h0
  · obtain ⟨k, hk, hki, e1, e2⟩ := h.from_ _ hj h0
    have := hwf.place_inj hk hi (by rw [e1]; exact hp.1) (by rw [e2]; exact hp.2)
    omega

theorem Stayed.step {p q : Pla} {l acc : List Sea} {i : Nat} (h : Stayed q l acc i) (hwf : Wf p l) (hi : i < l.length) : Stayed q l (stayStep q acc l[i]) (i + 1) := by
  have hs := hwf.seat _ (List.getElem_mem hi)
  have hcnt := h.count
  have hT : nFull (l.take (i + 1)) = nFull (l.take i) + (if l[i].st ≠ 0 then 1 else 0) := by
    rw [take_succ l i hi]
    unfold nFull
    rw [List.countP_append]
    by_cases h0 : l[i].st = 0 <;> simp [h0]
  have hH : (homeless q (l.take (i + 1))).length = (homeless q (l.take i)).length + (if l[i].st ≠ 0 ∧ ¬ q.has l[i].row l[i].col = true then 1 else 0) := by
    rw [take_succ l i hi]
    unfold homeless
    rw [List.filter_append, List.length_append]
    congr 1
    by_cases h0 : l[i].st = 0
    · simp [h0]
    · cases hb : q.has l[i].row l[i].col <;> simp [h0, hb]
  unfold stayStep
  by_cases hc : l[i].st ≠ 0 ∧ q.has l[i].row l[i].col = true
  · rw [if_pos hc]
    obtain ⟨hj, f0, fr, fc⟩ := h.free hwf hi hc.2
    refine ⟨h.wf.set hj hs fr.symm fc.symm, fun j hj' hst => ?_, ?_⟩
    · have hj2 : j < acc.length := by simpa using hj'
      simp only [List.getElem_set] at hst ⊢
      by_cases e : q.idx l[i].row l[i].col = j
      · rw [if_pos e]
        exact ⟨i, hi, by omega, rfl, rfl⟩
      · rw [if_neg e] at hst ⊢
        obtain ⟨k, hk, hki, e1, e2⟩ := h.from_ j hj2 hst
        exact ⟨k, hk, by omega, e1, e2⟩
    · rw [nFull_set hj l[i] f0 hc.1, hT, hH, if_pos hc.1, if_neg (fun x => x.2 hc.2)]
      omega
  · rw [if_neg hc]
    refine ⟨h.wf, fun j hj hst => ?_, ?_⟩
    · obtain ⟨k, hk, hki, e1, e2⟩ := h.from_ j hj hst
      exact ⟨k, hk, by omega, e1, e2⟩
    · rw [hT, hH]
      by_cases h0 : l[i].st = 0
      · rw [if_neg (by simp [h0]), if_neg (by simp [h0])]
        omega
      · have : ¬ q.has l[i].row l[i].col = true := fun x => hc ⟨h0, x⟩
        rw [if_pos h0, if_pos ⟨h0, this⟩]
        omega

theorem stay_take (q : Pla) (l : List Sea) (i : Nat) (hi : i < l.length) : stay q (l.take (i + 1)) = stayStep q (stay q (l.take i)) l[i] := by
  rw [take_succ l i hi]
  unfold stay
  rw [List.foldl_append]
  rfl
theorem homeless_take (q : Pla) (l : List Sea) (i : Nat) (hi : i < l.length) : homeless q (l.take (i + 1)) = homeless q (l.take i) ++ (if l[i].st ≠ 0 ∧ ¬ q.has l[i].row l[i].col = true then [l[i]] else []) := by
  rw [take_succ l i hi]
  unfold homeless
  rw [List.filter_append]
  congr 1
  by_cases h0 : l[i].st = 0
  · simp [h0]
  · cases hb : q.has l[i].row l[i].col <;> simp [h0, hb]

theorem stayed_take {p q : Pla} {l : List Sea} (hwf : Wf p l) (h1 : q.sized = true) (h2 : q.limited = true) : ∀ i, i ≤ l.length → Stayed q l (stay q (l.take i)) i
  | 0, _ => Stayed.start (p := p) l h1 h2
  | i + 1, h => by
    rw [stay_take q l i (by omega)]
    exact (stayed_take hwf h1 h2 i (by omega)).step hwf (by omega)

/-- What stands while the homeless find seats. -/
structure Reseat (q : Pla) (acc : List Sea) (n : Nat) : Prop where
  wf : Wf q acc
  room : nFull acc + n ≤ acc.length

theorem firstFree_lt {q : Pla} {acc : List Sea} {n : Nat} (h : Reseat q acc (n + 1)) : firstFree acc < acc.length := by
  unfold firstFree
  rw [List.findIdx_lt_length]
  by_cases hx : ∃ x ∈ acc, (x.st == 0) = true
  · exact hx
  · exfalso
    have : nFull acc = acc.length := by
      unfold nFull
      rw [List.countP_eq_length]
      intro x hx'
      have : ¬ (x.st == 0) = true := fun e => hx ⟨x, hx', e⟩
      simpa using this
    have := h.room
    omega

theorem firstFree_at {acc : List Sea} (h : firstFree acc < acc.length) : acc[firstFree acc].st = 0 := by
  have := List.findIdx_getElem (p := fun s : Sea => s.st == 0) (w := h)
  simp only [beq_iff_eq] at this
  exact this

theorem full_before {acc : List Sea} {j : Nat} (hj : j < firstFree acc) (hl : j < acc.length) : acc[j].st ≠ 0 := by
  have := List.not_of_lt_findIdx (p := fun s : Sea => s.st == 0) (xs := acc) (i := j) hj
  simpa using this

theorem Reseat.step {q : Pla} {acc : List Sea} {n : Nat} (h : Reseat q acc (n + 1)) {s : Sea} (hs : s.wf) (h0 : s.st ≠ 0) : Reseat q (reseatStep acc s) n := by
  have hl := firstFree_lt h
  have e : acc.getD (firstFree acc) noSea = acc[firstFree acc] := by
    rw [List.getD_eq_getElem?_getD, List.getElem?_eq_getElem hl]; rfl
  unfold reseatStep
  rw [e]
  refine ⟨h.wf.set hl (at_wf hs) rfl rfl, ?_⟩
  rw [nFull_set hl _ (firstFree_at hl) (by exact h0), List.length_set]
  have := h.room
  omega

theorem homeless_ok {p q : Pla} {l : List Sea} (hwf : Wf p l) : ∀ s ∈ homeless q l, s.wf ∧ s.st ≠ 0 := by
  intro s hs
  unfold homeless at hs
  rw [List.mem_filter] at hs
  refine ⟨hwf.seat s hs.1, ?_⟩
  have := hs.2
  simp only [Bool.and_eq_true] at this
  simpa using this.1

theorem reseat_start {p q : Pla} {l : List Sea} (hwf : Wf p l) (h1 : q.sized = true) (h2 : q.limited = true) (hn : ¬ q.rows * q.cols < (nFull l : Int)) : Reseat q (stay q l) (homeless q l).length := by
  have h := stayed_take hwf h1 h2 l.length (Nat.le_refl _)
  rw [List.take_length] at h
  refine ⟨h.wf, ?_⟩
  have hc := h.count
  rw [List.take_length] at hc
  have hl := h.wf.len
  simp only at hl
  omega

theorem reseat_all {q : Pla} : ∀ (hs : List Sea) (acc : List Sea), (∀ s ∈ hs, s.wf ∧ s.st ≠ 0) → Reseat q acc hs.length → Wf q (hs.foldl reseatStep acc)
  | [], acc, _, h => h.wf
  | s :: hs, acc, hw, h => by
    rw [List.foldl_cons]
    exact reseat_all hs _ (fun x hx => hw x (List.mem_cons_of_mem _ hx)) (Reseat.step h (hw s (List.mem_cons_self)).1 (hw s (List.mem_cons_self)).2)

theorem swap_wf {p q : Pla} {l : List Sea} (hwf : Wf p l) (h1 : q.sized = true) (h2 : q.limited = true) (hn : ¬ q.rows * q.cols < (nFull l : Int)) : Wf q (swapSeats q l) :=
  reseat_all _ _ (homeless_ok hwf) (reseat_start hwf h1 h2 hn)
end Go.Proofs.Ytlcbemcamdafjaa
/- How many seats there are; the place that has so many ahead of it. -/
namespace Go.Proofs.Ytlcbemcamdafjaa
open Go.RowKit
open Go.ChangeMaps (setBlock)
open M
set_option linter.unusedVariables false
set_option linter.unusedSimpArgs false
set_option maxRecDepth 100000

theorem size_walk (b : Nat) (cs : Array Value) (T : TypeId) (R C : Int) (w : World) (h : Has w b cs T) (h0 : cs[0]? = some (.int .i64 R)) (h1 : cs[1]? = some (.int .i64 C)) (hw : IntKind.i64.wrap (R * C) = R * C) :
    Calls Try.prog 55 #[.pointer (some ⟨b, 0, none⟩)] w fun e w' => e = .returned (.int .i64 (R * C)) ∧ Mod No w w' := by
  have c0 := h.cell 0
  have c1 := h.cell 1
  rw [h0] at c0
  rw [h1] at c1
  have hlt := h.lt
  clear h h0 h1
  go_enter Try.func55, Try.ntmps55
  go_wp2
  go_quiet (fail)
  go_wp2
  go_ret
  exact ⟨rfl, (Mod.refl _ _).drewN _⟩

theorem placeAt_walk (b : Nat) (cs : Array Value) (T : TypeId) (C a : Nat) (w : World) (h : Has w b cs T) (h1 : cs[1]? = some (.int .i64 (C : Int))) (hC : 1 ≤ C ∧ C ≤ 6) (ha : a ≤ 1000) :
    Calls Try.prog 56 #[.pointer (some ⟨b, 0, none⟩), .int .i64 (a : Int)] w fun e w' => e = .returned (.agg #[.int .i64 ((a : Int) / C + 1), .int .i64 ((a : Int) % C + 1)]) ∧ Mod No w w' := by
  have c1 := h.cell 1
  rw [h1] at c1
  have hlt := h.lt
  have d0 : (C : Int) ≠ 0 := by omega
  have t1 : Int.tdiv (a : Int) C = (a : Int) / C := Int.tdiv_eq_ediv_of_nonneg (by omega)
  have t2 : Int.tmod (a : Int) C = (a : Int) % C := Int.tmod_eq_emod_of_nonneg (by omega)
  have b1 : 0 ≤ (a : Int) / C := Int.ediv_nonneg (by omega) (by omega)
  have b2 : (a : Int) / C ≤ a := Int.ediv_le_self _ (by omega)
  have b3 : 0 ≤ (a : Int) % C := Int.emod_nonneg _ d0
  have b4 : (a : Int) % C < C := Int.emod_lt_of_pos _ (by omega)
  have w1 : IntKind.i64.wrap ((a : Int) / C) = (a : Int) / C := wrap_id _ (by omega) (by omega)
  have w2 : IntKind.i64.wrap ((a : Int) % C) = (a : Int) % C := wrap_id _ (by omega) (by omega)
  have w3 : IntKind.i64.wrap ((a : Int) / C + 1) = (a : Int) / C + 1 := wrap_id _ (by omega) (by omega)
  have w4 : IntKind.i64.wrap ((a : Int) % C + 1) = (a : Int) % C + 1 := wrap_id _ (by omega) (by omega)
  clear h h1
  go_enter Try.func56, Try.ntmps56
  go_wp2
  go_region
  all_goals go_wp2
  all_goals go_returns
  all_goals exact ⟨rfl, ((Mod.refl _ _).alloc _).drew⟩
end Go.Proofs.Ytlcbemcamdafjaa
/- Time passes for a flight: the map ranged over, whatever the order. -/
namespace Go.Proofs.Ytlcbemcamdafjaa
open Go.RowKit
open Go.ChangeMaps (setBlock)
open M
set_option linter.unusedVariables false
set_option linter.unusedSimpArgs false
set_option maxRecDepth 100000

/-- Is a seat to be given back at this time? -/
def due (now : Int) (s : Sea) : Bool := s.st == 1 && decide (s.un ≤ now)
def tickSeats (now : Int) (l : List Sea) : List Sea := l.map fun s => if due now s then s.freed else s

theorem idx_of {p : Pla} {l : List Sea} (h : Wf p l) {r c : Int} (hh : p.has r c = true) : ∃ i, ∃ hi : i < l.length, l[i].row = r ∧ l[i].col = c := by
  have h1 := Fli.wf.idx_lt h hh
  have h2 := Fli.wf.idx_place h hh
  exact ⟨p.idx r c, h1, h2⟩

/-- The seat of an entry. -/
theorem ent_seat {es : List MEnt} {clock : Nat} {p : Pla} {l : List Sea} (hok : MapOk es clock) (hrel : MapRel es p l) (hwf : Wf p l) {e : MEnt} (he : e ∈ es) :
    ∃ i, ∃ hi : i < l.length, l[i].row = e.r ∧ l[i].col = e.c ∧ l[i].st = e.s ∧ l[i].pa = e.p ∧ l[i].cl = e.k ∧ l[i].un = e.u := by
  obtain ⟨i, hi, h1, h2⟩ := idx_of hwf (hrel.ent e he).1
  have h3 := hrel.seat i hi
  rw [h1, h2, look_mem hok he] at h3
  simp only [Prod.mk.injEq] at h3
  exact ⟨i, hi, h1, h2, h3.1.symm, h3.2.1.symm, h3.2.2.1.symm, h3.2.2.2.symm⟩

/-- A seat that is not free has an entry. -/
theorem seat_ent {es : List MEnt} {p : Pla} {l : List Sea} (hrel : MapRel es p l) {i : Nat} (hi : i < l.length) (hs : l[i].st ≠ 0) :
    ∃ e ∈ es, e.r = l[i].row ∧ e.c = l[i].col ∧ e.s = l[i].st ∧ e.u = l[i].un := by
  have h3 := hrel.seat i hi
  unfold lookE at h3
  cases hf : es.find? (MEnt.is l[i].row l[i].col) with
  | none =>
    rw [hf] at h3
    simp at h3
    exact absurd h3.1.symm hs
  | some e =>
    rw [hf] at h3
    simp at h3
    have hk := is_true.1 (List.find?_some hf)
    exact ⟨e, List.mem_of_find?_eq_some hf, hk.1, hk.2, h3.1, h3.2.2.2⟩

/-- What has been done when the entries of 'seen' have come. -/
structure Passed (now : Int) (l l' : List Sea) (es : List MEnt) (seen : Array Nat) : Prop where
  len : l'.length = l.length
  each : ∀ i (h : i < l.length) (h' : i < l'.length), l'[i] = l[i] ∨ (due now l[i] = true ∧ l'[i] = l[i].freed)
  done : ∀ e ∈ es, e.born ∈ seen → ¬ (e.s = 1 ∧ e.u ≤ now)

theorem Passed.start (now : Int) (l : List Sea) (es : List MEnt) : Passed now l l es #[] := ⟨rfl, fun i h h' => .inl rfl, fun e _ h => by simp at h⟩

theorem Passed.keep {now : Int} {l l' : List Sea} {es : List MEnt} {seen : Array Nat} {clock : Nat} (h : Passed now l l' es seen) (hok : MapOk es clock) {e : MEnt} (he : e ∈ es) (hn : ¬ (e.s = 1 ∧ e.u ≤ now)) : Passed now l l' es (seen.push e.born) := by
  refine ⟨h.len, h.each, fun x hx hs => ?_⟩
  rcases Array.mem_push.1 hs with hs | hs
  · exact h.done x hx hs
  · have : x = e := by
      obtain ⟨i, hi, rfl⟩ := List.getElem_of_mem hx
      obtain ⟨j, hj, rfl⟩ := List.getElem_of_mem he
      have hp := List.pairwise_iff_getElem.1 hok.births
      rcases Nat.lt_trichotomy i j with h1 | h1 | h1
      · exact absurd hs (hp i j hi hj h1)
      · subst h1; rfl
      · exact absurd hs.symm (hp j i hj hi h1)
    rw [this]
    exact hn

theorem Passed.give {now : Int} {l l' : List Sea} {es : List MEnt} {seen : Array Nat} {clock : Nat} (h : Passed now l l' es seen) (hok : MapOk es clock) {e : MEnt} (he : e ∈ es) {i : Nat} (hi : i < l'.length) (hd : due now l'[i] = true) :
    Passed now l (l'.set i l'[i].freed) (dropE es e.r e.c) (seen.push e.born) := by
  refine ⟨by simp [h.len], fun j hj hj' => ?_, fun x hx hs => ?_⟩
  · have hj2 : j < l'.length := by simpa using hj'
    simp only [List.getElem_set]
    by_cases e1 : i = j
    · subst e1
      rw [if_pos rfl]
      rcases h.each i hj hi with h1 | ⟨h1, h2⟩
      · rw [h1] at hd ⊢
        exact .inr ⟨hd, rfl⟩
      · rw [h2] at hd
        simp [due, Sea.freed] at hd
    · rw [if_neg e1]
      exact h.each j hj hj2
  · have hx' := dropE_mem hx
    rcases Array.mem_push.1 hs with hs | hs
    · exact h.done x hx' hs
    · have hxe : x = e := by
        obtain ⟨i, hi, rfl⟩ := List.getElem_of_mem hx'
        obtain ⟨j, hj, rfl⟩ := List.getElem_of_mem he
        have hp := List.pairwise_iff_getElem.1 hok.births
        rcases Nat.lt_trichotomy i j with h1 | h1 | h1
        · exact absurd hs (hp i j hi hj h1)
        · subst h1; rfl
        · exact absurd hs.symm (hp j i hj hi h1)
      subst hxe
      have hl := look_mem (hok.drop x.r x.c) hx
      rw [look_drop hok] at hl
      simp at hl
      rintro ⟨h1, _⟩
      omega

theorem Passed.finish {now : Int} {l l' : List Sea} {es : List MEnt} {seen : Array Nat} {p : Pla} (h : Passed now l l' es seen) (hrel : MapRel es p l') (hall : ∀ e ∈ es, e.born ∈ seen) : l' = tickSeats now l := by
  apply List.ext_getElem (by simp [tickSeats, h.len])
  intro i hi hi2
  have hil : i < l.length := by rw [← h.len]; exact hi
  simp only [tickSeats, List.getElem_map]
  rcases h.each i hil hi with h1 | ⟨h1, h2⟩
  · have : due now l[i] = false := by
      cases hd : due now l[i] with
      | false => rfl
      | true =>
        exfalso
        simp only [due, Bool.and_eq_true, beq_iff_eq, decide_eq_true_eq] at hd
        obtain ⟨e, he, _, _, e3, e4⟩ := seat_ent hrel hi (by rw [h1]; omega)
        exact h.done e he (hall e he) ⟨by rw [e3, h1]; exact hd.1, by rw [e4, h1]; exact hd.2⟩
    rw [this, h1]
    rfl
  · rw [h1, h2]
    rfl

/-- How many entries are still to come. -/
def leftN (w : World) (m r : Nat) : Nat :=
  match w.heap[m]?, w.heap[r]? with
  | some (.map es _), some (.mapIter _ _ seen _) => (es.toList.filter fun e => !seen.contains e.born).length
  | _, _ => 0

theorem leftN_eq {w : World} {m r : Nat} {es : List MEnt} {clock : Nat} {bm : Option Nat} {s c : Nat} {seen : Array Nat} (hm : w.heap[m]? = some (mapObj es clock)) (hr : w.heap[r]? = some (.mapIter bm s seen c)) :
    leftN w m r = (es.filter fun e => !seen.contains e.born).length := by
  unfold leftN
  rw [hm, hr]
  simp only [mapObj]
  rw [List.filter_map, List.length_map]
  rfl

theorem filter_lt {α : Type} {p q : α → Bool} : ∀ {l l' : List α}, l'.Sublist l → (∀ x ∈ l, q x = true → p x = true) → (∃ x ∈ l, p x = true ∧ q x = false) → (l'.filter q).length < (l.filter p).length := by
  intro l l' hs hpq hx
  have h1 : (l'.filter q).length ≤ (l.filter q).length := (hs.filter q).length_le
  have h2 : (l.filter q).length < (l.filter p).length := by
    clear hs h1
    induction l with
    | nil => obtain ⟨x, hx, _⟩ := hx; simp at hx
    | cons a l ih =>
      have hle : (l.filter q).length ≤ (l.filter p).length := by
        rw [← List.countP_eq_length_filter, ← List.countP_eq_length_filter]
        exact List.countP_mono_left (fun x hx h => hpq x (List.mem_cons_of_mem _ hx) h)
      simp only [List.filter_cons]
      obtain ⟨x, hx, hp, hq⟩ := hx
      rcases List.mem_cons.1 hx with rfl | hx
      · rw [hp, hq]
        simp
        omega
      · have := ih (fun x hx h => hpq x (List.mem_cons_of_mem _ hx) h) ⟨x, hx, hp, hq⟩
        have ha := hpq a (List.mem_cons_self)
        cases h1 : q a <;> cases h2 : p a <;> simp_all <;> omega
  omega
end Go.Proofs.Ytlcbemcamdafjaa
