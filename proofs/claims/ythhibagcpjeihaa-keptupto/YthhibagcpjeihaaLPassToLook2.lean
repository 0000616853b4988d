import Derived.Test.YthhibagcpjeihaaLChangeToSwap1
import Derived.Maps.RangeRun
import Derived.Maps.RangeWalk
import Derived.Maps.OwnOps
import Derived.BigQuiet
import Derived.Deep.QuietTactic
import Derived.Test.YthhibagcpjeihaaLRd3ToSeat
import Derived.Deep.DeepCutAuto
namespace Go.Proofs.Ythhibagcpjeihaa
open Go.RowKit
open Go.ChangeMaps (setBlock)
open M
set_option linter.unusedVariables false
set_option linter.unusedSimpArgs false
set_option maxRecDepth 100000
def due (now : Int) (s : Sea) : Bool := s.st == 1 && decide (s.un ≤ now)
def tickSeats (now : Int) (l : List Sea) : List Sea := l.map fun s => if due now s then s.freed else s
theorem idx_of {p : Pla} {l : List Sea} (h : Wf p l) {r c : Int} (hh : p.has r c = true) : ∃ i, ∃ hi : i < l.length, l[i].row = r ∧ l[i].col = c := by
 have h1 := Fli.wf.idx_lt h hh
 have h2 := Fli.wf.idx_place h hh
 exact ⟨p.idx r c, h1, h2⟩
theorem ent_seat {es : List MEnt} {clock : Nat} {p : Pla} {l : List Sea} (hok : MapOk es clock) (hrel : MapRel es p l) (hwf : Wf p l) {e : MEnt} (he : e ∈ es) :
  ∃ i, ∃ hi : i < l.length, l[i].row = e.r ∧ l[i].col = e.c ∧ l[i].st = e.s ∧ l[i].pa = e.p ∧ l[i].cl = e.k ∧ l[i].un = e.u := by
 obtain ⟨i, hi, h1, h2⟩ := idx_of hwf (hrel.ent e he).1
 have h3 := hrel.seat i hi
 rw [h1, h2, look_mem hok he] at h3
 simp only [Prod.mk.injEq] at h3
 exact ⟨i, hi, h1, h2, h3.1.symm, h3.2.1.symm, h3.2.2.1.symm, h3.2.2.2.symm⟩
theorem seat_ent {es : List MEnt} {p : Pla} {l : List Sea} (hrel : MapRel es p l) {i : Nat} (hi : i < l.length) (hs : l[i].st ≠ 0) :
  ∃ e ∈ es, e.r = l[i].row ∧ e.c = l[i].col ∧ e.s = l[i].st ∧ e.u = l[i].un := by
 have h3 := hrel.seat i hi
 unfold lookE at h3
 cases hf : es.find? (MEnt.is l[i].row l[i].col) with
 | none =>
  rw [hf] at h3
  simp at h3
  exact absurd h3.1.symm hs
 | some e =>
  rw [hf] at h3
  simp at h3
  have hk := is_true.1 (List.find?_some hf)
  exact ⟨e, List.mem_of_find?_eq_some hf, hk.1, hk.2, h3.1, h3.2.2.2⟩
structure Passed (now : Int) (l l' : List Sea) (es : List MEnt) (seen : Array Nat) : Prop where
 len : l'.length = l.length
 each : ∀ i (h : i < l.length) (h' : i < l'.length), l'[i] = l[i] ∨ (due now l[i] = true ∧ l'[i] = l[i].freed)
 done : ∀ e ∈ es, e.born ∈ seen → ¬ (e.s = 1 ∧ e.u ≤ now)
theorem Passed.start (now : Int) (l : List Sea) (es : List MEnt) : Passed now l l es #[] := ⟨rfl, fun i h h' => .inl rfl, fun e _ h => by simp at h⟩
theorem Passed.keep {now : Int} {l l' : List Sea} {es : List MEnt} {seen : Array Nat} {clock : Nat} (h : Passed now l l' es seen) (hok : MapOk es clock) {e : MEnt} (he : e ∈ es) (hn : ¬ (e.s = 1 ∧ e.u ≤ now)) : Passed now l l' es (seen.push e.born) := by
 refine ⟨h.len, h.each, fun x hx hs => ?_⟩
 rcases Array.mem_push.1 hs with hs | hs
 ·exact h.done x hx hs
 ·have : x = e := by
   obtain ⟨i, hi, rfl⟩ := List.getElem_of_mem hx
   obtain ⟨j, hj, rfl⟩ := List.getElem_of_mem he
   have hp := List.pairwise_iff_getElem.1 hok.births
   rcases Nat.lt_trichotomy i j with h1 | h1 | h1
   ·exact absurd hs (hp i j hi hj h1)
   ·subst h1; rfl
   ·exact absurd hs.symm (hp j i hj hi h1)
  rw [this]
  exact hn
theorem Passed.give {now : Int} {l l' : List Sea} {es : List MEnt} {seen : Array Nat} {clock : Nat} (h : Passed now l l' es seen) (hok : MapOk es clock) {e : MEnt} (he : e ∈ es) {i : Nat} (hi : i < l'.length) (hd : due now l'[i] = true) :
  Passed now l (l'.set i l'[i].freed) (dropE es e.r e.c) (seen.push e.born) := by
 refine ⟨by simp [h.len], fun j hj hj' => ?_, fun x hx hs => ?_⟩
 ·have hj2 : j < l'.length := by simpa using hj'
  simp only [List.getElem_set]
  by_cases e1 : i = j
  ·subst e1
   rw [if_pos rfl]
   rcases h.each i hj hi with h1 | ⟨h1, h2⟩
   ·rw [h1] at hd ⊢
    exact .inr ⟨hd, rfl⟩
   ·rw [h2] at hd
    simp [due, Sea.freed] at hd
  ·rw [if_neg e1]
   exact h.each j hj hj2
 ·have hx' := dropE_mem hx
  rcases Array.mem_push.1 hs with hs | hs
  ·exact h.done x hx' hs
  ·have hxe : x = e := by
    obtain ⟨i, hi, rfl⟩ := List.getElem_of_mem hx'
    obtain ⟨j, hj, rfl⟩ := List.getElem_of_mem he
    have hp := List.pairwise_iff_getElem.1 hok.births
    rcases Nat.lt_trichotomy i j with h1 | h1 | h1
    ·exact absurd hs (hp i j hi hj h1)
    ·subst h1; rfl
    ·exact absurd hs.symm (hp j i hj hi h1)
   subst hxe
   have hl := look_mem (hok.drop x.r x.c) hx
   rw [look_drop hok] at hl
   simp at hl
   rintro ⟨h1, _⟩
   omega
theorem Passed.finish {now : Int} {l l' : List Sea} {es : List MEnt} {seen : Array Nat} {p : Pla} (h : Passed now l l' es seen) (hrel : MapRel es p l') (hall : ∀ e ∈ es, e.born ∈ seen) : l' = tickSeats now l := by
 apply List.ext_getElem (by simp [tickSeats, h.len])
 intro i hi hi2
 have hil : i < l.length := by rw [← h.len]; exact hi
 simp only [tickSeats, List.getElem_map]
 rcases h.each i hil hi with h1 | ⟨h1, h2⟩
 ·have : due now l[i] = false := by
   cases hd : due now l[i] with
   | false => rfl
   | true =>
    exfalso
    simp only [due, Bool.and_eq_true, beq_iff_eq, decide_eq_true_eq] at hd
    obtain ⟨e, he, _, _, e3, e4⟩ := seat_ent hrel hi (by rw [h1]; omega)
    exact h.done e he (hall e he) ⟨by rw [e3, h1]; exact hd.1, by rw [e4, h1]; exact hd.2⟩
  rw [this, h1]
  rfl
 ·rw [h1, h2]
  rfl
def leftN (w : World) (m r : Nat) : Nat :=
 match w.heap[m]?, w.heap[r]? with
 | some (.map es _), some (.mapIter _ _ seen _) => (es.toList.filter fun e => !seen.contains e.born).length
 | _, _ => 0
theorem leftN_eq {w : World} {m r : Nat} {es : List MEnt} {clock : Nat} {bm : Option Nat} {s c : Nat} {seen : Array Nat} (hm : w.heap[m]? = some (mapObj es clock)) (hr : w.heap[r]? = some (.mapIter bm s seen c)) :
  leftN w m r = (es.filter fun e => !seen.contains e.born).length := by
 unfold leftN
 rw [hm, hr]
 simp only [mapObj]
 rw [List.filter_map, List.length_map]
 rfl
theorem filter_lt {α : Type} {p q : α → Bool} : ∀ {l l' : List α}, l'.Sublist l → (∀ x ∈ l, q x = true → p x = true) → (∃ x ∈ l, p x = true ∧ q x = false) → (l'.filter q).length < (l.filter p).length := by
 intro l l' hs hpq hx
 have h1 : (l'.filter q).length ≤ (l.filter q).length := (hs.filter q).length_le
 have h2 : (l.filter q).length < (l.filter p).length := by
  clear hs h1
  induction l with
  | nil => obtain ⟨x, hx, _⟩ := hx; simp at hx
  | cons a l ih =>
   have hle : (l.filter q).length ≤ (l.filter p).length := by
    rw [← List.countP_eq_length_filter, ← List.countP_eq_length_filter]
    exact List.countP_mono_left (fun x hx h => hpq x (List.mem_cons_of_mem _ hx) h)
   simp only [List.filter_cons]
   obtain ⟨x, hx, hp, hq⟩ := hx
   rcases List.mem_cons.1 hx with rfl | hx
   ·rw [hp, hq]
    simp
    omega
   ·have := ih (fun x hx h => hpq x (List.mem_cons_of_mem _ hx) h) ⟨x, hx, hp, hq⟩
    have ha := hpq a (List.mem_cons_self)
    cases h1 : q a <;> cases h2 : p a <;> simp_all <;> omega
 omega
theorem run_range (w : World) (m clock : Nat) (es : List MEnt) (hm : w.heap[m]? = some (mapObj es clock)) :
  (Instr.range 136 (.map (some m))).run Try.prog w = .ok (.pointer (some ⟨w.heap.size, 0, none⟩)) (w.alloc (.mapIter (some m) clock #[] clock)) := by
 unfold mapObj at hm
 simp [Instr.range, run_underlying Try.underlying136, getObj, Sem.run, hm, newObj]
structure SameMem (w w1 : World) : Prop where
 heap : w1.heap = w.heap
 mod : Mod No w w1
section
variable {P : Program} (w : World) {ops : Array Oper} {rest : List Oper} {o : Oper} {a : Act} {Q : Exit → Act → World → Prop}
theorem wpList_next_map (hg : o.guard = none) (it : Operand) (hop : o.op = Op.next it false) (r m clock : Nat) (seen : Array Nat) (es : List MEnt)
  (hit : a.eval it = .pointer (some ⟨r, 0, none⟩)) (hr : w.heap[r]? = some (.mapIter (some m) clock seen clock)) (hm : w.heap[m]? = some (mapObj es clock)) (hok : MapOk es clock)
  (hDone : Hid (∀ e ∈ es, e.born ∈ seen) → wpList P ops Q rest (a.put o.dst (.tuple #[.bool false])) w)
  (hMore : ∀ e, Hid (e ∈ es) → Hid (e.born ∉ seen) → ∀ w1, SameMem w w1 → wpList P ops Q rest (a.put o.dst (.tuple #[.bool true, .agg #[.int .i64 e.r, .int .i64 e.c], .agg #[.int .i64 e.s, .int .i64 e.p, .int .i64 e.k, .int .i64 e.u]])) (setBlock w1 r (.mapIter (some m) clock (seen.push e.born) clock))) :
  wpList P ops Q (o :: rest) a w := by
 refine wpList_plain hg fun K' hK' => ?_
 unfold Oper.wp
 rcases run_next_at (P := P) w o.type r m clock clock seen (es.map MEnt.obj).toArray clock hr hm (fun x hx => by
  simp at hx
  obtain ⟨e, he, rfl⟩ := hx
  exact hok.past e he) (Nat.le_refl _) with ⟨h0, hrun⟩ | ⟨x, hx, w1, hw1, hrun⟩
 ·simp [execOp, hop, hit, hrun, Result.andThen]
  refine hK' _ _ (hDone fun e he => ?_)
  have h1 : e.obj ∉ leftOf (es.map MEnt.obj).toArray seen := by
   rw [Array.eq_empty_of_size_eq_zero h0]
   simp
  unfold leftOf at h1
  simp at h1
  have := h1 e he rfl
  exact this
 ·unfold leftOf at hx
  simp at hx
  obtain ⟨⟨e, he, rfl⟩, hns⟩ := hx
  simp [execOp, hop, hit, hrun, Result.andThen]
  exact hK' _ _ (hMore e he hns w1 (by rcases hw1 with rfl | rfl; exact ⟨rfl, Mod.refl _ _⟩; exact ⟨rfl, (Mod.refl _ _).drew⟩))
end
theorem put_free {b m clock : Nat} {p : Pla} {l : List Sea} {es : List MEnt} {w : World} (h : FlX w b p l m es clock) (hwf : Wf p l) (i : Nat) (hi : i < l.length) (r c : Int) (hr : l[i].row = r) (hc : l[i].col = c) :
  Calls Try.prog 102 #[.pointer (some ⟨b, 0, none⟩), .agg #[.int .i64 r, .int .i64 c], .agg #[.int .i64 0, .int .i64 0, .int .i64 0, .int .i64 0]] w fun e w' =>
   e = .returned (.tuple #[]) ∧ FlX w' b p (l.set i l[i].freed) m (dropE es r c) clock ∧ Mod (fun k => k = b ∨ k = m) w w' := by
 have := put_exact h hwf i hi l[i].freed (freed_wf _) rfl rfl
 subst hr
 subst hc
 simp only [nextE, Sea.freed, if_true] at this
 exact this
theorem dropE_sub (es : List MEnt) (r c : Int) : (dropE es r c).Sublist es := by
 unfold dropE
 split
 ·exact List.eraseIdx_sublist ..
 ·exact List.Sublist.refl _
def anyDue (now : Int) (l : List Sea) : Bool := l.any (due now)
def tickP (now : Int) (p : Pla) (l : List Sea) : Pla := if anyDue now l then p.next else p
theorem tick_cS (now : Int) (j : Nat) : ∀ l : List Sea, cS (tickSeats now l) j + (l.countP fun s => due now s && s.cl == (j : Int) : Nat) = cS l j
 | [] => rfl
 | s :: l => by
  have ih := tick_cS now j l
  simp only [cS, nSold, tickSeats] at ih ⊢
  simp only [List.map_cons, List.countP_cons]
  cases hd : due now s with
  | false => simp only [hd, if_false, Bool.false_and, Bool.false_eq_true]; omega
  | true =>
   have hs : s.st = 1 := by simp [due] at hd; exact hd.1
   have h1 : s.sold = true := by simp [Sea.sold, hs]
   have h2 : s.freed.sold = false := by simp [Sea.sold, Sea.freed]
   simp only [if_true, h1, h2, Bool.false_and, Bool.true_and, Bool.false_eq_true, if_false]
   cases s.cl == (j : Int) <;> simp only [Bool.false_eq_true, if_false, if_true] <;> omega
theorem tick_same {p : Pla} {l : List Sea} (hwf : Wf p l) (now : Int) :
  same4 (cS (tickSeats now l) 0) (cS (tickSeats now l) 1) (cS (tickSeats now l) 2) (cS (tickSeats now l) 3) (cS l 0) (cS l 1) (cS l 2) (cS l 3) = !anyDue now l := by
 have t0 := tick_cS now 0 l
 have t1 := tick_cS now 1 l
 have t2 := tick_cS now 2 l
 have t3 := tick_cS now 3 l
 have hz : anyDue now l = false → ∀ j : Nat, (l.countP fun s => due now s && s.cl == (j : Int)) = 0 := fun ha j => by
  rw [List.countP_eq_zero]
  intro s hs
  simp only [anyDue, List.any_eq_false] at ha
  have := ha s hs
  simp_all
 cases ha : anyDue now l with
 | false =>
  have z := hz ha
  rw [z 0] at t0
  rw [z 1] at t1
  rw [z 2] at t2
  rw [z 3] at t3
  simp only [same4, Bool.not_false]
  rw [← t0, ← t1, ← t2, ← t3]
  simp
 | true =>
  simp only [anyDue, List.any_eq_true] at ha
  obtain ⟨s, hs, hd⟩ := ha
  have hw := hwf.seat s hs
  have c0 := hw.c0
  have c1 := hw.c1
  have hpos : ∀ j : Nat, s.cl = (j : Int) → 1 ≤ l.countP fun s => due now s && s.cl == (j : Int) := fun j hj =>
   List.countP_pos_iff.2 ⟨s, hs, by simp [hd, hj]⟩
  have hc : s.cl = (0 : Nat) ∨ s.cl = (1 : Nat) ∨ s.cl = (2 : Nat) ∨ s.cl = (3 : Nat) := by omega
  simp only [same4, Bool.not_true]
  rcases hc with h | h | h | h
  ·have := hpos 0 h
   have : ¬ cS (tickSeats now l) 0 = cS l 0 := by omega
   simp [this]
  ·have := hpos 1 h
   have : ¬ cS (tickSeats now l) 1 = cS l 1 := by omega
   simp [this]
  ·have := hpos 2 h
   have : ¬ cS (tickSeats now l) 2 = cS l 2 := by omega
   simp [this]
  ·have := hpos 3 h
   have : ¬ cS (tickSeats now l) 3 = cS l 3 := by omega
   simp [this]
theorem FlX.sold {w : World} {b m clock : Nat} {p : Pla} {l : List Sea} {es : List MEnt} (h : FlX w b p l m es clock) :
  w.cell? ⟨b, 16, none⟩ = some (.int .i64 (cS l 0)) ∧ w.cell? ⟨b, 17, none⟩ = some (.int .i64 (cS l 1)) ∧ w.cell? ⟨b, 18, none⟩ = some (.int .i64 (cS l 2)) ∧ w.cell? ⟨b, 19, none⟩ = some (.int .i64 (cS l 3)) := by
 refine ⟨?_, ?_, ?_, ?_⟩ <;> (rw [h.has.cell]; rfl)
theorem FlX.ep {w : World} {b m clock : Nat} {p : Pla} {l : List Sea} {es : List MEnt} (h : FlX w b p l m es clock) : w.cell? ⟨b, 24, none⟩ = some (.int .i64 p.ep) ∧ w.frozen? ⟨b, 24, none⟩ = false ∧ b < w.heap.size := by
 refine ⟨?_, h.has.frozen 24, h.has.lt⟩
 rw [h.has.cell]; rfl
attribute [local go_sem] eq41
theorem pass_any {b m clock : Nat} {p : Pla} {l : List Sea} {es : List MEnt} {w : World} (h : FlX w b p l m es clock) (hwf : Wf p l) (now : Int) :
  Calls Try.prog 89 #[.agg #[.int .i64 now], .pointer (some ⟨b, 0, none⟩)] w fun e w' =>
   e = .returned (.tuple #[]) ∧ (∃ es', FlX w' b (tickP now p l) (tickSeats now l) m es' clock) ∧ Mod (fun k => k = b ∨ k = m) w w' := by
 have hmb := h.has.map_ne h.map
 have hlt := h.has.lt
 have hml := (Array.getElem?_eq_some_iff.1 h.map).1
 have c7 := h.has.cell 7
 rw [show (fcells p (.map (some m)) l)[7]? = some (.map (some m)) from rfl] at c7
 obtain ⟨q16, q17, q18, q19⟩ := h.sold
 have hr := run_range ((w.alloc (.cells #[.int .i64 now] 144)).alloc (.cells #[.int .i64 (cS l 0), .int .i64 (cS l 1), .int .i64 (cS l 2), .int .i64 (cS l 3)] 33)) m clock es (by have := Mod.map (((Mod.refl No w).alloc (.cells #[.int .i64 now] 144)).alloc (.cells #[.int .i64 (cS l 0), .int .i64 (cS l 1), .int .i64 (cS l 2), .int .i64 (cS l 3)] 33)) h.map (fun x => x); exact this)
 have H := hide h
 have HMB := hide hmb
 have HWF := hide hwf
 clear h hmb hwf
 go_enter Try.func89, Try.ntmps89
 go_wp2
 have HB0 := hide (show b ≠ w.heap.size ∧ m ≠ w.heap.size ∧ b ≠ w.heap.size + 2 ∧ m ≠ w.heap.size + 2 ∧ b ≠ w.heap.size + 1 ∧ m ≠ w.heap.size + 1 from ⟨by omega, by omega, by omega, by omega, by omega, by omega⟩)
 clear q16 q17 q18 q19
 go_loopw [18] (fun _ wr => ∃ l' es' seen, Hid (FlX wr b p l' m es' clock) ∧ Hid (Wf p l') ∧ Hid (Passed now l l' es' seen) ∧ Hid (wr.heap[w.heap.size + 2]? = some (.mapIter (some m) clock seen clock)) ∧ Hid (Mod (fun k => k = b ∨ k = m) w wr) ∧ Hid (Has wr w.heap.size #[.int .i64 now] 144) ∧ Hid (Has wr (w.heap.size + 1) #[.int .i64 (cS l 0), .int .i64 (cS l 1), .int .i64 (cS l 2), .int .i64 (cS l 3)] 33))
  (fun _ wr => leftN wr m (w.heap.size + 2))
 case atStart =>
  have m0 : Mod No w (((w.alloc (.cells #[.int .i64 now] 144)).alloc (.cells #[.int .i64 (cS l 0), .int .i64 (cS l 1), .int .i64 (cS l 2), .int .i64 (cS l 3)] 33)).alloc (.mapIter (some m) clock #[] clock)) := (((Mod.refl _ w).alloc _).alloc _).alloc _
  have hx := unhide H
  refine ⟨l, es, #[], ⟨m0.has hx.has (fun x => x), m0.map hx.map (fun x => x), hx.ok, hx.rel⟩, unhide HWF, Passed.start _ _ _, ?_, m0.mono (fun _ _ x => x.elim), ((Has.new w _ _).alloc _).alloc _, by have := (Has.new (w.alloc (.cells #[.int .i64 now] 144)) #[.int .i64 (cS l 0), .int .i64 (cS l 1), .int .i64 (cS l 2), .int .i64 (cS l 3)] 33).alloc (.mapIter (some m) clock #[] clock); rw [World.size_alloc] at this; exact this⟩
  have := heap_alloc_new ((w.alloc (.cells #[.int .i64 now] 144)).alloc (.cells #[.int .i64 (cS l 0), .int .i64 (cS l 1), .int .i64 (cS l 2), .int .i64 (cS l 3)] 33)) (.mapIter (some m) clock #[] clock)
  rw [World.size_alloc, World.size_alloc] at this
  exact this
 case round =>
  obtain ⟨l', es', seen, hx, hwf', hp, hit, hm, hbox, hold⟩ := hrel
  go_wp2_with (first | (at_next; refine wpList_next_map _ rfl _ rfl (w.heap.size + 2) m clock seen es' rfl (unhide hit) (unhide hx).map (unhide hx).ok ?_ ?_))
  ·intro HALL
   have hfin := (unhide hp).finish (unhide hx).rel (unhide HALL)
   have hsame := tick_same (unhide HWF) now
   rw [← hfin] at hsame
   obtain ⟨q16, q17, q18, q19⟩ := (unhide hx).sold
   obtain ⟨c24, z24, l24⟩ := (unhide hx).ep
   have cold := (unhide hold).cell
   have lold := (unhide hold).lt
   have wE := nx_eq p.ep
   have hbump := hide (unhide hx).bump
   have HX := hide (unhide hx)
   have HM := hide (unhide hm)
   have HF := hide hfin
   have ht : tickP now p l = if anyDue now l then p.next else p := rfl
   have HT := hide ht
   clear hx hm hp hit hbox hold hfin HALL hr ht hwf'
   cases ha : anyDue now l with
   | false =>
    rw [ha] at hsame HT
    have HA := hide ha
    clear ha
    simp only [Bool.not_false] at hsame
    go_wp2_with fail
    go_region
    all_goals go_wp2
    all_goals go_end0
    all_goals refine ⟨rfl, ⟨es', ?_⟩, (unhide HM).drew⟩
    all_goals rw [unhide HT, ← unhide HF]
    all_goals exact ⟨(unhide HX).has.drew, (unhide HX).map, (unhide HX).ok, (unhide HX).rel⟩
   | true =>
    rw [ha] at hsame HT
    have HA := hide ha
    clear ha
    simp only [Bool.not_true] at hsame
    have hx2 : FlX wr.drew b p l' m es' clock := ⟨(unhide HX).has.drew, (unhide HX).map, (unhide HX).ok, (unhide HX).rel⟩
    have HX2 := hide hx2.bump
    clear hx2
    go_wp2_with fail
    go_region
    all_goals go_wp2
    all_goals go_end0
    all_goals refine ⟨rfl, ⟨es', ?_⟩, ((unhide HM).drew).setCell (p := ⟨b, 24, none⟩) (.inl (.inl rfl)) _⟩
    all_goals rw [unhide HT, ← unhide HF]
    all_goals exact unhide HX2
  ·intro e he hns w1 hw1
   have hxx := unhide hx
   have b0 := unhide HB0
   have hml1 : m < wr.heap.size := (Array.getElem?_eq_some_iff.1 hxx.map).1
   have hrl : w.heap.size + 2 < wr.heap.size := (Array.getElem?_eq_some_iff.1 (unhide hit)).1
   have hm2 : Mod (fun k => k = w.heap.size + 2) wr (setBlock w1 (w.heap.size + 2) (.mapIter (some m) clock (seen.push e.born) clock)) := Mod.setBlock (S := fun k => k = w.heap.size + 2) (hw1.mod.mono (fun _ _ x => x.elim)) (.inl rfl) _
   have hx2 : FlX (setBlock w1 (w.heap.size + 2) (.mapIter (some m) clock (seen.push e.born) clock)) b p l' m es' clock := ⟨hm2.has hxx.has (fun e => b0.2.2.1 e), hm2.map hxx.map (fun e => b0.2.2.2.1 e), hxx.ok, hxx.rel⟩
   have hit2 : (setBlock w1 (w.heap.size + 2) (.mapIter (some m) clock (seen.push e.born) clock)).heap[w.heap.size + 2]? = some (.mapIter (some m) clock (seen.push e.born) clock) := setBlock_at (by rw [hw1.heap]; exact hrl) _
   have hbox2 := hm2.has (unhide hbox) (fun e => by omega)
   have hold2 := hm2.has (unhide hold) (fun e => by omega)
   have hleft : leftN (setBlock w1 (w.heap.size + 2) (.mapIter (some m) clock (seen.push e.born) clock)) m (w.heap.size + 2) < leftN wr m (w.heap.size + 2) := by
    rw [leftN_eq hx2.map hit2, leftN_eq hxx.map (unhide hit)]
    refine filter_lt (List.Sublist.refl _) (fun x _ hx => ?_) ⟨e, unhide he, ?_, ?_⟩
    ·simp at hx ⊢; exact hx.1
    ·simpa using unhide hns
    ·simp
   have hent := run_entry_at (P := Try.prog) (setBlock w1 (w.heap.size + 2) (.mapIter (some m) clock (seen.push e.born) clock)) (w.heap.size + 2) m clock seen (es'.map MEnt.obj).toArray clock e.obj hit2 hx2.map
    (by simp; exact ⟨e, unhide he, rfl⟩) (by
     have := hxx.ok.births
     simp only [List.map_map]
     rw [List.nodup_iff_pairwise_ne, List.pairwise_map]
     exact this)
   have hm3 := ((unhide hm).trans' (hm2) (fun i hi hl => by omega))
   have HX2 := hide hx2
   have HM3 := hide hm3
   have HIT2 := hide hit2
   have HBOX2 := hide hbox2
   have HOLD2 := hide hold2
   have HLEFT := hide hleft
   generalize hW2 : setBlock w1 (w.heap.size + 2) (.mapIter (some m) clock (seen.push e.born) clock) = w2 at *
   have c127 := hbox2.cell
   have hsz2 : w.heap.size + 2 < w2.heap.size := (Array.getElem?_eq_some_iff.1 hit2).1
   have hsz3 : w.heap.size < w2.heap.size := by omega
   clear hx2 hit2 hm3 hbox2 hm2 hleft hxx b0 hW2 hit hm hbox hx hml1 hrl hw1 hold hold2
   simp only [MEnt.obj, kv, sv] at hent
   obtain ⟨i, hil, er, ec, est, -, -, eun⟩ := ent_seat (unhide HX2).ok (unhide HX2).rel (unhide hwf') (unhide he)
   have HP := hide fun W (hW : FlX W b p l' m es' clock) => put_free hW (unhide hwf') i hil e.r e.c er ec
   have HD := hide (show due now l'[i] = true ↔ (e.s = 1 ∧ e.u ≤ now) from by simp [due, est, eun])
   clear er ec est eun
   have mA : Mod No w2 ((w2.alloc (.cells #[.int .i64 e.r, .int .i64 e.c] 32)).alloc (.cells #[.int .i64 e.s, .int .i64 e.p, .int .i64 e.k, .int .i64 e.u] 170)) := ((Mod.refl _ w2).alloc _).alloc _
   have MA := hide mA
   clear mA
   have keep : ¬ (e.s = 1 ∧ e.u ≤ now) → (∃ l' es' seen, Hid (FlX ((w2.alloc (.cells #[.int .i64 e.r, .int .i64 e.c] 32)).alloc (.cells #[.int .i64 e.s, .int .i64 e.p, .int .i64 e.k, .int .i64 e.u] 170)) b p l' m es' clock) ∧ Hid (Wf p l') ∧ Hid (Passed now l l' es' seen) ∧
     Hid (((w2.alloc (.cells #[.int .i64 e.r, .int .i64 e.c] 32)).alloc (.cells #[.int .i64 e.s, .int .i64 e.p, .int .i64 e.k, .int .i64 e.u] 170)).heap[w.heap.size + 2]? = some (.mapIter (some m) clock seen clock)) ∧
     Hid (Mod (fun k => k = b ∨ k = m) w ((w2.alloc (.cells #[.int .i64 e.r, .int .i64 e.c] 32)).alloc (.cells #[.int .i64 e.s, .int .i64 e.p, .int .i64 e.k, .int .i64 e.u] 170))) ∧ Hid (Has ((w2.alloc (.cells #[.int .i64 e.r, .int .i64 e.c] 32)).alloc (.cells #[.int .i64 e.s, .int .i64 e.p, .int .i64 e.k, .int .i64 e.u] 170)) w.heap.size #[.int .i64 now] 144) ∧ Hid (Has ((w2.alloc (.cells #[.int .i64 e.r, .int .i64 e.c] 32)).alloc (.cells #[.int .i64 e.s, .int .i64 e.p, .int .i64 e.k, .int .i64 e.u] 170)) (w.heap.size + 1) #[.int .i64 (cS l 0), .int .i64 (cS l 1), .int .i64 (cS l 2), .int .i64 (cS l 3)] 33)) ∧
     leftN ((w2.alloc (.cells #[.int .i64 e.r, .int .i64 e.c] 32)).alloc (.cells #[.int .i64 e.s, .int .i64 e.p, .int .i64 e.k, .int .i64 e.u] 170)) m (w.heap.size + 2) < leftN wr m (w.heap.size + 2) := fun hnd => by
    have mA := unhide MA
    have hx := unhide HX2
    have hit3 : ((w2.alloc (.cells #[.int .i64 e.r, .int .i64 e.c] 32)).alloc (.cells #[.int .i64 e.s, .int .i64 e.p, .int .i64 e.k, .int .i64 e.u] 170)).heap[w.heap.size + 2]? = some (.mapIter (some m) clock (seen.push e.born) clock) := by
     rw [mA.block _ hsz2 (fun x => x)]; exact unhide HIT2
    have hm3 := mA.map hx.map (fun x => x)
    refine ⟨⟨l', es', seen.push e.born, ⟨mA.has hx.has (fun x => x), hm3, hx.ok, hx.rel⟩, unhide hwf', (unhide hp).keep hx.ok (unhide he) hnd, hit3, (unhide HM3).trans (mA.mono (fun _ _ x => x.elim)), mA.has (unhide HBOX2) (fun x => x), mA.has (unhide HOLD2) (fun x => x)⟩, ?_⟩
    rw [leftN_eq hm3 hit3, ← leftN_eq hx.map (unhide HIT2)]
    exact unhide HLEFT
   have KEEP := hide keep
   clear keep
   by_cases hd1 : e.s = 1
   ·by_cases hd2 : e.u ≤ now
    ·have HDU := hide (And.intro hd1 hd2)
     have hd1' : (e.s == 1) = true := by simp [hd1]
     clear hd1
     go_wp2_with fail
     have mA := unhide MA
     have hx0 := unhide HX2
     have hxA : FlX ((w2.alloc (.cells #[.int .i64 e.r, .int .i64 e.c] 32)).alloc (.cells #[.int .i64 e.s, .int .i64 e.p, .int .i64 e.k, .int .i64 e.u] 170)) b p l' m es' clock := ⟨mA.has hx0.has (fun x => x), mA.map hx0.map (fun x => x), hx0.ok, hx0.rel⟩
     refine ((unhide HP) _ hxA).mono ?_
     rintro e9 w9 ⟨rfl, hx9, hm9⟩
     have hit9 : w9.heap[w.heap.size + 2]? = some (.mapIter (some m) clock (seen.push e.born) clock) := by
      have b0 := unhide HB0
      rw [hm9.block _ (by simp only [World.size_alloc]; omega) (by rintro (h | h); exact b0.2.2.1 h.symm; exact b0.2.2.2.1 h.symm), mA.block _ hsz2 (fun x => x)]
      exact unhide HIT2
     have hbox9 := hm9.has (mA.has (unhide HBOX2) (fun x => x)) (by
      have b0 := unhide HB0
      rintro (h | h); exact b0.1 h.symm; exact b0.2.1 h.symm)
     have hold9 := hm9.has (mA.has (unhide HOLD2) (fun x => x)) (by
      have b0 := unhide HB0
      rintro (h | h); exact b0.2.2.2.2.1 h.symm; exact b0.2.2.2.2.2 h.symm)
     have Hold9 := hide hold9
     have hm99 := ((unhide HM3).trans (mA.mono (fun _ _ x => x.elim))).trans hm9
     have hl9 : leftN w9 m (w.heap.size + 2) < leftN wr m (w.heap.size + 2) := by
      refine Nat.lt_of_le_of_lt ?_ (unhide HLEFT)
      rw [leftN_eq hx9.map hit9, leftN_eq hx0.map (unhide HIT2)]
      refine ((dropE_sub es' e.r e.c).filter _).length_le
     have hp9 := (unhide hp).give hx0.ok (unhide he) hil ((unhide HD).2 (unhide HDU))
     have hwf9 : Wf p (l'.set i l'[i].freed) := (unhide hwf').set hil (freed_wf _) rfl rfl
     have Hx9 := hide hx9
     have Hit9 := hide hit9
     have Hbox9 := hide hbox9
     have Hm9 := hide hm99
     have Hl9 := hide hl9
     have Hp9 := hide hp9
     have Hwf9 := hide hwf9
     clear hold9 hx9 hit9 hbox9 hm99 hl9 hp9 hwf9 hm9 hxA hx0 mA
     go_wp2
     exact ⟨⟨_, _, _, Hx9, Hwf9, Hp9, Hit9, Hm9, Hbox9, Hold9⟩, unhide Hl9⟩
    ·have HDU := hide (show ¬ (e.s = 1 ∧ e.u ≤ now) from fun h => hd2 h.2)
     have hd1' : (e.s == 1) = true := by simp [hd1]
     clear hd1
     go_wp2
     exact (unhide KEEP) (unhide HDU)
   ·have HDU := hide (show ¬ (e.s = 1 ∧ e.u ≤ now) from fun h => hd1 h.1)
    have hd1' : (e.s == 1) = false := by simp [hd1]
    clear hd1
    go_wp2
    exact (unhide KEEP) (unhide HDU)
def cmdCells (c : Cmd) : Array Value :=
 #[.int .i64 c.kind, .int .i64 c.flight, .int .i64 c.ar, .int .i64 c.ac, .int .i64 c.tr, .int .i64 c.tc, .int .i64 c.party, .int .i64 c.cls, .int .i64 c.time,
  .int .i64 c.pla.rows, .int .i64 c.pla.cols, .int .i64 c.pla.front, .int .i64 c.pla.l0, .int .i64 c.pla.l1, .int .i64 c.pla.l2, .int .i64 c.pla.l3]
attribute [local go_sem] idx40_0 idx40_1 idx40_2 idx40_3
def buyer (c : Cmd) : Int := if c.cls < 0 ∨ c.cls ≥ 4 then 6 else if c.party < 1 ∨ c.party > 1000 then 7 else 0
theorem buyer_any (c : Cmd) (w : World) : Calls Try.prog 93 #[.agg (cmdCells c)] w fun e w' => e = .returned (.int .i64 (buyer c)) ∧ Mod No w w' := by
 unfold cmdCells
 by_cases h1 : c.cls < 0
 ·go_enter Try.func93, Try.ntmps93
  go_wp2
  go_ret
  refine ⟨by simp [buyer, h1], (Mod.refl _ _).alloc _⟩
 ·by_cases h2 : c.cls ≥ 4
  ·go_enter Try.func93, Try.ntmps93
   go_wp2
   go_ret
   refine ⟨by simp [buyer, h2], (Mod.refl _ _).alloc _⟩
  ·by_cases h3 : c.party < 1
   ·go_enter Try.func93, Try.ntmps93
    go_wp2
    go_ret
    refine ⟨by simp [buyer, h1, h2, h3], (Mod.refl _ _).alloc _⟩
   ·by_cases h4 : c.party > 1000
    ·go_enter Try.func93, Try.ntmps93
     go_wp2
     go_ret
     refine ⟨by simp [buyer, h1, h2, h4], (Mod.refl _ _).alloc _⟩
    ·go_enter Try.func93, Try.ntmps93
     go_wp2
     go_ret
     have hb : buyer c = 0 := by
      unfold buyer
      rw [if_neg (by omega), if_neg (by omega)]
     rw [hb]
     exact ⟨rfl, (Mod.refl _ _).alloc _⟩
def plaV (p : Pla) : Value := .agg #[.int .i64 p.rows, .int .i64 p.cols, .int .i64 p.front, .int .i64 p.l0, .int .i64 p.l1, .int .i64 p.l2, .int .i64 p.l3]
theorem shape_any (p : Pla) (w : World) : Calls Try.prog 74 #[plaV p] w fun e w' => e = .returned (.bool p.sized) ∧ Mod No w w' := by
 unfold plaV Pla.sized
 by_cases h1 : p.rows ≥ 1
 ·by_cases h2 : p.rows ≤ 20
  ·by_cases h3 : p.cols ≥ 1
   ·by_cases h4 : p.cols ≤ 6
    ·by_cases h5 : p.front ≥ 0
     ·by_cases h6 : p.front ≤ p.rows
      all_goals (go_enter Try.func74, Try.ntmps74; go_wp2; go_ret; exact ⟨by simp; omega, (Mod.refl _ _).alloc _⟩)
     ·go_enter Try.func74, Try.ntmps74; go_wp2; go_ret; exact ⟨by simp; omega, (Mod.refl _ _).alloc _⟩
    ·go_enter Try.func74, Try.ntmps74; go_wp2; go_ret; exact ⟨by simp; omega, (Mod.refl _ _).alloc _⟩
   ·go_enter Try.func74, Try.ntmps74; go_wp2; go_ret; exact ⟨by simp; omega, (Mod.refl _ _).alloc _⟩
  ·go_enter Try.func74, Try.ntmps74; go_wp2; go_ret; exact ⟨by simp; omega, (Mod.refl _ _).alloc _⟩
 ·go_enter Try.func74, Try.ntmps74; go_wp2; go_ret; exact ⟨by simp; omega, (Mod.refl _ _).alloc _⟩
theorem limits_any (l0 l1 l2 l3 : Int) (w : World) : Calls Try.prog 75 #[.agg #[.int .i64 l0, .int .i64 l1, .int .i64 l2, .int .i64 l3]] w fun e w' =>
  e = .returned (.bool (decide (0 ≤ l0 ∧ l0 ≤ 200 ∧ 0 ≤ l1 ∧ l1 ≤ l0 ∧ 0 ≤ l2 ∧ l2 ≤ l1 ∧ 0 ≤ l3 ∧ l3 ≤ l2))) ∧ Mod No w w' := by
 go_enter Try.func75, Try.ntmps75
 go_wp2
 go_loopw [3, 7] (fun mo i wr => ((i = .int .i64 0 ∧ mo = .int .i64 200) ∨ (i = .int .i64 1 ∧ mo = .int .i64 l0 ∧ Hid (0 ≤ l0 ∧ l0 ≤ 200)) ∨ (i = .int .i64 2 ∧ mo = .int .i64 l1 ∧ Hid (0 ≤ l0 ∧ l0 ≤ 200 ∧ 0 ≤ l1 ∧ l1 ≤ l0)) ∨
  (i = .int .i64 3 ∧ mo = .int .i64 l2 ∧ Hid (0 ≤ l0 ∧ l0 ≤ 200 ∧ 0 ≤ l1 ∧ l1 ≤ l0 ∧ 0 ≤ l2 ∧ l2 ≤ l1)) ∨ (i = .int .i64 4 ∧ mo = .int .i64 l3 ∧ Hid (0 ≤ l0 ∧ l0 ≤ 200 ∧ 0 ≤ l1 ∧ l1 ≤ l0 ∧ 0 ≤ l2 ∧ l2 ≤ l1 ∧ 0 ≤ l3 ∧ l3 ≤ l2))) ∧
  wr = w.alloc (.cells #[.int .i64 l0, .int .i64 l1, .int .i64 l2, .int .i64 l3] 33)) (fun _ i _ => 4 - (intOf i).toNat)
 case atStart => exact ⟨.inl ⟨rfl, rfl⟩, rfl⟩
 case round =>
  obtain ⟨hr, hm⟩ := hrel
  subst hm
  rcases hr with ⟨rfl, rfl⟩ | ⟨rfl, rfl, H⟩ | ⟨rfl, rfl, H⟩ | ⟨rfl, rfl, H⟩ | ⟨rfl, rfl, H⟩
  ·by_cases a1 : l0 < 0
   ·go_wp2
    go_ret
    exact ⟨by simp; omega, (Mod.refl _ _).alloc _⟩
   by_cases a2 : l0 > 200
   ·go_wp2
    go_ret
    exact ⟨by simp; omega, (Mod.refl _ _).alloc _⟩
   ·go_wp2
    go_roundw
    ·exact ⟨.inr (.inl ⟨rfl, rfl, hide (by omega)⟩), trivial⟩
    ·simp [intOf]
  ·by_cases a1 : l1 < 0
   ·go_wp2
    go_ret
    exact ⟨by simp; omega, (Mod.refl _ _).alloc _⟩
   by_cases a2 : l1 > l0
   ·go_wp2
    go_ret
    exact ⟨by simp; omega, (Mod.refl _ _).alloc _⟩
   ·go_wp2
    go_roundw
    ·have := unhide H
     exact ⟨.inr (.inr (.inl ⟨rfl, rfl, hide (by omega)⟩)), trivial⟩
    ·simp [intOf]
  ·by_cases a1 : l2 < 0
   ·go_wp2
    go_ret
    exact ⟨by simp; omega, (Mod.refl _ _).alloc _⟩
   by_cases a2 : l2 > l1
   ·go_wp2
    go_ret
    exact ⟨by simp; omega, (Mod.refl _ _).alloc _⟩
   ·go_wp2
    go_roundw
    ·have := unhide H
     exact ⟨.inr (.inr (.inr (.inl ⟨rfl, rfl, hide (by omega)⟩))), trivial⟩
    ·simp [intOf]
  ·by_cases a1 : l3 < 0
   ·go_wp2
    go_ret
    exact ⟨by simp; omega, (Mod.refl _ _).alloc _⟩
   by_cases a2 : l3 > l2
   ·go_wp2
    go_ret
    exact ⟨by simp; omega, (Mod.refl _ _).alloc _⟩
   ·go_wp2
    go_roundw
    ·have := unhide H
     exact ⟨.inr (.inr (.inr (.inr ⟨rfl, rfl, hide (by omega)⟩))), trivial⟩
    ·simp [intOf]
  ·go_wp2
   go_ret
   have := unhide H
   exact ⟨by simp; omega, (Mod.refl _ _).alloc _⟩
def Sees (w : World) (m : Nat) (r c st pa cl un : Int) : Prop :=
 ∀ W, Mod No w W → (Instr.lookup 136 (.map (some m)) (.agg #[.int .i64 r, .int .i64 c]) false).run Try.prog W = .ok (.agg #[.int .i64 st, .int .i64 pa, .int .i64 cl, .int .i64 un]) W
theorem FlX.sees {w : World} {b : Nat} {p : Pla} {l : List Sea} {m : Nat} {es : List MEnt} {clock : Nat} (h : FlX w b p l m es clock) (hwf : Wf p l) (i : Nat) (hi : i < l.length) :
  Sees w m l[i].row l[i].col l[i].st l[i].pa l[i].cl l[i].un := by
 intro W hW
 have hp := Fli.wf.place_has hwf hi
 have hb := Fli.wf.bounds hwf
 have h1 := hp.1
 simp only [Pla.has, decide_eq_true_eq] at h1
 have := run_lookup W m es clock (hW.map h.map (fun x => x)) h.ok l[i].row l[i].col (by simp only at hb h1; omega) (by simp only at hb h1; omega)
 rw [h.rel.seat i hi] at this
 exact this
theorem field171 (x0 x1 x2 x3 : Value) (w : World) : (Instr.field 170 (.agg #[x0, x1, x2, x3]) 0).run Try.prog w = .ok x0 w := by kernel_rfl
attribute [local go_sem] field171
def saleN (st lf : Int) : Int := if st ≠ 0 then 9 else if lf = 0 then 11 else 0
theorem sale_walk (b m k : Nat) (hk : k < 4) (cs : Array Value) (c : Cmd) (hc : c.cls = (k : Int)) (st pa cl un lf : Int) (w : World) (h : Has w b cs 138) (h7 : cs[7]? = some (.map (some m))) (hlf : cs[20 + k]? = some (.int .i64 lf))
  (hs : Sees w m c.ar c.ac st pa cl un) :
  Calls Try.prog 94 #[.pointer (some ⟨b, 0, none⟩), .agg (cmdCells c)] w fun e w' => e = .returned (.int .i64 (saleN st lf)) ∧ Mod No w w' := by
 obtain ⟨kind, flight, ar, ac, tr, tc, party, cls, time, pl⟩ := c
 simp only at hc
 subst hc
 simp only at hs
 unfold cmdCells
 simp only
 have hlt := h.lt
 have c7 := h.cell 7
 rw [h7] at c7
 have c20 := h.cell (20 + k)
 rw [hlf] at c20
 generalize hbox : (#[Value.int .i64 kind, .int .i64 flight, .int .i64 ar, .int .i64 ac, .int .i64 tr, .int .i64 tc, .int .i64 party, .int .i64 (k : Int), .int .i64 time,
  .int .i64 pl.rows, .int .i64 pl.cols, .int .i64 pl.front, .int .i64 pl.l0, .int .i64 pl.l1, .int .i64 pl.l2, .int .i64 pl.l3] : Array Value) = box at *
 have hL1 := fun n => hs ((w.alloc (.cells box 37)).drewN n) (((Mod.refl No w).alloc (.cells box 37)).drewN n)
 clear hs h h7 hlf
 subst hbox
 have hk' : (k : Int) < 4 := by omega
 have mw : ∀ n, Mod No w ((w.alloc (.cells #[Value.int .i64 kind, .int .i64 flight, .int .i64 ar, .int .i64 ac, .int .i64 tr, .int .i64 tc, .int .i64 party, .int .i64 (k : Int), .int .i64 time,
  .int .i64 pl.rows, .int .i64 pl.cols, .int .i64 pl.front, .int .i64 pl.l0, .int .i64 pl.l1, .int .i64 pl.l2, .int .i64 pl.l3] 37)).drewN n) := fun n => ((Mod.refl No w).alloc _).drewN n
 have MW := hide mw
 clear mw
 by_cases h1 : st = 0
 ·have hd1 : (st != 0) = false := by simp [h1]
  by_cases h2 : lf = 0
  ·have hd2 : (lf == 0) = true := by simp [h2]
   have hS : saleN st lf = 11 := by simp [saleN, h1, h2]
   have HS := hide hS
   clear h2 h1 hS
   go_enter Try.func94, Try.ntmps94
   go_wp2_with fail
   go_quiet (fail)
   go_wp2_with fail
   go_quiet (fail)
   go_wp2
   go_ret
   exact ⟨by rw [unhide HS]; rfl, ((unhide MW) _).drewN _⟩
  ·have hd2 : (lf == 0) = false := by simp [h2]
   have hS : saleN st lf = 0 := by simp [saleN, h1, h2]
   have HS := hide hS
   clear h2 h1 hS
   go_enter Try.func94, Try.ntmps94
   go_wp2_with fail
   go_quiet (fail)
   go_wp2_with fail
   go_quiet (fail)
   go_wp2
   go_ret
   exact ⟨by rw [unhide HS]; rfl, ((unhide MW) _).drewN _⟩
 ·have hd1 : (st != 0) = true := by simp [h1]
  have hS : saleN st lf = 9 := by simp [saleN, h1]
  have HS := hide hS
  clear h1 hS
  go_enter Try.func94, Try.ntmps94
  go_wp2_with fail
  go_quiet (fail)
  go_wp2
  go_ret
  exact ⟨by rw [unhide HS]; rfl, (unhide MW) _⟩
def ownerN (st pa party : Int) : Int := if ¬ (st = 1 ∨ st = 2) then 10 else if pa ≠ party then 7 else 0
theorem owner_walk (b m n : Nat) (cs : Array Value) (c : Cmd) (pa cl un : Int) (w : World) (h : Has w b cs 138) (h7 : cs[7]? = some (.map (some m)))
  (hs : Sees w m c.ar c.ac n pa cl un) :
  Calls Try.prog 95 #[.pointer (some ⟨b, 0, none⟩), .agg (cmdCells c)] w fun e w' => e = .returned (.int .i64 (ownerN n pa c.party)) ∧ Mod No w w' := by
 have hlt := h.lt
 have c7 := h.cell 7
 rw [h7] at c7
 have hL1 := hs (w.alloc (.cells (cmdCells c) 37)).drew ((Mod.refl _ _).alloc _).drew
 have hLn := fun X => hs ((w.alloc (.cells (cmdCells c) 37)).alloc X).drew (((Mod.refl No w).alloc _).alloc X).drew
 unfold cmdCells at *
 clear hs h h7
 go_enter Try.func95, Try.ntmps95
 go_wp2_with fail
 go_cut [5] (fun s5 wx => s5 = .pointer (some ⟨w.heap.size + 1, 0, none⟩) ∧ Hid (Mod No w wx) ∧ Hid (Has wx w.heap.size (cmdCells c) 37) ∧ Hid (Has wx (w.heap.size + 1) #[.int .i64 n, .int .i64 pa, .int .i64 cl, .int .i64 un] 170))
 case first =>
  go_region
  all_goals go_wp2
  all_goals go_meet
  all_goals (refine ⟨rfl, (((Mod.refl No w).alloc _).alloc _).drew, ((Has.new w _ _).alloc _).drew, ?_⟩; have := Has.new (w.alloc (.cells (cmdCells c) 37)) #[.int .i64 n, .int .i64 pa, .int .i64 cl, .int .i64 un] 170; rw [World.size_alloc] at this; exact this)
 case rest =>
  obtain ⟨rfl, hm, hb1, hb2⟩ := hcut
  have cb := (unhide hb2).cell
  have lb := (unhide hb2).lt
  have cb1 := (unhide hb1).cell
  unfold cmdCells at cb1
  clear hL1 hLn c7
  go_wp2_with fail
  refine (sold_any n pa cl un _).mono ?_
  rintro e w3 ⟨rfl, hm3⟩
  have cb3 := (hm3.has (unhide hb2) (fun x => x)).cell
  have cb4 := (hm3.has (unhide hb1) (fun x => x)).cell
  have lb3 := (hm3.has (unhide hb2) (fun x => x)).lt
  unfold cmdCells at cb4
  have M3 := hide ((unhide hm).trans hm3)
  clear hm3 cb cb1 lb hm hb1 hb2
  by_cases h1 : n = 1 ∨ n = 2
  ·have hd1 : decide (n = 1 ∨ n = 2) = true := by simp [h1]
   have hz : (n : Int) = 1 ∨ (n : Int) = 2 := by omega
   by_cases h2 : pa = c.party
   ·have hd2 : (pa != c.party) = false := by simp [h2]
    have HS := hide (show ownerN n pa c.party = 0 by unfold ownerN; rw [if_neg (by omega), if_neg (by simpa using h2)])
    clear h1 h2 hz
    go_wp2
    go_ret
    exact ⟨by rw [unhide HS]; rfl, unhide M3⟩
   ·have hd2 : (pa != c.party) = true := by simp [h2]
    have HS := hide (show ownerN n pa c.party = 7 by unfold ownerN; rw [if_neg (by omega), if_pos h2])
    clear h1 h2 hz
    go_wp2
    go_ret
    exact ⟨by rw [unhide HS]; rfl, unhide M3⟩
  ·have hd1 : decide (n = 1 ∨ n = 2) = false := by simp [h1]
   have HS := hide (show ownerN n pa c.party = 10 by unfold ownerN; rw [if_pos (by omega)])
   clear h1
   go_wp2
   go_ret
   exact ⟨by rw [unhide HS]; rfl, unhide M3⟩
end Go.Proofs.Ythhibagcpjeihaa
