import Derived.Test.YtlcbemcamdafjaaCrecountedPg2
import Derived.Deep.DeepCutAuto
import Derived.Deep.MidRow
import Derived.Test.YtlcbemcamdafjaaCrecountedSwap2
/- Pages of seats: the model; a page that is refused. -/
namespace Go.Proofs.Ytlcbemcamdafjaa
open Go.RowKit
open M
set_option linter.unusedVariables false
set_option linter.unusedSimpArgs false
set_option maxRecDepth 100000
set_option maxHeartbeats 4000000

/-- The place of the last seat; another one, if there is none. -/
def lastAt (r c : Int) (L : List Sea) : Int × Int := match L.getLast? with
  | none => (r, c)
  | some s => (s.row, s.col)

structure PageR where
  seats : List Sea
  r : Int
  c : Int
  ep : Int
  more : Bool
  err : Int

def pageK (p : Pla) (l : List Sea) (r c e size : Int) : PageR :=
  if size < 1 ∨ size > 30 then ⟨[], 0, 0, 0, false, 12⟩
  else if (behindK p r c e).2 ≠ 0 then ⟨[], 0, 0, 0, false, (behindK p r c e).2⟩
  else ⟨(l.drop (behindK p r c e).1.toNat).take size.toNat, (lastAt r c ((l.drop (behindK p r c e).1.toNat).take size.toNat)).1, (lastAt r c ((l.drop (behindK p r c e).1.toNat).take size.toNat)).2, p.ep,
    decide ((behindK p r c e).1.toNat + ((l.drop (behindK p r c e).1.toNat).take size.toNat).length < l.length), 0⟩

/-- A page, told: its list is new. -/
structure Told (w w' : World) (e : Ending) (R : PageR) : Prop where
  ex : ∃ v, e = .returned (.tuple #[.agg #[v, .int .i64 R.r, .int .i64 R.c, .int .i64 R.ep, .bool R.more], .int .i64 R.err]) ∧ w'.ownsRow 0 61 6 v R.seats.length (R.seats.flatMap seaL) ∧ ∀ k, v.ownBlock = some k → w.heap.size ≤ k
  mod : Mod No w w'

theorem page_size (b : Nat) (r c e size : Int) (hs : size < 1 ∨ size > 30) (w : World) :
    Calls Try.prog 46 #[.pointer (some ⟨b, 0, none⟩), .agg #[.int .i64 r, .int .i64 c, .int .i64 e], .int .i64 size] w fun e w' => Told w w' e ⟨[], 0, 0, 0, false, 12⟩ := by
  have fin : ∀ o1 o2, Told w ((w.alloc o1).alloc o2) (.returned (.tuple #[.agg #[.slice none 0 0, .int .i64 0, .int .i64 0, .int .i64 0, .bool false], .int .i64 12])) ⟨[], 0, 0, 0, false, 12⟩ := fun o1 o2 =>
    ⟨⟨.slice none 0 0, rfl, World.ownsRow_nil _ _ _ _, fun k hk => by simp [Value.ownBlock] at hk⟩, ((Mod.refl _ w).alloc _).alloc _⟩
  rcases Int.lt_or_le size 1 with h1 | h1
  · clear hs
    go_enter Try.func46, Try.ntmps46
    go_wp2
    refine bodyPost_ret (by simp [results, Try.results46, go_sem]; try rfl) rfl ?_
    exact fin _ _
  · have h2 : size > 30 := by omega
    have h1' : ¬ size < 1 := by omega
    clear hs h1
    go_enter Try.func46, Try.ntmps46
    go_wp2
    refine bodyPost_ret (by simp [results, Try.results46, go_sem]; try rfl) rfl ?_
    exact fin _ _

theorem page_stale (b : Nat) (r c e size x : Int) (hs : 1 ≤ size ∧ size ≤ 30) (hx : x ≠ 0) (w : World)
    (hB : ∀ W, Mod No w W → Calls Try.prog 54 #[.pointer (some ⟨b, 0, none⟩), .agg #[.int .i64 r, .int .i64 c, .int .i64 e]] W fun e' w' => e' = .returned (.tuple #[.int .i64 0, .int .i64 x]) ∧ Mod No W w') :
    Calls Try.prog 46 #[.pointer (some ⟨b, 0, none⟩), .agg #[.int .i64 r, .int .i64 c, .int .i64 e], .int .i64 size] w fun e w' => Told w w' e ⟨[], 0, 0, 0, false, x⟩ := by
  have HB := hide hB
  have hne : (x != 0) = true := by simpa using hx
  have h1 : ¬ size < 1 := by omega
  have h2 : ¬ size > 30 := by omega
  have mA : Mod No w ((w.alloc (.cells #[.int .i64 r, .int .i64 c, .int .i64 e] 63)).alloc (.cells #[.slice none 0 0, .int .i64 0, .int .i64 0, .int .i64 0, .bool false] 65)) := ((Mod.refl _ w).alloc _).alloc _
  have MA := hide mA
  have nR := Has.new (w.alloc (.cells #[.int .i64 r, .int .i64 c, .int .i64 e] 63)) #[.slice none 0 0, .int .i64 0, .int .i64 0, .int .i64 0, .bool false] 65
  rw [World.size_alloc] at nR
  have NR := hide nR
  clear hB hs hx mA nR
  go_enter Try.func46, Try.ntmps46
  go_wp2_with fail
  refine ((unhide HB) _ (unhide MA)).mono ?_
  rintro e1 w1 ⟨rfl, m1⟩
  have R1 := m1.has (unhide NR) (fun x => x)
  have M1 := hide ((unhide MA).trans m1)
  have d0 : w1.cell? ⟨w.heap.size + 1, 0, none⟩ = some (.slice none 0 0) := R1.cell 0
  have d1 : w1.cell? ⟨w.heap.size + 1, 1, none⟩ = some (.int .i64 0) := R1.cell 1
  have d2 : w1.cell? ⟨w.heap.size + 1, 2, none⟩ = some (.int .i64 0) := R1.cell 2
  have d3 : w1.cell? ⟨w.heap.size + 1, 3, none⟩ = some (.int .i64 0) := R1.cell 3
  have d4 : w1.cell? ⟨w.heap.size + 1, 4, none⟩ = some (.bool false) := R1.cell 4
  have f1 := R1.frozen
  have l1 := R1.lt
  clear m1 R1
  go_wp2
  refine bodyPost_ret (by simp [results, Try.results46, go_sem, d0, d1, d2, d3, d4]; try rfl) rfl ?_
  refine ⟨⟨.slice none 0 0, rfl, World.ownsRow_nil _ _ _ _, fun k hk => by simp [Value.ownBlock] at hk⟩, ?_⟩
  have hp : ∀ o, No (⟨w.heap.size + 1, o, none⟩ : Addr).block ∨ w.heap.size ≤ (⟨w.heap.size + 1, o, none⟩ : Addr).block := fun o => .inr (by simp)
  exact (((((unhide M1).setCell (hp 0) _).setCell (hp 1) _).setCell (hp 2) _).setCell (hp 3) _).setCell (hp 4) _
end Go.Proofs.Ytlcbemcamdafjaa
/- Pages of seats: a page is filled. -/
namespace Go.Proofs.Ytlcbemcamdafjaa
open Go.RowKit
open M
set_option linter.unusedVariables false
set_option linter.unusedSimpArgs false
set_option maxRecDepth 100000
set_option maxHeartbeats 4000000
attribute [local go_sem ↓] run_min2 run_max2

/-- The size, by a contract that leaves all but the draws. -/
theorem size_draws (b : Nat) (cs : Array Value) (T : TypeId) (R C : Int) (w : World) (h : Has w b cs T) (h0 : cs[0]? = some (.int .i64 R)) (h1 : cs[1]? = some (.int .i64 C)) (hw : IntKind.i64.wrap (R * C) = R * C) :
    Calls Try.prog 55 #[.pointer (some ⟨b, 0, none⟩)] w fun e w' => e = .returned (.int .i64 (R * C)) ∧ ∃ n, w' = w.drewN n := by
  have c0 := h.cell 0
  have c1 := h.cell 1
  rw [h0] at c0
  rw [h1] at c1
  have hlt := h.lt
  clear h h0 h1
  go_enter Try.func55, Try.ntmps55
  go_wp2
  go_quiet (fail)
  go_wp2
  go_ret
  exact ⟨rfl, _, rfl⟩

/-- What stands while a page is filled: i seats are in it. -/
structure PgI (w wr : World) (b m clock pb : Nat) (p : Pla) (l : List Sea) (es : List MEnt) (D : List Sea) (r c : Int) (more : Bool) (v : Value) (i : Nat) (j : Nat) : Prop where
  fl : FlX wr b p l m es clock
  page : Has wr pb #[v, .int .i64 (lastAt r c (D.take j)).1, .int .i64 (lastAt r c (D.take j)).2, .int .i64 p.ep, .bool more] 65
  row : wr.ownsRow 0 61 6 v i ((D.take i).flatMap seaL)
  new : ∀ k, v.ownBlock = some k → w.heap.size ≤ k ∧ k ≠ pb ∧ k ≠ w.heap.size + 1
  res : Has wr (w.heap.size + 1) #[.slice none 0 0, .int .i64 0, .int .i64 0, .int .i64 0, .bool false] 65
  pbn : w.heap.size ≤ pb ∧ pb ≠ w.heap.size + 1
  mod : Mod No w wr

theorem PgI.still {w wr w2 : World} {b m clock pb : Nat} {p : Pla} {l : List Sea} {es : List MEnt} {D : List Sea} {r c : Int} {more : Bool} {v : Value} {i j : Nat} (h : PgI w wr b m clock pb p l es D r c more v i j) (hm : Mod No wr w2) : PgI w w2 b m clock pb p l es D r c more v i j :=
  ⟨⟨hm.has h.fl.has (fun x => x), hm.map h.fl.map (fun x => x), h.fl.ok, h.fl.rel⟩, hm.has h.page (fun x => x), hm.owns h.row (fun _ _ x => x), h.new, hm.has h.res (fun x => x), h.pbn, h.mod.trans hm⟩

theorem lastAt_succ (r c : Int) (D : List Sea) (i : Nat) (hi : i < D.length) : lastAt r c (D.take (i + 1)) = (D[i].row, D[i].col) := by
  rw [take_succ D i hi]
  unfold lastAt
  rw [List.getLast?_append]
  simp

/-- A seat more is in the list; the page's end is not yet written. -/
theorem PgI.put {w wr w3 : World} {b m clock pb : Nat} {p : Pla} {l : List Sea} {es : List MEnt} {D : List Sea} {r c : Int} {more : Bool} {v v' : Value} {i : Nat} (h : PgI w wr b m clock pb p l es D r c more v i i) (hi : i < D.length) (o : Obj)
    (ho : w3.ownsRow 0 61 6 v' (i + 1) (((D.take i).flatMap seaL) ++ seaL D[i])) (hg : (wr.alloc o).grownBy w3 v.ownBlock) (hs : Stays (wr.alloc o) v v') (hb : b < w.heap.size) (hm' : m < w.heap.size) :
    PgI w (w3.setCell ⟨pb, 0, none⟩ v') b m clock pb p l es D r c more v' (i + 1) i := by
  have hm1 : Mod (fun k => v.ownBlock = some k) wr w3 := ((Mod.refl _ wr).alloc o).grown hg (fun k hk => .inl hk)
  have hpb := h.page.lt
  have hres := h.res.lt
  have hm2 : Mod (fun k => v.ownBlock = some k ∨ k = pb) wr (w3.setCell ⟨pb, 0, none⟩ v') := (hm1.mono (fun _ _ x => .inl x)).setCell (p := ⟨pb, 0, none⟩) (.inl (.inr rfl)) _
  have hn : ∀ k, k < w.heap.size → ¬ (v.ownBlock = some k ∨ k = pb) := fun k hk => by
    rintro (e | e)
    · have := (h.new k e).1; omega
    · have := h.pbn.1; omega
  have hnew : ∀ k, v'.ownBlock = some k → w.heap.size ≤ k ∧ k ≠ pb ∧ k ≠ w.heap.size + 1 := fun k hk => by
    rcases hs k hk with h1 | h1
    · exact h.new k h1
    · have := h.mod.size
      simp at h1
      omega
  refine ⟨⟨hm2.has h.fl.has (hn b hb), hm2.map h.fl.map (hn m hm'), h.fl.ok, h.fl.rel⟩, ?_, ?_, hnew, hm2.has h.res ?_, h.pbn, h.mod.trans' hm2 (fun k hk hl => hn k hl hk)⟩
  · have hp3 : Has w3 pb _ 65 := hm1.has h.page (fun e => (h.new pb e).2.1 rfl)
    exact hp3.set 0 v'
  · have : (D.take (i + 1)).flatMap seaL = (D.take i).flatMap seaL ++ seaL D[i] := by rw [take_succ D i hi, List.flatMap_append]; simp
    rw [this]
    exact owns_setCell_ne ho (by
      intro e
      exact (hnew pb (by simpa using e)).2.1 rfl) _
  · rintro (e | e)
    · exact (h.new _ e).2.2 rfl
    · exact h.pbn.2 e.symm

theorem PgI.end_ {w wr : World} {b m clock pb : Nat} {p : Pla} {l : List Sea} {es : List MEnt} {D : List Sea} {r c : Int} {more : Bool} {v : Value} {i : Nat} (h : PgI w wr b m clock pb p l es D r c more v (i + 1) i) (hi : i < D.length) (hb : b < w.heap.size) (hm' : m < w.heap.size) :
    PgI w ((wr.setCell ⟨pb, 1, none⟩ (.int .i64 D[i].row)).setCell ⟨pb, 2, none⟩ (.int .i64 D[i].col)) b m clock pb p l es D r c more v (i + 1) (i + 1) := by
  have hm2 : Mod (fun k => k = pb) wr ((wr.setCell ⟨pb, 1, none⟩ (.int .i64 D[i].row)).setCell ⟨pb, 2, none⟩ (.int .i64 D[i].col)) := ((Mod.refl _ wr).at 1 _).at 2 _
  have hn : ∀ k, k < w.heap.size → ¬ k = pb := fun k hk e => by have := h.pbn.1; omega
  refine ⟨⟨hm2.has h.fl.has (hn b hb), hm2.map h.fl.map (hn m hm'), h.fl.ok, h.fl.rel⟩, ?_, hm2.owns h.row (fun k hk e => (h.new k hk).2.1 e), h.new, hm2.has h.res (fun e => h.pbn.2 e.symm), h.pbn, h.mod.trans' hm2 (fun k hk hl => hn k hl hk)⟩
  rw [lastAt_succ r c D i hi]
  exact (h.page.set 1 _).set 2 _
end Go.Proofs.Ytlcbemcamdafjaa
/- Another plane: the homeless find seats. -/
namespace Go.Proofs.Ytlcbemcamdafjaa
open Go.RowKit Go.WideMaps
open Go.ChangeMaps (setBlock)
open M
set_option linter.unusedVariables false
set_option linter.unusedSimpArgs false
set_option maxRecDepth 100000
set_option maxHeartbeats 4000000

/-- A row of seats without their places, to be read. -/
structure RowE (w : World) (g : Nat) (hs : List Sea) : Prop where
  cur : ∃ cs, Has w g cs 143 ∧ ∀ i (h : i < hs.length), cs[i * 4]? = some (.int .i64 hs[i].st) ∧ cs[i * 4 + 1]? = some (.int .i64 hs[i].pa) ∧ cs[i * 4 + 2]? = some (.int .i64 hs[i].cl) ∧ cs[i * 4 + 3]? = some (.int .i64 hs[i].un)

/-- The flat form of a row: its cells. -/
theorem flat_at4 (f : Sea → List Value) (hf : ∀ x, (f x).length = 4) : ∀ (l : List Sea) (i : Nat) (h : i < l.length) (j : Nat), j < 4 → (l.flatMap f)[i * 4 + j]? = (f l[i])[j]?
  | [], i, h, _, _ => absurd h (Nat.not_lt_zero _)
  | x :: l, 0, h, j, hj => by
    rw [List.flatMap_cons, Nat.zero_mul, Nat.zero_add, List.getElem?_append_left (by rw [hf]; exact hj)]
    rfl
  | x :: l, i + 1, h, j, hj => by
    rw [List.flatMap_cons, List.getElem?_append_right (by rw [hf, Nat.add_mul]; omega), hf]
    rw [show (i + 1) * 4 + j - 4 = i * 4 + j by rw [Nat.add_mul, Nat.one_mul]; omega]
    exact flat_at4 f hf l i (by simpa using h) j hj

theorem rowE_of {w : World} {v : Value} {hs : List Sea} (h : w.ownsRow 0 143 4 v hs.length (hs.flatMap seL)) (hpos : 0 < hs.length) : ∃ g cp, v = .slice (some ⟨g, 0, none⟩) hs.length cp ∧ RowE w g hs := by
  obtain ⟨h0, h1 | ⟨g, cap, cur, hv, hb, hg, hn, hm, hsz, ht⟩⟩ := h
  · exact absurd h1.2 (by omega)
  · refine ⟨g, cap, hv, cur, hg, fun i hi => ?_⟩
    have hk : ∀ j, j < 4 → cur[i * 4 + j]? = (seL hs[i])[j]? := fun j hj => by
      have := flat_at4 seL seL_len hs i hi j hj
      rw [← ht, List.getElem?_take, if_pos (by omega)] at this
      rw [← Array.getElem?_toList, this]
    exact ⟨hk 0 (by omega), hk 1 (by omega), hk 2 (by omega), hk 3 (by omega)⟩

theorem RowE.mod {w w' : World} {g : Nat} {hs : List Sea} {S : Nat → Prop} (h : RowE w g hs) (hm : Mod S w w') (hg : ¬ S g) : RowE w' g hs := by
  obtain ⟨cs, h1, h2⟩ := h.cur
  exact ⟨cs, hm.has h1 hg, h2⟩

/-- While the homeless find seats: those behind n are still to come; the first k seats are taken. -/
structure ReI (w wr : World) (b m' : Nat) (Q : Pla) (acc0 : List Sea) (hs : List Sea) (n k : Nat) : Prop where
  fl : ∃ es' clock', FlX wr b Q ((hs.take n).foldl reseatStep acc0) m' es' clock'
  re : Reseat Q ((hs.take n).foldl reseatStep acc0) (hs.length - n)
  full : ∀ j (h : j < ((hs.take n).foldl reseatStep acc0).length), j < k → ((hs.take n).foldl reseatStep acc0)[j].st ≠ 0
  mod : Mod (fun k => k = b ∨ k = m') w wr

theorem ReI.still {w wr w2 : World} {b m' : Nat} {Q : Pla} {acc0 hs : List Sea} {n k : Nat} (h : ReI w wr b m' Q acc0 hs n k) (hm : Mod No wr w2) : ReI w w2 b m' Q acc0 hs n k := by
  obtain ⟨es', clock', hf⟩ := h.fl
  exact ⟨⟨es', clock', hm.has hf.has (fun x => x), hm.map hf.map (fun x => x), hf.ok, hf.rel⟩, h.re, h.full, h.mod.trans (hm.mono (fun _ _ x => x.elim))⟩

theorem firstFree_eq {acc : List Sea} {k : Nat} (hk : k < acc.length) (h0 : acc[k].st = 0) (hf : ∀ j (h : j < acc.length), j < k → acc[j].st ≠ 0) : firstFree acc = k := by
  unfold firstFree
  rw [List.findIdx_eq hk]
  refine ⟨by simp [h0], fun j hj => ?_⟩
  have := hf j (by omega) hj
  simpa using this

theorem reseatStep_at {acc : List Sea} {k : Nat} (hk : k < acc.length) (h0 : acc[k].st = 0) (hf : ∀ j (h : j < acc.length), j < k → acc[j].st ≠ 0) (s : Sea) : reseatStep acc s = acc.set k (Sea.at s acc[k]) := by
  unfold reseatStep
  rw [firstFree_eq hk h0 hf, List.getD_eq_getElem?_getD, List.getElem?_eq_getElem hk]
  rfl

theorem fold_take {acc0 hs : List Sea} {n : Nat} (hn : n < hs.length) : (hs.take (n + 1)).foldl reseatStep acc0 = reseatStep ((hs.take n).foldl reseatStep acc0) hs[n] := by
  rw [take_succ hs n hn, List.foldl_append]
  rfl

/-- The next seat is free: the next of the homeless takes it. -/
theorem ReI.put {w wr : World} {b m' : Nat} {Q : Pla} {acc0 hs : List Sea} {n k : Nat} (h : ReI w wr b m' Q acc0 hs n k) (hw : ∀ s ∈ hs, s.wf ∧ s.st ≠ 0) (hn : n < hs.length) (hk : k < ((hs.take n).foldl reseatStep acc0).length) (h0 : ((hs.take n).foldl reseatStep acc0)[k].st = 0) :
    Calls Try.prog 75 #[.pointer (some ⟨b, 0, none⟩), .agg #[.int .i64 ((hs.take n).foldl reseatStep acc0)[k].row, .int .i64 ((hs.take n).foldl reseatStep acc0)[k].col], .agg #[.int .i64 hs[n].st, .int .i64 hs[n].pa, .int .i64 hs[n].cl, .int .i64 hs[n].un]] wr fun e w' =>
      e = .returned (.tuple #[]) ∧ ReI w w' b m' Q acc0 hs (n + 1) k ∧ Mod (fun k => k = b ∨ k = m') wr w' := by
  obtain ⟨es', clock', hf⟩ := h.fl
  have hs' := hw _ (List.getElem_mem hn)
  have hff := firstFree_eq hk h0 h.full
  have hre : Reseat Q ((hs.take n).foldl reseatStep acc0) ((hs.length - (n + 1)) + 1) := by rw [show hs.length - (n + 1) + 1 = hs.length - n by omega]; exact h.re
  have hstep := Reseat.step hre hs'.1 hs'.2
  refine (put_exact hf h.re.wf k hk (Sea.at hs[n] ((hs.take n).foldl reseatStep acc0)[k]) (at_wf hs'.1) rfl rfl).mono ?_
  rintro e w' ⟨rfl, hf', hm'⟩
  have e1 : (hs.take (n + 1)).foldl reseatStep acc0 = ((hs.take n).foldl reseatStep acc0).set k (Sea.at hs[n] ((hs.take n).foldl reseatStep acc0)[k]) := by
    rw [fold_take hn]
    exact reseatStep_at hk h0 h.full _
  refine ⟨rfl, ⟨⟨_, _, by rw [e1]; exact hf'⟩, by rw [fold_take hn]; exact hstep, fun j hj hjk => ?_, h.mod.trans hm'⟩, hm'⟩
  simp only [e1] at hj ⊢
  rw [List.getElem_set_ne (by omega)]
  exact h.full j (by simpa using hj) hjk

theorem ReI.on {w wr : World} {b m' : Nat} {Q : Pla} {acc0 hs : List Sea} {n k : Nat} (h : ReI w wr b m' Q acc0 hs n k) (hk : k < ((hs.take n).foldl reseatStep acc0).length) (h0 : ((hs.take n).foldl reseatStep acc0)[k].st ≠ 0) : ReI w wr b m' Q acc0 hs n (k + 1) := by
  refine ⟨h.fl, h.re, fun j hj hjk => ?_, h.mod⟩
  by_cases e : j = k
  · subst e; exact h0
  · exact h.full j hj (by omega)

/-- There is a seat to come. -/
theorem ReI.lt {w wr : World} {b m' : Nat} {Q : Pla} {acc0 hs : List Sea} {n k : Nat} (h : ReI w wr b m' Q acc0 hs n k) (hn : n < hs.length) (hk : k ≤ ((hs.take n).foldl reseatStep acc0).length) : k < ((hs.take n).foldl reseatStep acc0).length := by
  have hre : Reseat Q ((hs.take n).foldl reseatStep acc0) ((hs.length - (n + 1)) + 1) := by rw [show hs.length - (n + 1) + 1 = hs.length - n by omega]; exact h.re
  have hl := firstFree_lt hre
  have h0 := firstFree_at hl
  rcases Nat.lt_or_ge (firstFree ((hs.take n).foldl reseatStep acc0)) k with h1 | h1
  · exact absurd h0 (h.full _ hl h1)
  · omega

theorem seesX {w : World} {b m clock : Nat} {p : Pla} {l : List Sea} {es : List MEnt} (h : FlX w b p l m es clock) (hwf : Wf p l) (i : Nat) (hi : i < l.length) (W : World) (hW : Mod No w W) :
    (Instr.lookup 119 (.map (some m)) (.agg #[.int .i64 l[i].row, .int .i64 l[i].col]) false).run Try.prog W = .ok (.agg #[.int .i64 l[i].st, .int .i64 l[i].pa, .int .i64 l[i].cl, .int .i64 l[i].un]) W := by
  have hplace := (hwf.place_has hi).1
  simp only [Pla.has, decide_eq_true_eq] at hplace
  obtain ⟨B1, B2, B3, B4, _⟩ := hwf.bounds
  simp only at B1 B2 B3 B4
  have := run_lookup W m es clock (hW.map h.map (fun x => x)) h.ok l[i].row l[i].col (by omega) (by omega)
  rw [h.rel.seat i hi] at this
  exact this
end Go.Proofs.Ytlcbemcamdafjaa
