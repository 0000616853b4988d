import Derived.Test.YtlcbemcamdafjaaGreatCdoesBaseModel
import Derived.Deep.MidRow
import Derived.Handy
/- Whole boxes read and written at once. -/
namespace Go.Proofs.YtlcbemcamdafjaaGreat
open Go.RowKit
set_option linter.unusedVariables false

theorem Mod.setCells {S : Nat → Prop} {a : World} {b : Nat} (hb : S b ∨ a.heap.size ≤ b) : ∀ (vs : List Value) (o : Nat) (w : World), Mod S a w → Mod S a (w.setCells b o vs)
  | [], _, _, h => h
  | v :: r, o, w, h => Mod.setCells hb r (o + 1) _ (h.setCell (p := ⟨b, o, none⟩) hb v)

def setAll : Array Value → Nat → List Value → Array Value
  | cs, _, [] => cs
  | cs, o, v :: r => setAll (cs.setIfInBounds o v) (o + 1) r

theorem Has.setCells {b : Nat} {T : TypeId} : ∀ (vs : List Value) (o : Nat) (w : World) (cs : Array Value), Has w b cs T → Has (w.setCells b o vs) b (setAll cs o vs) T
  | [], _, _, _, h => h
  | v :: r, o, _, _, h => Has.setCells r (o + 1) _ _ (h.set o v)

theorem setAll_get : ∀ (vs : List Value) (o : Nat) (cs : Array Value) (i : Nat), (setAll cs o vs)[i]? = if o ≤ i ∧ i < o + vs.length ∧ i < cs.size then vs[i - o]? else cs[i]?
  | [], o, cs, i => by
    simp only [setAll, List.length_nil, Nat.add_zero]
    rw [if_neg (by omega)]
  | v :: r, o, cs, i => by
    simp only [setAll]
    rw [setAll_get r (o + 1) _ i]
    simp only [Array.size_setIfInBounds, List.length_cons]
    by_cases h : o + 1 ≤ i ∧ i < o + 1 + r.length ∧ i < cs.size
    · rw [if_pos h, if_pos ⟨by omega, by omega, h.2.2⟩]
      obtain ⟨k, rfl⟩ : ∃ k, i = o + 1 + k := ⟨i - (o + 1), by omega⟩
      rw [show o + 1 + k - (o + 1) = k by omega, show o + 1 + k - o = k + 1 by omega]
      rfl
    · rw [if_neg h]
      by_cases h' : o ≤ i ∧ i < o + (r.length + 1) ∧ i < cs.size
      · have : i = o := by omega
        subst this
        rw [if_pos h', Array.getElem?_setIfInBounds_self_of_lt h'.2.2, Nat.sub_self]
        rfl
      · rw [if_neg h']
        by_cases hi : o = i
        · subst hi
          rw [Array.getElem?_setIfInBounds, if_pos rfl, if_neg (by omega), Array.getElem?_eq_none (by omega)]
        · rw [Array.getElem?_setIfInBounds_ne hi]

theorem setAll_size : ∀ (vs : List Value) (o : Nat) (cs : Array Value), (setAll cs o vs).size = cs.size
  | [], _, _ => rfl
  | v :: r, o, cs => by simp only [setAll]; rw [setAll_size r (o + 1) _]; simp

theorem setAll_whole (cs vs : Array Value) (h : vs.size = cs.size) : setAll cs 0 vs.toList = vs := by
  apply Array.ext
  · rw [setAll_size, h]
  · intro i h1 h2
    have := setAll_get vs.toList 0 cs i
    rw [if_pos ⟨by omega, by simpa using h2, by omega⟩] at this
    rw [Array.getElem?_eq_getElem h1] at this
    simpa [Array.getElem?_eq_getElem h2] using this

theorem Has.range {w : World} {b : Nat} {cs : Array Value} {T : TypeId} (h : Has w b cs T) (o : Nat) (l : List Value) (hl : ∀ j v, l[j]? = some v → cs[o + j]? = some v) : w.rangeAt b o l :=
  fun j v hv => by rw [h.cell]; exact hl j v hv

/-- A box, or a part of it, is read. -/
theorem wpList_load_has {P : Program} {ops : Array Oper} {rest : List Oper} {op : Oper} {a : Act} {w : World} {Q : Exit → Act → World → Prop} (hgd : op.guard = none) (ty : TypeId) (x : Operand) (ho : op.op = .load ty x)
    (b o : Nat) (hx : a.eval x = .pointer (some ⟨b, o, none⟩)) (cs : Array Value) (T : TypeId) (hb : Has w b cs T) (l : Array Value) (hl : ∀ j v, l.toList[j]? = some v → cs[o + j]? = some v)
    (hu : (P.underlying ty).map (·.isRow) = some true) (hi : (P.info? ty).map (·.size) = some l.size)
    (h : wpList P ops Q rest (a.put op.dst (.agg l)) w) : wpList P ops Q (op :: rest) a w := by
  cases hd : P.underlying ty with
  | none => rw [hd] at hu; simp at hu
  | some d =>
    rw [hd] at hu
    exact wpList_load_mid hgd ty x ho b o hx l.toList d (hb.range o _ hl) hd (by simpa using hu) (by simpa using hi) h

/-- A whole box is written. -/
theorem wpList_store_has {P : Program} {ops : Array Oper} {rest : List Oper} {op : Oper} {a : Act} {w : World} {Q : Exit → Act → World → Prop} (hgd : op.guard = none) (ty : TypeId) (x y : Operand) (ho : op.op = .store ty x y)
    (b : Nat) (cells : Array Value) (hx : a.eval x = .pointer (some ⟨b, 0, none⟩)) (hy : a.eval y = .agg cells) (cs : Array Value) (T : TypeId) (hb : Has w b cs T) (hs : cells.size = cs.size)
    (hi : (P.info? ty).map (·.size) = some cells.size) (h1 : cells.all (·.oneCell') = true)
    (h : ∀ w', Has w' b cells T → Mod (fun k => k = b) w w' → wpList P ops Q rest (a.put op.dst undef) w') : wpList P ops Q (op :: rest) a w := by
  refine wpList_store_mid hgd ty x y ho b 0 cells hx hy (fun j hj => ⟨?_, hb.frozen _⟩) hi h1 (h _ ?_ ?_)
  · rw [hb.cell, Nat.zero_add, Array.getElem?_eq_getElem (by omega)]
    rfl
  · have := hb.setCells cells.toList 0
    rw [setAll_whole cs cells hs] at this
    exact this
  · exact Mod.setCells (S := fun k => k = b) (.inl rfl) _ _ _ (Mod.refl _ _)
end Go.Proofs.YtlcbemcamdafjaaGreat
/- Numbers that fit; a raw number is brought to one of n things; what a row that grows leaves alone. -/
namespace Go.Proofs.YtlcbemcamdafjaaGreat
open Go.RowKit
set_option linter.unusedVariables false
set_option maxRecDepth 100000
set_option maxHeartbeats 2000000

theorem wrap_id (x : Int) (h : -4611686018427387904 ≤ x) (h' : x ≤ 4611686018427387904) : IntKind.i64.wrap x = x := by
  simp [IntKind.wrap, IntKind.bits, IntKind.signed]
  omega
theorem wrap_fit (x : Int) (h : -9223372036854775808 ≤ x) (h' : x ≤ 9223372036854775807) : IntKind.i64.wrap x = x := by
  simp [IntKind.wrap, IntKind.signed, IntKind.bits]
  omega

theorem wrap_low (x : Int) : -9223372036854775808 ≤ IntKind.i64.wrap x ∧ IntKind.i64.wrap x ≤ 9223372036854775807 := by
  simp [IntKind.wrap, IntKind.signed, IntKind.bits]
  omega

/-- Which of n things a raw number speaks of. -/
def pickN (c n : Int) : Int := if c < 0 then (-(c + 1)) % n else c % n
theorem pickN_range (c n : Int) (hn : 0 < n) : 0 ≤ pickN c n ∧ pickN c n < n := by
  unfold pickN
  split
  · exact ⟨Int.emod_nonneg _ (by omega), Int.emod_lt_of_pos _ hn⟩
  · exact ⟨Int.emod_nonneg _ (by omega), Int.emod_lt_of_pos _ hn⟩

theorem Has.grown {w w' : World} {b : Nat} {cs : Array Value} {T : TypeId} {row : Option Nat} (h : Has w b cs T) (hg : w.grownBy w' row) (hne : some b ≠ row) : Has w' b cs T := by
  unfold Has; rw [hg.block b h.lt hne]; exact h
theorem slice_of_owns {w : World} {base : Nat} {e : TypeId} {size : Nat} {v : Value} {n : Nat} {xs : List Value} (h : w.ownsRow base e size v n xs) : ∃ a cap, v = .slice a n cap := by
  rcases h.2 with ⟨h1, h2⟩ | ⟨g, cap, cur, hv, _⟩
  · exact ⟨none, 0, by rw [h1, h2]⟩
  · exact ⟨_, cap, hv⟩
end Go.Proofs.YtlcbemcamdafjaaGreat
/- append, whatever the source, with the word that the new row is the old one or a new one. -/
namespace Go.Proofs.YtlcbemcamdafjaaGreat
open Go.RowKit
set_option linter.unusedVariables false
set_option linter.unusedSimpArgs false

/-- A slice of m elements whose cells read so. -/
def Reads (w : World) (x : Value) (m : Nat) (news : List Value) : Prop :=
  (x = .slice none 0 0 ∧ m = 0) ∨ ∃ ad c, x = .slice (some ad) m c ∧ ∀ j u, news[j]? = some u → w.cell? (ad.add j) = some u

theorem reads_of_owns {w : World} {base : Nat} {e : TypeId} {size : Nat} {v : Value} {n : Nat} {xs : List Value} (h : w.ownsRow base e size v n xs) : Reads w v n xs := by
  rcases h.2 with ⟨h1, h2⟩ | ⟨g, cap, cur, hv, _, _⟩
  · exact .inl ⟨h1, h2⟩
  · refine .inr ⟨⟨g, 0, none⟩, cap, hv, fun j u hu => ?_⟩
    exact h.cells (by rw [hv]; rfl) j u hu

theorem Reads.mod {S : Nat → Prop} {w w' : World} {x : Value} {m : Nat} {news : List Value} (h : Reads w x m news) (hm : Mod S w w') (hs : ∀ k, x.ownBlock = some k → ¬ S k) : Reads w' x m news := by
  rcases h with h | ⟨ad, c, rfl, hc⟩
  · exact .inl h
  · refine .inr ⟨ad, c, rfl, fun j u hu => ?_⟩
    have h1 := hc j u hu
    have hb : (ad.add j).block = ad.block := by unfold Addr.add; split <;> rfl
    have hlt := World.block_lt_of_cell? w _ h1
    rw [World.cell?_of_block (w := w) (hm.block _ hlt (by rw [hb]; exact hs _ rfl))]
    exact h1

/-- The block of a new row: the old row's, or a new one. -/
def Stays (w : World) (v v' : Value) : Prop := ∀ k, v'.ownBlock = some k → v.ownBlock = some k ∨ w.heap.size ≤ k

theorem run_append_row {P : Program} (w : World) (t ty e : TypeId) (i : TypeInfo) (z : Value) (size bytes : Nat) (ht : P.underlying t = some (.slice e)) (hi : P.info? e = some i) (hz : i.zero = some z)
    (hsize : i.size = size) (hby : i.bytes = bytes) (hzs : z.cells.size = size) (hsz : 0 < size)
    (v : Value) (n : Nat) (xs : List Value) (hown : w.ownsRow 0 e size v n xs)
    (x : Value) (m : Nat) (news : List Value) (hx : Reads w x m news) (hl : news.length = m * size) (h1 : ∀ u ∈ news, u.oneCell' = true)
    (h63 : n + m ≤ maxLen) (hbytes : (n + m) * bytes ≤ 140737488355328) :
    ∃ v' w', (Builtin.append_ #[t, t] ty #[v, x]).run P w = .ok v' w' ∧ w'.ownsRow 0 e size v' (n + m) (xs ++ news) ∧ w.grownBy w' v.ownBlock ∧ Stays w v v' := by
  have hsame : w.grownBy w v.ownBlock := ⟨rfl, rfl, rfl, Nat.le_refl _, fun _ _ _ => rfl⟩
  rcases hx with ⟨rfl, rfl⟩ | ⟨ad, c, rfl, hc⟩
  · obtain rfl : news = [] := List.eq_nil_of_length_eq_zero (by simpa using hl)
    refine ⟨v, w, ?_, by simpa using hown, hsame, fun k hk => .inl hk⟩
    rcases hown.2 with ⟨rfl, rfl⟩ | ⟨g, cap, cur, rfl, _, _, hnc, _⟩
    · simp [Builtin.append_, run_underlying ht, sizeOf, typeInfo, hi, Builtin.lenOf, Builtin.firstCells, loadCells, loadCellsFrom]
    · simp [Builtin.append_, run_underlying ht, sizeOf, typeInfo, hi, Builtin.lenOf, Builtin.firstCells, loadCells, loadCellsFrom, hnc, storeCells]
  · have hown' := hown
    rcases hown.2 with ⟨rfl, rfl⟩ | ⟨g, cap, cur, rfl, _, hg, hnc, hcm, hcs, htake⟩
    · obtain rfl : xs = [] := List.eq_nil_of_length_eq_zero (by simpa using hown.1)
      obtain ⟨v', w', hr, h2, h3, h4⟩ := run_append_own (P := P) w w.heap.size t ty e i z size bytes ht hi hz hsize hby hzs hsz (.slice none 0 0) 0 [] (World.ownsRow_nil _ _ _ _) ad m c news hl hc h1 h63 hbytes (Nat.le_refl _)
      refine ⟨v', w', hr, ⟨h2.1, ?_⟩, h3, fun k hk => .inr (h2.lt k hk).1⟩
      rcases h2.2 with h | ⟨g, cap, cur, hv, _, r⟩
      · exact .inl h
      · exact .inr ⟨g, cap, cur, hv, Nat.zero_le _, r⟩
    · by_cases hroom : n + m ≤ cap
      · subst hsize
        have hfit : n * i.size + news.length ≤ cur.size := by rw [hl, hcs, ← Nat.add_mul]; exact Nat.mul_le_mul_right _ hroom
        have hr := run_append_room (P := P) w t ty e i ht hi g n cap cur hg ad m c news hl hc h1 hroom hfit
        obtain ⟨v', w', hr2, h2, h3, _⟩ := run_append_own (P := P) w 0 t ty e i z i.size bytes ht hi hz rfl hby hzs hsz _ n xs hown ad m c news hl hc h1 h63 hbytes (Nat.zero_le _)
        rw [hr] at hr2
        injection hr2 with e1 e2
        subst e1
        subst e2
        exact ⟨_, _, hr, h2, h3, fun k hk => .inl hk⟩
      · obtain ⟨v', w', hr, h2, h3⟩ := run_append_arg_grows (P := P) w t ty e i z size bytes ht hi hz hsize hby hzs hsz ⟨g, 0, none⟩ n cap xs hown.1 (hown.cells rfl) ad m c news hl hc (by omega) h63 hbytes
        refine ⟨v', w', hr, ⟨h2.1, ?_⟩, ⟨h3.os, h3.tape, h3.output, h3.size, fun k hk _ => h3.block k hk (by simp)⟩, fun k hk => .inr (h2.lt k hk).1⟩
        rcases h2.2 with h | ⟨g, cap, cur, hv, _, r⟩
        · exact .inl h
        · exact .inr ⟨g, cap, cur, hv, Nat.zero_le _, r⟩

section
variable {P : Program} {w : World}
theorem wp_append_row {o : Oper} {a : Act} {K : Act → World → Prop} {Q : Exit → Act → World → Prop} (s y : Operand) (t : TypeId)
    (ho : o.op = .call { callee := .builtin .append, args := #[s, y], argTypes := #[t, t] })
    (e : TypeId) (i : TypeInfo) (z : Value) (size bytes : Nat) (ht : P.underlying t = some (.slice e)) (hi : P.info? e = some i) (hz : i.zero = some z)
    (hsize : i.size = size) (hby : i.bytes = bytes) (hzs : z.cells.size = size) (hsz : 0 < size)
    (v : Value) (n : Nat) (xs : List Value) (hs : a.eval s = v) (hown : w.ownsRow 0 e size v n xs)
    (x : Value) (m : Nat) (news : List Value) (hx : a.eval y = x) (hr : Reads w x m news) (hl : news.length = m * size) (h1 : ∀ u ∈ news, u.oneCell' = true)
    (h63 : n + m ≤ maxLen) (hbytes : (n + m) * bytes ≤ 140737488355328)
    (h : ∀ v' w', w'.ownsRow 0 e size v' (n + m) (xs ++ news) → w.grownBy w' v.ownBlock → Stays w v v' → K (a.put o.dst v') w') : o.wp P a w K Q := by
  obtain ⟨v', w', hr, h2, h3, h4⟩ := run_append_row (P := P) w t o.type e i z size bytes ht hi hz hsize hby hzs hsz v n xs hown x m news hr hl h1 h63 hbytes
  unfold Oper.wp execOp
  simp only [ho, resolve, invoke, builtin, Sem.run_bind, Sem.run_pure, Result.andThen_ok, List.map_toArray, List.map_cons, List.map_nil, hs, hx, hr]
  exact h v' w' h2 h3 h4

theorem wpList_append_row {ops : Array Oper} {rest : List Oper} {o : Oper} {a : Act} {Q : Exit → Act → World → Prop} (hgd : o.guard = none) (s y : Operand) (t : TypeId)
    (ho : o.op = .call { callee := .builtin .append, args := #[s, y], argTypes := #[t, t] })
    (e : TypeId) (i : TypeInfo) (z : Value) (size bytes : Nat) (ht : P.underlying t = some (.slice e)) (hi : P.info? e = some i) (hz : i.zero = some z)
    (hsize : i.size = size) (hby : i.bytes = bytes) (hzs : z.cells.size = size) (hsz : 0 < size)
    (v : Value) (n : Nat) (xs : List Value) (hs : a.eval s = v) (hown : w.ownsRow 0 e size v n xs)
    (x : Value) (m : Nat) (news : List Value) (hx : a.eval y = x) (hr : Reads w x m news) (hl : news.length = m * size) (h1 : ∀ u ∈ news, u.oneCell' = true)
    (h63 : n + m ≤ maxLen) (hbytes : (n + m) * bytes ≤ 140737488355328)
    (h : ∀ v' w', w'.ownsRow 0 e size v' (n + m) (xs ++ news) → w.grownBy w' v.ownBlock → Stays w v v' → wpList P ops Q rest (a.put o.dst v') w') : wpList P ops Q (o :: rest) a w :=
  wpList_plain hgd fun _ hK => wp_append_row s y t ho e i z size bytes ht hi hz hsize hby hzs hsz v n xs hs hown x m news hx hr hl h1 h63 hbytes fun v' w' h2 h3 h4 => hK _ _ (h v' w' h2 h3 h4)

theorem step_append_row {ops : Array Oper} {o : Oper} {a : Act} {K : Act → World → Prop} {Q : Exit → Act → World → Prop} {E : Prop} (hgd : o.guard = none) (s y : Operand) (t : TypeId)
    (ho : o.op = .call { callee := .builtin .append, args := #[s, y], argTypes := #[t, t] })
    (e : TypeId) (i : TypeInfo) (z : Value) (size bytes : Nat) (ht : P.underlying t = some (.slice e)) (hi : P.info? e = some i) (hz : i.zero = some z)
    (hsize : i.size = size) (hby : i.bytes = bytes) (hzs : z.cells.size = size) (hsz : 0 < size)
    (v : Value) (n : Nat) (xs : List Value) (hs : a.eval s = v) (hown : w.ownsRow 0 e size v n xs)
    (x : Value) (m : Nat) (news : List Value) (hx : a.eval y = x) (hr : Reads w x m news) (hl : news.length = m * size) (h1 : ∀ u ∈ news, u.oneCell' = true)
    (h63 : n + m ≤ maxLen) (hbytes : (n + m) * bytes ≤ 140737488355328)
    (h : ∀ v' w', w'.ownsRow 0 e size v' (n + m) (xs ++ news) → w.grownBy w' v.ownBlock → Stays w v v' → K (a.put o.dst v') w') :
    if Region.wanted o (yielded ops a.tmps) = true then Oper.wp P o a w K Q else E := by
  have hw : Region.wanted o (yielded ops a.tmps) = true := by simp [Region.wanted, hgd]
  rw [if_pos hw]
  exact wp_append_row s y t ho e i z size bytes ht hi hz hsize hby hzs hsz v n xs hs hown x m news hx hr hl h1 h63 hbytes h
end
end Go.Proofs.YtlcbemcamdafjaaGreat
/- A row of seats in memory. -/
namespace Go.Proofs.YtlcbemcamdafjaaGreat
open Go.RowKit
open M
set_option linter.unusedVariables false
set_option linter.unusedSimpArgs false
set_option maxRecDepth 100000
set_option maxHeartbeats 2000000

def seaV (s : Sea) : Array Value := #[.int .i64 s.row, .int .i64 s.col, .int .i64 s.st, .int .i64 s.pa, .int .i64 s.cl, .int .i64 s.un]

/-- A row of seats in a block of its own. -/
structure RowS (w : World) (g cap : Nat) (l : List Sea) : Prop where
  cur : ∃ cur, Has w g cur 63 ∧ cur.size = cap * 6 ∧ ∀ i (h : i < l.length) j, j < 6 → cur[i * 6 + j]? = (seaV l[i])[j]?
  le : l.length ≤ cap
  max : cap ≤ maxLen

theorem RowS.cell {w : World} {g cap : Nat} {l : List Sea} (h : RowS w g cap l) (i : Nat) (hi : i < l.length) (j : Nat) (hj : j < 6) : w.cell? ⟨g, i * 6 + j, none⟩ = (seaV l[i])[j]? := by
  obtain ⟨cur, h1, h2, h3⟩ := h.cur
  rw [h1.cell]
  exact h3 i hi j hj

theorem RowS.row {w : World} {g cap : Nat} {l : List Sea} (h : RowS w g cap l) (i : Nat) (hi : i < l.length) : w.cell? ⟨g, i * 6, none⟩ = some (.int .i64 l[i].row) := h.cell i hi 0 (by omega)
theorem RowS.col {w : World} {g cap : Nat} {l : List Sea} (h : RowS w g cap l) (i : Nat) (hi : i < l.length) : w.cell? ⟨g, i * 6 + 1, none⟩ = some (.int .i64 l[i].col) := h.cell i hi 1 (by omega)
theorem RowS.st {w : World} {g cap : Nat} {l : List Sea} (h : RowS w g cap l) (i : Nat) (hi : i < l.length) : w.cell? ⟨g, i * 6 + 2, none⟩ = some (.int .i64 l[i].st) := h.cell i hi 2 (by omega)
theorem RowS.pa {w : World} {g cap : Nat} {l : List Sea} (h : RowS w g cap l) (i : Nat) (hi : i < l.length) : w.cell? ⟨g, i * 6 + 3, none⟩ = some (.int .i64 l[i].pa) := h.cell i hi 3 (by omega)
theorem RowS.cl {w : World} {g cap : Nat} {l : List Sea} (h : RowS w g cap l) (i : Nat) (hi : i < l.length) : w.cell? ⟨g, i * 6 + 4, none⟩ = some (.int .i64 l[i].cl) := h.cell i hi 4 (by omega)
theorem RowS.un {w : World} {g cap : Nat} {l : List Sea} (h : RowS w g cap l) (i : Nat) (hi : i < l.length) : w.cell? ⟨g, i * 6 + 5, none⟩ = some (.int .i64 l[i].un) := h.cell i hi 5 (by omega)
theorem RowS.lt {w : World} {g cap : Nat} {l : List Sea} (h : RowS w g cap l) : g < w.heap.size := by
  obtain ⟨cur, h1, _⟩ := h.cur
  exact h1.lt
theorem RowS.mod {w w' : World} {g cap : Nat} {l : List Sea} {S : Nat → Prop} (h : RowS w g cap l) (hm : Mod S w w') (hg : ¬ S g) : RowS w' g cap l := by
  obtain ⟨cur, h1, h2, h3⟩ := h.cur
  exact ⟨⟨cur, hm.has h1 hg, h2, h3⟩, h.le, h.max⟩

theorem flat_at {α : Type} (k : Nat) (hk : 0 < k) (f : α → List Value) (hf : ∀ x, (f x).length = k) : ∀ (l : List α) (i : Nat) (h : i < l.length) (j : Nat), j < k → (l.flatMap f)[i * k + j]? = (f l[i])[j]?
  | [], i, h, _, _ => absurd h (Nat.not_lt_zero _)
  | x :: l, 0, h, j, hj => by
    rw [List.flatMap_cons, Nat.zero_mul, Nat.zero_add, List.getElem?_append_left (by rw [hf]; exact hj)]
    rfl
  | x :: l, i + 1, h, j, hj => by
    rw [List.flatMap_cons, List.getElem?_append_right (by rw [hf, Nat.add_mul]; omega), hf]
    rw [show (i + 1) * k + j - k = i * k + j by rw [Nat.add_mul, Nat.one_mul]; omega]
    exact flat_at k hk f hf l i (by simpa using h) j hj
theorem flat_len {α : Type} (k : Nat) (f : α → List Value) (hf : ∀ x, (f x).length = k) : ∀ (l : List α), (l.flatMap f).length = l.length * k
  | [] => by simp
  | x :: l => by rw [List.flatMap_cons, List.length_append, flat_len k f hf l, hf, List.length_cons, Nat.add_mul]; omega

def seaL (s : Sea) : List Value := (seaV s).toList
theorem seaL_len (s : Sea) : (seaL s).length = 6 := rfl

/-- A row that has grown is a row of seats. -/
theorem rowS_of {w : World} {g n cap : Nat} {l : List Sea} (h : w.ownsRow 0 63 6 (.slice (some ⟨g, 0, none⟩) n cap) l.length (l.flatMap seaL)) : n = l.length ∧ RowS w g cap l := by
  obtain ⟨h0, h1 | ⟨g', cap', cur, hv, hb, hg, hn, hm, hsz, ht⟩⟩ := h
  · exact absurd h1.1 (by simp)
  · injection hv with e1 e2 e3
    injection e1 with e1
    injection e1 with e1
    subst e1 e2 e3
    refine ⟨rfl, ⟨cur, hg, hsz, fun i hi j hj => ?_⟩, hn, hm⟩
    have := flat_at 6 (by omega) seaL seaL_len l i hi j hj
    rw [← ht, List.getElem?_take, if_pos (by omega)] at this
    rw [← Array.getElem?_toList, this]
    simp [seaL]

theorem rowS_owns {w : World} {g cap : Nat} {l : List Sea} (h : RowS w g cap l) : w.ownsRow 0 63 6 (.slice (some ⟨g, 0, none⟩) l.length cap) l.length (l.flatMap seaL) := by
  obtain ⟨cur, h1, h2, h3⟩ := h.cur
  refine ⟨flat_len 6 seaL seaL_len l, .inr ⟨g, cap, cur, rfl, Nat.zero_le _, h1, h.le, h.max, h2, ?_⟩⟩
  apply List.ext_getElem?
  intro k
  rw [List.getElem?_take]
  by_cases hk : k < l.length * 6
  · rw [if_pos hk]
    have hi : k / 6 < l.length := by omega
    have e : k = k / 6 * 6 + k % 6 := by omega
    rw [e, flat_at 6 (by omega) seaL seaL_len l (k / 6) hi (k % 6) (by omega), Array.getElem?_toList, h3 _ hi _ (by omega)]
    simp [seaL]
  · rw [if_neg hk, List.getElem?_eq_none (by rw [flat_len 6 seaL seaL_len]; omega)]

theorem info114 : (Tryz.prog.info? 63).map (fun i => (i.zero, i.size, i.bytes)) = some (some (.agg #[.int .i64 0, .int .i64 0, .int .i64 0, .int .i64 0, .int .i64 0, .int .i64 0]), 6, 48) := by kernel_rfl

end Go.Proofs.YtlcbemcamdafjaaGreat
