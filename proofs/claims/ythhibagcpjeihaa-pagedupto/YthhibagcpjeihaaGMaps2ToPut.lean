import Derived.Test.YthhibagcpjeihaaGModelToMaps
import Derived.Test.YthhibagcpjeihaaGBaseToAppend
import Derived.Deep.DeepCutAuto
/- The list of entries against the model's list of seats. -/
namespace Go.Proofs.Ythhibagcpjeihaa
open Go.RowKit Go.WideMaps
open Go.ChangeMaps (setBlock)
open M
set_option linter.unusedVariables false
set_option linter.unusedSimpArgs false

theorem MapOk.erase {l : List MEnt} {clock : Nat} (h : MapOk l clock) (j : Nat) : MapOk (l.eraseIdx j) clock :=
  ⟨fun e he => h.keys e (List.mem_of_mem_eraseIdx he), h.apart.sublist (List.eraseIdx_sublist _ _), h.births.sublist (List.eraseIdx_sublist _ _), fun e he => h.past e (List.mem_of_mem_eraseIdx he)⟩

/-- The list behind a store. -/
def putE (l : List MEnt) (clock : Nat) (r c s p k u : Int) : List MEnt × Nat :=
  match l.findIdx? (MEnt.is r c) with
  | some j => (l.modify j fun e => ⟨e.born, e.r, e.c, s, p, k, u⟩, clock)
  | none => (l ++ [⟨clock, r, c, s, p, k, u⟩], clock + 1)
/-- The list behind a delete. -/
def dropE (l : List MEnt) (r c : Int) : List MEnt :=
  match l.findIdx? (MEnt.is r c) with
  | some j => l.eraseIdx j
  | none => l

theorem mem_modify {α : Type} {g : α → α} : ∀ {l : List α} {j : Nat} {x : α}, x ∈ l.modify j g → x ∈ l ∨ ∃ y ∈ l, x = g y
  | [], j, x, h => by simp at h
  | e :: l, 0, x, h => by
    simp at h
    rcases h with h | h
    · exact .inr ⟨e, by simp, h⟩
    · exact .inl (by simp [h])
  | e :: l, j + 1, x, h => by
    simp at h
    rcases h with h | h
    · exact .inl (by simp [h])
    · rcases mem_modify h with h | ⟨y, hy, e⟩
      · exact .inl (by simp [h])
      · exact .inr ⟨y, by simp [hy], e⟩

theorem mem_modify_at {α : Type} {g : α → α} : ∀ {l : List α} {j : Nat} {x : α}, x ∈ l.modify j g → x ∈ l ∨ ∃ h : j < l.length, x = g l[j]
  | [], j, x, h => by simp at h
  | e :: l, 0, x, h => by
    simp at h
    rcases h with h | h
    · exact .inr ⟨by simp, h⟩
    · exact .inl (by simp [h])
  | e :: l, j + 1, x, h => by
    simp at h
    rcases h with h | h
    · exact .inl (by simp [h])
    · rcases mem_modify_at h with h | ⟨hj, e⟩
      · exact .inl (by simp [h])
      · exact .inr ⟨by simpa using hj, by rw [List.getElem_cons_succ]; exact e⟩

theorem pairwise_modify {α : Type} {R : α → α → Prop} {g : α → α} (h1 : ∀ a b, R a b → R (g a) b) (h2 : ∀ a b, R a b → R a (g b)) : ∀ {l : List α} {j : Nat}, l.Pairwise R → (l.modify j g).Pairwise R
  | [], _, _ => by simp
  | e :: l, 0, h => by
    simp only [List.modify_zero_cons, List.pairwise_cons] at h ⊢
    exact ⟨fun x hx => h1 _ _ (h.1 x hx), h.2⟩
  | e :: l, j + 1, h => by
    simp only [List.modify_succ_cons, List.pairwise_cons] at h ⊢
    refine ⟨fun x hx => ?_, pairwise_modify h1 h2 h.2⟩
    rcases mem_modify hx with hx | ⟨y, hy, rfl⟩
    · exact h.1 x hx
    · exact h2 _ _ (h.1 y hy)

/-- An entry with another seat. -/
def MEnt.with (s p k u : Int) (e : MEnt) : MEnt := ⟨e.born, e.r, e.c, s, p, k, u⟩

theorem putE_some {l : List MEnt} {clock : Nat} {r c s p k u : Int} {j : Nat} (h : l.findIdx? (MEnt.is r c) = some j) : putE l clock r c s p k u = (l.modify j (MEnt.with s p k u), clock) := by
  unfold putE; rw [h]; rfl
theorem putE_none {l : List MEnt} {clock : Nat} {r c s p k u : Int} (h : l.findIdx? (MEnt.is r c) = none) : putE l clock r c s p k u = (l ++ [⟨clock, r, c, s, p, k, u⟩], clock + 1) := by
  unfold putE; rw [h]
theorem dropE_some {l : List MEnt} {r c : Int} {j : Nat} (h : l.findIdx? (MEnt.is r c) = some j) : dropE l r c = l.eraseIdx j := by
  unfold dropE; rw [h]
theorem dropE_none {l : List MEnt} {r c : Int} (h : l.findIdx? (MEnt.is r c) = none) : dropE l r c = l := by
  unfold dropE; rw [h]
theorem is_false {r c : Int} {e : MEnt} : MEnt.is r c e = false ↔ ¬ (e.r = r ∧ e.c = c) := by
  simp only [MEnt.is, Bool.and_eq_false_iff, beq_eq_false_iff_ne]
  by_cases h1 : e.r = r
  · simp [h1]
  · simp [h1]
theorem is_true {r c : Int} {e : MEnt} : MEnt.is r c e = true ↔ (e.r = r ∧ e.c = c) := by
  simp [MEnt.is]

theorem MapOk.put {l : List MEnt} {clock : Nat} (h : MapOk l clock) (r c s p k u : Int) (hr : 0 ≤ r ∧ r ≤ 1000) (hc : 0 ≤ c ∧ c ≤ 1000) : MapOk (putE l clock r c s p k u).1 (putE l clock r c s p k u).2 := by
  cases hf : l.findIdx? (MEnt.is r c) with
  | some j =>
    rw [putE_some hf]
    refine ⟨fun e he => ?_, pairwise_modify (g := MEnt.with s p k u) (fun a b x => x) (fun a b x => x) h.apart, pairwise_modify (g := MEnt.with s p k u) (fun a b x => x) (fun a b x => x) h.births, fun e he => ?_⟩
    · rcases mem_modify he with he | ⟨y, hy, rfl⟩
      · exact h.keys e he
      · exact h.keys y hy
    · rcases mem_modify he with he | ⟨y, hy, rfl⟩
      · exact h.past e he
      · exact h.past y hy
  | none =>
    rw [putE_none hf]
    rw [List.findIdx?_eq_none_iff] at hf
    refine ⟨fun e he => ?_, ?_, ?_, fun e he => ?_⟩
    · rcases List.mem_append.1 he with he | he
      · exact h.keys e he
      · simp at he; subst he; exact ⟨hr.1, hr.2, hc.1, hc.2⟩
    · refine List.pairwise_append.2 ⟨h.apart, by simp, fun a ha b hb => ?_⟩
      simp at hb; subst hb
      exact is_false.1 (hf a ha)
    · refine List.pairwise_append.2 ⟨h.births, by simp, fun a ha b hb => ?_⟩
      simp at hb; subst hb
      have := h.past a ha
      simp only
      omega
    · rcases List.mem_append.1 he with he | he
      · have := h.past e he
        simp only
        omega
      · simp at he; subst he; simp

theorem find?_eraseIdx {p : MEnt → Bool} : ∀ (l : List MEnt) (j : Nat), (∀ h : j < l.length, p l[j] = false) → (l.eraseIdx j).find? p = l.find? p
  | [], _, _ => by simp
  | e :: l, 0, h => by
    have := h (by simp)
    simp at this
    simp [this]
  | e :: l, j + 1, h => by
    simp only [List.eraseIdx_cons_succ, List.find?_cons]
    rw [find?_eraseIdx l j (fun hj => by have := h (by simpa using hj); rwa [List.getElem_cons_succ] at this)]

theorem find?_modify (g : MEnt → MEnt) (q : MEnt → Bool) : ∀ (l : List MEnt) (j : Nat), (∀ h : j < l.length, q l[j] = false ∧ q (g l[j]) = false) → (l.modify j g).find? q = l.find? q
  | [], _, _ => by simp
  | e :: l, 0, h => by
    have := h (by simp)
    simp at this
    simp [this.1, this.2]
  | e :: l, j + 1, h => by
    simp only [List.modify_succ_cons, List.find?_cons]
    rw [find?_modify g q l j (fun hj => by have := h (by simpa using hj); rwa [List.getElem_cons_succ] at this)]

theorem look_none {l : List MEnt} {r c : Int} (h : ∀ e ∈ l, ¬ (e.r = r ∧ e.c = c)) : lookE l r c = (0, 0, 0, 0) := by
  unfold lookE
  rw [List.find?_eq_none.2 (fun e he => by rw [is_false.2 (h e he)]; simp)]
  rfl

theorem look_drop {l : List MEnt} {clock : Nat} (h : MapOk l clock) (r c r' c' : Int) : lookE (dropE l r c) r' c' = if r' = r ∧ c' = c then (0, 0, 0, 0) else lookE l r' c' := by
  cases hf : l.findIdx? (MEnt.is r c) with
  | none =>
    rw [dropE_none hf]
    rw [List.findIdx?_eq_none_iff] at hf
    by_cases hne : r' = r ∧ c' = c
    · rw [if_pos hne, hne.1, hne.2]
      exact look_none fun e he => is_false.1 (hf e he)
    · rw [if_neg hne]
  | some j =>
    rw [dropE_some hf]
    obtain ⟨hj, hk, _⟩ := List.findIdx?_eq_some_iff_getElem.1 hf
    have hk := is_true.1 hk
    by_cases hne : r' = r ∧ c' = c
    · rw [if_pos hne, hne.1, hne.2]
      refine look_none fun e he hh => ?_
      obtain ⟨i, hi, hi1, hi2⟩ := List.mem_eraseIdx_iff_getElem.1 he
      have hpw := List.pairwise_iff_getElem.1 h.apart
      rcases Nat.lt_or_ge i j with h1 | h1
      · exact hpw i j hi hj h1 (by rw [hi2, hk.1, hk.2]; exact hh)
      · exact hpw j i hj hi (by omega) (by rw [hi2, hk.1, hk.2]; exact ⟨hh.1.symm, hh.2.symm⟩)
    · rw [if_neg hne]
      unfold lookE
      rw [find?_eraseIdx l j (fun _ => is_false.2 (fun e => hne ⟨by rw [← e.1, hk.1], by rw [← e.2, hk.2]⟩))]

/-- What an entry of the list reads as. -/
theorem look_mem {l : List MEnt} {clock : Nat} (h : MapOk l clock) {e : MEnt} (he : e ∈ l) : lookE l e.r e.c = (e.s, e.p, e.k, e.u) := by
  obtain ⟨j, hj, rfl⟩ := List.getElem_of_mem he
  unfold lookE
  rw [find?_idx, find_of h.apart hj ⟨rfl, rfl⟩]
  simp [hj]

theorem look_put {l : List MEnt} {clock : Nat} (h : MapOk l clock) (r c s p k u r' c' : Int) : lookE (putE l clock r c s p k u).1 r' c' = if r' = r ∧ c' = c then (s, p, k, u) else lookE l r' c' := by
  cases hf : l.findIdx? (MEnt.is r c) with
  | none =>
    rw [putE_none hf]
    rw [List.findIdx?_eq_none_iff] at hf
    unfold lookE
    simp only [List.find?_append]
    by_cases hne : r' = r ∧ c' = c
    · rw [if_pos hne, hne.1, hne.2]
      rw [List.find?_eq_none.2 (fun e he => by rw [hf e he]; simp)]
      simp [MEnt.is]
    · rw [if_neg hne]
      have : MEnt.is r' c' ⟨clock, r, c, s, p, k, u⟩ = false := is_false.2 (fun e => hne ⟨e.1.symm, e.2.symm⟩)
      simp [this]
  | some j =>
    rw [putE_some hf]
    obtain ⟨hj, hk, _⟩ := List.findIdx?_eq_some_iff_getElem.1 hf
    have hk := is_true.1 hk
    have hp : (l.modify j (MEnt.with s p k u)).Pairwise fun a b => ¬ (a.r = b.r ∧ a.c = b.c) := pairwise_modify (g := MEnt.with s p k u) (fun a b x => x) (fun a b x => x) h.apart
    by_cases hne : r' = r ∧ c' = c
    · rw [if_pos hne, hne.1, hne.2]
      unfold lookE
      rw [find?_idx, find_of hp (j := j) (by simpa using hj) (by simpa [MEnt.with] using hk)]
      simp [hj, MEnt.with]
    · rw [if_neg hne]
      unfold lookE
      rw [find?_modify _ _ l j (fun _ => ⟨is_false.2 (fun e => hne ⟨by rw [← e.1, hk.1], by rw [← e.2, hk.2]⟩), is_false.2 (fun e => hne ⟨by rw [← e.1]; exact hk.1, by rw [← e.2]; exact hk.2⟩)⟩)]

theorem dropE_mem {l : List MEnt} {r c : Int} {e : MEnt} (h : e ∈ dropE l r c) : e ∈ l := by
  unfold dropE at h
  split at h
  · exact List.mem_of_mem_eraseIdx h
  · exact h
theorem MapOk.drop {l : List MEnt} {clock : Nat} (h : MapOk l clock) (r c : Int) : MapOk (dropE l r c) clock := by
  unfold dropE
  split
  · exact h.erase _
  · exact h
/-- Of other places the entries stay. -/
theorem dropE_mem_of {l : List MEnt} {clock : Nat} {r c : Int} {e : MEnt} (hl : MapOk l clock) (he : e ∈ l) (hne : ¬ (e.r = r ∧ e.c = c)) : e ∈ dropE l r c := by
  cases hf : l.findIdx? (MEnt.is r c) with
  | none => rw [dropE_none hf]; exact he
  | some j =>
    rw [dropE_some hf]
    obtain ⟨hj, hk, _⟩ := List.findIdx?_eq_some_iff_getElem.1 hf
    obtain ⟨i, hi, rfl⟩ := List.getElem_of_mem he
    refine List.mem_eraseIdx_iff_getElem.2 ⟨i, hi, ?_, rfl⟩
    rintro rfl
    exact hne (is_true.1 hk)
theorem putE_mem {l : List MEnt} {clock : Nat} {r c s p k u : Int} {e : MEnt} (h : e ∈ (putE l clock r c s p k u).1) : e ∈ l ∨ (e.r = r ∧ e.c = c ∧ e.s = s) := by
  cases hf : l.findIdx? (MEnt.is r c) with
  | none =>
    rw [putE_none hf] at h
    rcases List.mem_append.1 h with h | h
    · exact .inl h
    · simp at h; subst h; exact .inr ⟨rfl, rfl, rfl⟩
  | some j =>
    rw [putE_some hf] at h
    obtain ⟨hj, hk, _⟩ := List.findIdx?_eq_some_iff_getElem.1 hf
    have hk := is_true.1 hk
    rcases mem_modify_at h with h | ⟨_, rfl⟩
    · exact .inl h
    · exact .inr ⟨hk.1, hk.2, rfl⟩
end Go.Proofs.Ythhibagcpjeihaa
/- A flight's counts: one seat more or less; what is left, reckoned. -/
namespace Go.Proofs.Ythhibagcpjeihaa
open Go.RowKit
open M
set_option linter.unusedVariables false
set_option linter.unusedSimpArgs false
set_option maxRecDepth 100000

theorem sold_any (n : Nat) (pa cl un : Int) (w : World) :
    Calls Try.prog 104 #[.agg #[.int .i64 n, .int .i64 pa, .int .i64 cl, .int .i64 un]] w fun e w' => e = .returned (.bool (decide (n = 1 ∨ n = 2))) ∧ Mod No w w' := by
  by_cases h1 : n = 1
  · subst h1
    go_enter Try.func104, Try.ntmps104
    go_wp2
    go_ret
    exact ⟨rfl, (Mod.refl _ _).alloc _⟩
  · have h1' : ((n : Int) == 1) = false := by simp; omega
    by_cases h2 : n = 2
    · subst h2
      go_enter Try.func104, Try.ntmps104
      go_wp2
      go_ret
      exact ⟨rfl, (Mod.refl _ _).alloc _⟩
    · have h2' : ((n : Int) == 2) = false := by simp; omega
      go_enter Try.func104, Try.ntmps104
      go_wp2
      go_ret
      exact ⟨by simp [h1, h2, h1', h2'], (Mod.refl _ _).alloc _⟩

/-- A store into the one block. -/
theorem Mod.at {a w : World} {b : Nat} (h : Mod (fun k => k = b) a w) (o : Nat) (v : Value) : Mod (fun k => k = b) a (w.setCell ⟨b, o, none⟩ v) := Mod.setCell (S := fun k => k = b) h (p := ⟨b, o, none⟩) (.inl rfl) v

/-- The counts, a seat more or less. -/
def tallied (cs : Array Value) (base n k : Nat) (x y times : Int) : Array Value :=
  if n = 1 ∨ n = 2 then (cs.setIfInBounds (base + n) (.int .i64 (x + times))).setIfInBounds (16 + k) (.int .i64 (y + times)) else cs.setIfInBounds (base + n) (.int .i64 (x + times))

theorem tally_core (b n k base : Nat) (cs : Array Value) (row col pa un front x y times : Int) (w : World) (h : Has w b cs 138) (h2 : cs[2]? = some (.int .i64 front))
    (hbase : (row ≤ front ∧ base = 8) ∨ (¬ row ≤ front ∧ base = 12)) (hn : n < 4) (hk : k < 4)
    (hx : cs[base + n]? = some (.int .i64 x)) (hy : cs[16 + k]? = some (.int .i64 y)) (bx : -100000 ≤ x ∧ x ≤ 100000) (by_ : -100000 ≤ y ∧ y ≤ 100000) (bt : -1 ≤ times ∧ times ≤ 1) :
    Calls Try.prog 105 #[.pointer (some ⟨b, 0, none⟩), .agg #[.int .i64 row, .int .i64 col], .agg #[.int .i64 n, .int .i64 pa, .int .i64 k, .int .i64 un], .int .i64 times] w fun e w' =>
      e = .returned (.tuple #[]) ∧ Mod (· = b) w w' ∧
        Has w' b (tallied cs base n k x y times) 138 := by
  have hlt := h.lt
  have c2 := h.cell 2
  have cx := h.cell (base + n)
  have cy := h.cell (16 + k)
  have hz := h.frozen
  rw [h2] at c2
  rw [hx] at cx
  rw [hy] at cy
  have H := hide h
  have w1 := wrap_id (x + times) (by omega) (by omega)
  have HY := hide hy
  clear h h2 hx hy
  have hn' : (n : Int) < 4 := by omega
  have hk' : (k : Int) < 4 := by omega
  rcases hbase with ⟨hr, rfl⟩ | ⟨hr, rfl⟩
  · go_enter Try.func105, Try.ntmps105
    go_wp2
    go_quiet (fail)
    go_wp2
    go_region
    go_wp2_with fail
    refine (sold_any n pa k un _).mono ?_
    rintro e w3 ⟨rfl, hm⟩
    have hb3 : Has w3 b (cs.setIfInBounds (8 + n) (.int .i64 (x + times))) 138 := hm.has (((((unhide H).alloc _).alloc _).drewN (nq + 1)).set (8 + n) _) (fun x => x)
    have hs0 : Has w3 (w.heap.size + 1) #[.int .i64 n, .int .i64 pa, .int .i64 k, .int .i64 un] 170 :=
      hm.has (Has.set_ne (Has.drewN (by have := Has.new (w.alloc (.cells #[.int .i64 row, .int .i64 col] 32)) #[.int .i64 n, .int .i64 pa, .int .i64 k, .int .i64 un] 170; rwa [World.size_alloc] at this) (nq + 1)) (by simp; omega) _) (fun x => x)
    have m3 : Mod (· = b) w w3 := ((((((Mod.refl _ w).alloc _).alloc _).drewN (nq + 1)).at (8 + n) _)).trans (hm.mono (fun _ _ x => x.elim))
    have y3 := hb3.cell (16 + k)
    have z3 := hb3.frozen
    have s3 := hs0.cell 2
    rw [Array.getElem?_setIfInBounds, if_neg (by omega), (unhide HY)] at y3
    simp only [List.getElem?_toArray, List.getElem?_cons_succ, List.getElem?_cons_zero] at s3
    have HB3 := hide hb3
    have M3 := hide m3
    clear hm hb3 hs0 m3 c2 cx cy hz w1
    by_cases hst : n = 1 ∨ n = 2
    · have hd : decide (n = 1 ∨ n = 2) = true := decide_eq_true hst
      rw [hd]
      have HST := hide hst
      clear hst hd
      have w2 := wrap_id (y + times) (by omega) (by omega)
      go_wp2_with fail
      go_region
      go_wp2
      go_end0
      refine ⟨rfl, ((unhide M3).at (16 + k) _).drew, ?_⟩
      unfold tallied
      rw [if_pos (unhide HST)]
      exact (unhide HB3).set (16 + k) _
    · have hd : decide (n = 1 ∨ n = 2) = false := decide_eq_false hst
      rw [hd]
      have HST := hide hst
      clear hst hd
      go_wp2
      go_end0
      refine ⟨rfl, unhide M3, ?_⟩
      unfold tallied
      rw [if_neg (unhide HST)]
      exact unhide HB3
  · go_enter Try.func105, Try.ntmps105
    go_wp2
    go_quiet (fail)
    go_wp2
    go_region
    go_wp2_with fail
    refine (sold_any n pa k un _).mono ?_
    rintro e w3 ⟨rfl, hm⟩
    have hb3 : Has w3 b (cs.setIfInBounds (12 + n) (.int .i64 (x + times))) 138 := hm.has (((((unhide H).alloc _).alloc _).drewN (nq + 1)).set (12 + n) _) (fun x => x)
    have hs0 : Has w3 (w.heap.size + 1) #[.int .i64 n, .int .i64 pa, .int .i64 k, .int .i64 un] 170 :=
      hm.has (Has.set_ne (Has.drewN (by have := Has.new (w.alloc (.cells #[.int .i64 row, .int .i64 col] 32)) #[.int .i64 n, .int .i64 pa, .int .i64 k, .int .i64 un] 170; rwa [World.size_alloc] at this) (nq + 1)) (by simp; omega) _) (fun x => x)
    have m3 : Mod (· = b) w w3 := ((((((Mod.refl _ w).alloc _).alloc _).drewN (nq + 1)).at (12 + n) _)).trans (hm.mono (fun _ _ x => x.elim))
    have y3 := hb3.cell (16 + k)
    have z3 := hb3.frozen
    have s3 := hs0.cell 2
    rw [Array.getElem?_setIfInBounds, if_neg (by omega), (unhide HY)] at y3
    simp only [List.getElem?_toArray, List.getElem?_cons_succ, List.getElem?_cons_zero] at s3
    have HB3 := hide hb3
    have M3 := hide m3
    clear hm hb3 hs0 m3 c2 cx cy hz w1
    by_cases hst : n = 1 ∨ n = 2
    · have hd : decide (n = 1 ∨ n = 2) = true := decide_eq_true hst
      rw [hd]
      have HST := hide hst
      clear hst hd
      have w2 := wrap_id (y + times) (by omega) (by omega)
      go_wp2_with fail
      go_region
      go_wp2
      go_end0
      refine ⟨rfl, ((unhide M3).at (16 + k) _).drew, ?_⟩
      unfold tallied
      rw [if_pos (unhide HST)]
      exact (unhide HB3).set (16 + k) _
    · have hd : decide (n = 1 ∨ n = 2) = false := decide_eq_false hst
      rw [hd]
      have HST := hide hst
      clear hst hd
      go_wp2
      go_end0
      refine ⟨rfl, unhide M3, ?_⟩
      unfold tallied
      rw [if_neg (unhide HST)]
      exact unhide HB3
end Go.Proofs.Ythhibagcpjeihaa
/- What is left of the classes, reckoned anew from the counts. -/
namespace Go.Proofs.Ythhibagcpjeihaa
open Go.RowKit
open M
set_option linter.unusedVariables false
set_option linter.unusedSimpArgs false
set_option maxRecDepth 100000

theorem idx40_0 (x0 x1 x2 x3 : Value) (w : World) : (Instr.index 33 (.agg #[x0, x1, x2, x3]) (.int .i64 0)).run Try.prog w = .ok x0 w := by simp [go_sem, Instr.index]
theorem idx40_1 (x0 x1 x2 x3 : Value) (w : World) : (Instr.index 33 (.agg #[x0, x1, x2, x3]) (.int .i64 1)).run Try.prog w = .ok x1 w := by simp [go_sem, Instr.index]
theorem idx40_2 (x0 x1 x2 x3 : Value) (w : World) : (Instr.index 33 (.agg #[x0, x1, x2, x3]) (.int .i64 2)).run Try.prog w = .ok x2 w := by simp [go_sem, Instr.index]
theorem idx40_3 (x0 x1 x2 x3 : Value) (w : World) : (Instr.index 33 (.agg #[x0, x1, x2, x3]) (.int .i64 3)).run Try.prog w = .ok x3 w := by simp [go_sem, Instr.index]
theorem run_min2 (ty : TypeId) (x y : Int) (w : World) : (Builtin.min_ #[3, 3] ty #[.int .i64 x, .int .i64 y]).run Try.prog w = .ok (.int .i64 (min x y)) w := by
  have : (if y < x then y else x) = min x y := by split <;> omega
  simp [Builtin.min_, Builtin.min2, this]
theorem run_max2 (ty : TypeId) (x y : Int) (w : World) : (Builtin.max_ #[3, 3] ty #[.int .i64 x, .int .i64 y]).run Try.prog w = .ok (.int .i64 (max x y)) w := by
  have : (if x < y then y else x) = max x y := by split <;> omega
  simp [Builtin.max_, Builtin.max2, this]
attribute [local go_sem] idx40_0 idx40_1 idx40_2 idx40_3
attribute [local go_sem ↓] run_min2 run_max2

/-- A flight's cells. -/
def fcs (r c f l0 l1 l2 l3 : Int) (m : Value) (a0 a1 a2 a3 b0 b1 b2 b3 s0 s1 s2 s3 e0 e1 e2 e3 ep : Int) : Array Value :=
  #[.int .i64 r, .int .i64 c, .int .i64 f, .int .i64 l0, .int .i64 l1, .int .i64 l2, .int .i64 l3, m, .int .i64 a0, .int .i64 a1, .int .i64 a2, .int .i64 a3,
    .int .i64 b0, .int .i64 b1, .int .i64 b2, .int .i64 b3, .int .i64 s0, .int .i64 s1, .int .i64 s2, .int .i64 s3, .int .i64 e0, .int .i64 e1, .int .i64 e2, .int .i64 e3, .int .i64 ep]

theorem reckon_any (b : Nat) (r c f l0 l1 l2 l3 : Int) (m : Value) (a0 a1 a2 a3 b0 b1 b2 b3 s0 s1 s2 s3 e0 e1 e2 e3 ep : Int) (w : World)
    (h : Has w b (fcs r c f l0 l1 l2 l3 m a0 a1 a2 a3 b0 b1 b2 b3 s0 s1 s2 s3 e0 e1 e2 e3 ep) 138)
    (ha : 0 ≤ a0 ∧ a0 ≤ 1000 ∧ 0 ≤ b0 ∧ b0 ≤ 1000) (hs : 0 ≤ s0 ∧ s0 ≤ 1000 ∧ 0 ≤ s1 ∧ s1 ≤ 1000 ∧ 0 ≤ s2 ∧ s2 ≤ 1000 ∧ 0 ≤ s3 ∧ s3 ≤ 1000)
    (hl : 0 ≤ l0 ∧ l0 ≤ 1000 ∧ 0 ≤ l1 ∧ l1 ≤ 1000 ∧ 0 ≤ l2 ∧ l2 ≤ 1000 ∧ 0 ≤ l3 ∧ l3 ≤ 1000) :
    Calls Try.prog 106 #[.pointer (some ⟨b, 0, none⟩)] w fun e w' => e = .returned (.tuple #[]) ∧ Mod (fun k => k = b) w w' ∧
      Has w' b (fcs r c f l0 l1 l2 l3 m a0 a1 a2 a3 b0 b1 b2 b3 s0 s1 s2 s3
        (max (min (a0 + b0) (l0 - (s0 + s1 + s2 + s3))) 0) (max (min (min (a0 + b0) (l0 - (s0 + s1 + s2 + s3))) (l1 - (s1 + s2 + s3))) 0)
        (max (min (min (min (a0 + b0) (l0 - (s0 + s1 + s2 + s3))) (l1 - (s1 + s2 + s3))) (l2 - (s2 + s3))) 0)
        (max (min (min (min (min (a0 + b0) (l0 - (s0 + s1 + s2 + s3))) (l1 - (s1 + s2 + s3))) (l2 - (s2 + s3))) (l3 - s3)) 0) ep) 138 := by
  have hc := h.cell
  unfold fcs at hc
  have H := hide h
  clear h
  go_enter Try.func106, Try.ntmps106
  go_wp2
  go_loopw [2, 13] (fun n i wr => ((i = .int .i64 0 ∧ n = .int .i64 0) ∨ (i = .int .i64 1 ∧ n = .int .i64 s0) ∨ (i = .int .i64 2 ∧ n = .int .i64 (s0 + s1)) ∨ (i = .int .i64 3 ∧ n = .int .i64 (s0 + s1 + s2)) ∨ (i = .int .i64 4 ∧ n = .int .i64 (s0 + s1 + s2 + s3))) ∧ wr = w) (fun _ i _ => 4 - (intOf i).toNat)
  case atStart => exact ⟨.inl ⟨rfl, rfl⟩, rfl⟩
  case round =>
    obtain ⟨hr, hm⟩ := hrel
    subst hm
    rcases hr with ⟨rfl, rfl⟩ | ⟨rfl, rfl⟩ | ⟨rfl, rfl⟩ | ⟨rfl, rfl⟩ | ⟨rfl, rfl⟩
    · go_wp2
      go_roundw
      · exact ⟨.inr (.inl ⟨rfl, rfl⟩), trivial⟩
      · simp [intOf]
    · go_wp2
      go_roundw
      · exact ⟨.inr (.inr (.inl ⟨rfl, rfl⟩)), trivial⟩
      · simp [intOf]
    · go_wp2
      go_roundw
      · exact ⟨.inr (.inr (.inr (.inl ⟨rfl, rfl⟩))), trivial⟩
      · simp [intOf]
    · go_wp2
      go_roundw
      · exact ⟨.inr (.inr (.inr (.inr ⟨rfl, rfl⟩))), trivial⟩
      · simp [intOf]
    · go_wp2
      go_quiet (fail)
      go_wp2
      have HA := hide ha
      have HS := hide hs
      have HL := hide hl
      clear hc
      generalize hT : s0 + s1 + s2 + s3 = T0 at *
      generalize hA : a0 + b0 = A at *
      have HT := hide hT
      have HAA := hide hA
      have bT : 0 ≤ T0 ∧ T0 ≤ 4000 ∧ 0 ≤ A ∧ A ≤ 2000 := by omega
      clear hT hA
      go_loopw [2, 5, 38] (fun n g i wx => ∃ t q x0 x1 x2 x3 : Int, n = .int .i64 t ∧ g = .int .i64 q ∧ 0 ≤ t ∧ t ≤ 4000 ∧ -5000 ≤ q ∧ q ≤ 5000 ∧ Hid (Has wx b (fcs r c f l0 l1 l2 l3 m a0 a1 a2 a3 b0 b1 b2 b3 s0 s1 s2 s3 x0 x1 x2 x3 ep) 138) ∧ Hid (Mod (fun k => k = b) wr wx) ∧
          ((i = .int .i64 0 ∧ Hid (t = T0 ∧ q = A)) ∨ (i = .int .i64 1 ∧ Hid (t = T0 - s0 ∧ q = min A (l0 - T0) ∧ x0 = max (min A (l0 - T0)) 0)) ∨
           (i = .int .i64 2 ∧ Hid (t = T0 - s0 - s1 ∧ q = min (min A (l0 - T0)) (l1 - (T0 - s0)) ∧ x0 = max (min A (l0 - T0)) 0 ∧ x1 = max (min (min A (l0 - T0)) (l1 - (T0 - s0))) 0)) ∨
           (i = .int .i64 3 ∧ Hid (t = T0 - s0 - s1 - s2 ∧ q = min (min (min A (l0 - T0)) (l1 - (T0 - s0))) (l2 - (T0 - s0 - s1)) ∧ x0 = max (min A (l0 - T0)) 0 ∧ x1 = max (min (min A (l0 - T0)) (l1 - (T0 - s0))) 0 ∧ x2 = max (min (min (min A (l0 - T0)) (l1 - (T0 - s0))) (l2 - (T0 - s0 - s1))) 0)) ∨
           (i = .int .i64 4 ∧ Hid (x0 = max (min A (l0 - T0)) 0 ∧ x1 = max (min (min A (l0 - T0)) (l1 - (T0 - s0))) 0 ∧ x2 = max (min (min (min A (l0 - T0)) (l1 - (T0 - s0))) (l2 - (T0 - s0 - s1))) 0 ∧
              x3 = max (min (min (min (min A (l0 - T0)) (l1 - (T0 - s0))) (l2 - (T0 - s0 - s1))) (l3 - (T0 - s0 - s1 - s2))) 0)))) (fun _ _ i _ => 4 - (intOf i).toNat)
      case atStart => exact ⟨T0, A, e0, e1, e2, e3, rfl, rfl, by omega, by omega, by omega, by omega, H, (Mod.refl _ _).drewN _, .inl ⟨rfl, rfl, rfl⟩⟩
      case round =>
        obtain ⟨t, q, x0, x1, x2, x3, rfl, rfl, t0, t1, q0, q1, hh, hm, hr⟩ := hrel
        have hc := (unhide hh).cell
        have hz := (unhide hh).frozen
        unfold fcs at hc
        rcases hr with ⟨rfl, hr⟩ | ⟨rfl, hr⟩ | ⟨rfl, hr⟩ | ⟨rfl, hr⟩ | ⟨rfl, hr⟩
        · go_wp2
          go_roundw
          · obtain ⟨r1, r2⟩ := unhide hr
            have hs' := unhide HS
            have hT' := unhide HT
            have hset := (unhide hh).set 20 (.int .i64 (max (min q (l0 - t)) 0))
            refine ⟨t - s0, min q (l0 - t), max (min q (l0 - t)) 0, x1, x2, x3, rfl, rfl, by omega, by omega, by omega, by omega, hset, (unhide hm).at 20 _, .inr (.inl ⟨rfl, ?_, ?_, ?_⟩)⟩
            · rw [r1]
            · rw [r1, r2]
            · rw [r1, r2]
          · simp [intOf]
        · go_wp2
          go_roundw
          · obtain ⟨r1, r2, r3⟩ := unhide hr
            have hs' := unhide HS
            have hT' := unhide HT
            have hset := (unhide hh).set 21 (.int .i64 (max (min q (l1 - t)) 0))
            refine ⟨t - s1, min q (l1 - t), x0, max (min q (l1 - t)) 0, x2, x3, rfl, rfl, by omega, by omega, by omega, by omega, hset, (unhide hm).at 21 _, .inr (.inr (.inl ⟨rfl, ?_, ?_, r3, ?_⟩))⟩
            · rw [r1]
            · rw [r1, r2]
            · rw [r1, r2]
          · simp [intOf]
        · go_wp2
          go_roundw
          · obtain ⟨r1, r2, r3, r4⟩ := unhide hr
            have hs' := unhide HS
            have hT' := unhide HT
            have hset := (unhide hh).set 22 (.int .i64 (max (min q (l2 - t)) 0))
            refine ⟨t - s2, min q (l2 - t), x0, x1, max (min q (l2 - t)) 0, x3, rfl, rfl, by omega, by omega, by omega, by omega, hset, (unhide hm).at 22 _, .inr (.inr (.inr (.inl ⟨rfl, ?_, ?_, r3, r4, ?_⟩)))⟩
            · rw [r1]
            · rw [r1, r2]
            · rw [r1, r2]
          · simp [intOf]
        · go_wp2
          go_roundw
          · obtain ⟨r1, r2, r3, r4, r5⟩ := unhide hr
            have hs' := unhide HS
            have hT' := unhide HT
            have hset := (unhide hh).set 23 (.int .i64 (max (min q (l3 - t)) 0))
            refine ⟨t - s3, min q (l3 - t), x0, x1, x2, max (min q (l3 - t)) 0, rfl, rfl, by omega, by omega, by omega, by omega, hset, (unhide hm).at 23 _, .inr (.inr (.inr (.inr ⟨rfl, r3, r4, r5, ?_⟩)))⟩
            rw [r1, r2]
          · simp [intOf]
        · go_wp2
          go_end0
          obtain ⟨r0, r1, r2, r3⟩ := unhide hr
          have hT := unhide HT
          have hA := unhide HAA
          have i1 : s1 + s2 + s3 = T0 - s0 := by omega
          have i2 : s2 + s3 = T0 - s0 - s1 := by omega
          have i3 : s3 = T0 - s0 - s1 - s2 := by omega
          refine ⟨rfl, unhide hm, ?_⟩
          rw [hT, hA, i1, i2]
          have hh := unhide hh
          rw [r0, r1, r2, r3, ← i3] at hh
          exact hh
end Go.Proofs.Ythhibagcpjeihaa
/- A seat is written: the map, the counts, what is left. -/
namespace Go.Proofs.Ythhibagcpjeihaa
open Go.RowKit
open Go.ChangeMaps (setBlock)
open M
set_option linter.unusedVariables false
set_option linter.unusedSimpArgs false
set_option maxRecDepth 100000

def upd (a : Nat → Int) (n : Nat) (v : Int) : Nat → Int := fun j => if j = n then v else a j
/-- A flight's cells, by functions of the state and of the class. -/
def fcf (p : Pla) (m : Value) (a b s e : Nat → Int) : Array Value :=
  fcs p.rows p.cols p.front p.l0 p.l1 p.l2 p.l3 m (a 0) (a 1) (a 2) (a 3) (b 0) (b 1) (b 2) (b 3) (s 0) (s 1) (s 2) (s 3) (e 0) (e 1) (e 2) (e 3) p.ep
def bumpS (n k : Nat) (t : Int) (s : Nat → Int) : Nat → Int := if n = 1 ∨ n = 2 then upd s k (s k + t) else s

theorem fcf_a (p : Pla) (m : Value) (a b s e : Nat → Int) (n : Nat) (hn : n < 4) (v : Int) : (fcf p m a b s e).setIfInBounds (8 + n) (.int .i64 v) = fcf p m (upd a n v) b s e := by
  match n, hn with
  | 0, _ => rfl
  | 1, _ => rfl
  | 2, _ => rfl
  | 3, _ => rfl
theorem fcf_b (p : Pla) (m : Value) (a b s e : Nat → Int) (n : Nat) (hn : n < 4) (v : Int) : (fcf p m a b s e).setIfInBounds (12 + n) (.int .i64 v) = fcf p m a (upd b n v) s e := by
  match n, hn with
  | 0, _ => rfl
  | 1, _ => rfl
  | 2, _ => rfl
  | 3, _ => rfl
theorem fcf_s (p : Pla) (m : Value) (a b s e : Nat → Int) (n : Nat) (hn : n < 4) (v : Int) : (fcf p m a b s e).setIfInBounds (16 + n) (.int .i64 v) = fcf p m a b (upd s n v) e := by
  match n, hn with
  | 0, _ => rfl
  | 1, _ => rfl
  | 2, _ => rfl
  | 3, _ => rfl
theorem fcf_at (p : Pla) (m : Value) (a b s e : Nat → Int) (n : Nat) (hn : n < 4) : (fcf p m a b s e)[8 + n]? = some (.int .i64 (a n)) ∧ (fcf p m a b s e)[12 + n]? = some (.int .i64 (b n)) ∧ (fcf p m a b s e)[16 + n]? = some (.int .i64 (s n)) := by
  match n, hn with
  | 0, _ => exact ⟨rfl, rfl, rfl⟩
  | 1, _ => exact ⟨rfl, rfl, rfl⟩
  | 2, _ => exact ⟨rfl, rfl, rfl⟩
  | 3, _ => exact ⟨rfl, rfl, rfl⟩

/-- The bounds of all counts. -/
def Small (a : Nat → Int) : Prop := ∀ j, j < 4 → -100000 ≤ a j ∧ a j ≤ 100000

theorem tally_any (b n k : Nat) (p : Pla) (m : Value) (fa fb fs fe : Nat → Int) (row col pa un times : Int) (w : World) (h : Has w b (fcf p m fa fb fs fe) 138)
    (hn : n < 4) (hk : k < 4) (ha : Small fa) (hb : Small fb) (hs : Small fs) (bt : -1 ≤ times ∧ times ≤ 1) :
    Calls Try.prog 105 #[.pointer (some ⟨b, 0, none⟩), .agg #[.int .i64 row, .int .i64 col], .agg #[.int .i64 n, .int .i64 pa, .int .i64 k, .int .i64 un], .int .i64 times] w fun e w' =>
      e = .returned (.tuple #[]) ∧ Mod (fun k => k = b) w w' ∧
        Has w' b (fcf p m (if row ≤ p.front then upd fa n (fa n + times) else fa) (if row ≤ p.front then fb else upd fb n (fb n + times)) (bumpS n k times fs) fe) 138 := by
  obtain ⟨ga, gb, gs⟩ := fcf_at p m fa fb fs fe n hn
  have gk := (fcf_at p m fa fb fs fe k hk).2.2
  by_cases hr : row ≤ p.front
  · refine (tally_core b n k 8 _ row col pa un p.front (fa n) (fs k) times w h rfl (.inl ⟨hr, rfl⟩) hn hk ga gk (ha n hn) (hs k hk) bt).mono ?_
    rintro e w' ⟨rfl, hm, hh⟩
    refine ⟨rfl, hm, ?_⟩
    rw [if_pos hr, if_pos hr]
    unfold tallied at hh
    unfold bumpS
    split at hh
    · rename_i h1
      rw [fcf_a _ _ _ _ _ _ _ hn, fcf_s _ _ _ _ _ _ _ hk] at hh
      rw [if_pos h1]
      exact hh
    · rename_i h1
      rw [fcf_a _ _ _ _ _ _ _ hn] at hh
      rw [if_neg h1]
      exact hh
  · refine (tally_core b n k 12 _ row col pa un p.front (fb n) (fs k) times w h rfl (.inr ⟨hr, rfl⟩) hn hk gb gk (hb n hn) (hs k hk) bt).mono ?_
    rintro e w' ⟨rfl, hm, hh⟩
    refine ⟨rfl, hm, ?_⟩
    rw [if_neg hr, if_neg hr]
    unfold tallied at hh
    unfold bumpS
    split at hh
    · rename_i h1
      rw [fcf_b _ _ _ _ _ _ _ hn, fcf_s _ _ _ _ _ _ _ hk] at hh
      rw [if_pos h1]
      exact hh
    · rename_i h1
      rw [fcf_b _ _ _ _ _ _ _ hn] at hh
      rw [if_neg h1]
      exact hh

/-- The counts of a list of seats. -/
def cA (p : Pla) (l : List Sea) : Nat → Int := fun j => nAt p true j l
def cB (p : Pla) (l : List Sea) : Nat → Int := fun j => nAt p false j l
def cS (l : List Sea) : Nat → Int := fun j => nSold j l
def cE (p : Pla) (l : List Sea) : Nat → Int := fun j => M.leftOf p l j
def fcells (p : Pla) (m : Value) (l : List Sea) : Array Value := fcf p m (cA p l) (cB p l) (cS l) (cE p l)

/-- The entries are those of the seats that are not free. -/
structure MapRel (es : List MEnt) (p : Pla) (l : List Sea) : Prop where
  ent : ∀ e ∈ es, p.has e.r e.c = true ∧ e.s ≠ 0
  seat : ∀ i (h : i < l.length), lookE es l[i].row l[i].col = (l[i].st, l[i].pa, l[i].cl, l[i].un)
  size : es.length = l.countP fun s => s.st != 0

/-- A flight in memory. -/
def FlH (w : World) (S : Nat → Prop) (b : Nat) (p : Pla) (l : List Sea) : Prop :=
  ∃ m es clock, Has w b (fcells p (.map (some m)) l) 138 ∧ w.heap[m]? = some (mapObj es clock) ∧ MapOk es clock ∧ MapRel es p l ∧ S b ∧ S m

theorem Mod.map {S : Nat → Prop} {w w' : World} (h : Mod S w w') {m : Nat} {es : List MEnt} {clock : Nat} (hm : w.heap[m]? = some (mapObj es clock)) (hs : ¬ S m) : w'.heap[m]? = some (mapObj es clock) := by
  rw [h.block m (Array.getElem?_eq_some_iff.1 hm).1 hs]; exact hm
theorem FlH.mod {w w' : World} {S S' : Nat → Prop} {b : Nat} {p : Pla} {l : List Sea} (h : FlH w S b p l) (hm : Mod S' w w') (hs : ∀ k, S k → ¬ S' k) : FlH w' S b p l := by
  obtain ⟨m, es, clock, h1, h2, h3, h4, h5, h6⟩ := h
  exact ⟨m, es, clock, hm.has h1 (hs b h5), hm.map h2 (hs m h6), h3, h4, h5, h6⟩
theorem FlH.mod0 {w w' : World} {S : Nat → Prop} {b : Nat} {p : Pla} {l : List Sea} (h : FlH w S b p l) (hm : Mod No w w') : FlH w' S b p l := h.mod hm (fun _ _ x => x)

theorem small_count (l : List Sea) (hl : l.length ≤ 1000) (q : Sea → Bool) : 0 ≤ ((l.countP q : Nat) : Int) ∧ ((l.countP q : Nat) : Int) ≤ 1000 := by
  have := List.countP_le_length (p := q) (l := l)
  omega

theorem Has.map_ne {w : World} {b m : Nat} {cs : Array Value} {T : TypeId} {es : List MEnt} {clock : Nat} (h : Has w b cs T) (hm : w.heap[m]? = some (mapObj es clock)) : m ≠ b := by
  rintro rfl
  unfold Has at h
  rw [h] at hm
  simp [mapObj] at hm

theorem setBlock_has {w : World} {b m : Nat} {cs : Array Value} {T : TypeId} (h : Has w b cs T) (hne : m ≠ b) (o : Obj) : Has (setBlock w m o) b cs T := by
  unfold Has at h ⊢
  simp [setBlock, Array.getElem?_setIfInBounds, hne, h]
theorem setBlock_at {w : World} {m : Nat} (h : m < w.heap.size) (o' : Obj) : (setBlock w m o').heap[m]? = some o' := by
  simp [setBlock, Array.getElem?_setIfInBounds, h]
theorem Mod.setBlock {S : Nat → Prop} {a w : World} (h : Mod S a w) {m : Nat} (hm : S m ∨ a.heap.size ≤ m) (o : Obj) : Mod S a (setBlock w m o) := by
  refine h.trans' (S' := fun k => k = m) ⟨rfl, rfl, rfl, by simp [ChangeMaps.setBlock], fun k hk hne => ?_⟩ (fun i hi hl => by subst hi; rcases hm with h | h; exact h; omega)
  simp [ChangeMaps.setBlock, Array.getElem?_setIfInBounds]
  intro e
  exact absurd e.symm hne

set_option maxHeartbeats 4000000 in
theorem put_walk (b m n k n' k' : Nat) (p : Pla) (fa fb fs fe fa1 fb1 fs1 fa2 fb2 fs2 fe2 : Nat → Int) (r c pa un pa' un' : Int) (w : World) (es es' : List MEnt) (clock clock' : Nat) (h : Has w b (fcf p (.map (some m)) fa fb fs fe) 138)
    (hmap : w.heap[m]? = some (mapObj es clock))
    (hL : ∀ W : World, W.heap[m]? = some (mapObj es clock) → (Instr.lookup 136 (.map (some m)) (.agg #[.int .i64 r, .int .i64 c]) false).run Try.prog W = .ok (.agg #[.int .i64 n, .int .i64 pa, .int .i64 k, .int .i64 un]) W)
    (hD : n' = 0 → ∀ (W : World) ty, W.heap[m]? = some (mapObj es clock) → (Builtin.delete_ #[136, 32] ty #[.map (some m), .agg #[.int .i64 r, .int .i64 c]]).run Try.prog W = .ok (.tuple #[]) (setBlock W m (mapObj es' clock')))
    (hU : n' ≠ 0 → ∀ W : World, W.heap[m]? = some (mapObj es clock) → (Instr.mapUpdate 136 (.map (some m)) (.agg #[.int .i64 r, .int .i64 c]) (.agg #[.int .i64 n', .int .i64 pa', .int .i64 k', .int .i64 un'])).run Try.prog W = .ok () (setBlock W m (mapObj es' clock')))
    (hT1 : ∀ W, Has W b (fcf p (.map (some m)) fa fb fs fe) 138 → Calls Try.prog 105 #[.pointer (some ⟨b, 0, none⟩), .agg #[.int .i64 r, .int .i64 c], .agg #[.int .i64 n, .int .i64 pa, .int .i64 k, .int .i64 un], .int .i64 (-1)] W fun e w' => e = .returned (.tuple #[]) ∧ Mod (fun k => k = b) W w' ∧ Has w' b (fcf p (.map (some m)) fa1 fb1 fs1 fe) 138)
    (hT2 : ∀ W, Has W b (fcf p (.map (some m)) fa1 fb1 fs1 fe) 138 → Calls Try.prog 105 #[.pointer (some ⟨b, 0, none⟩), .agg #[.int .i64 r, .int .i64 c], .agg #[.int .i64 n', .int .i64 pa', .int .i64 k', .int .i64 un'], .int .i64 1] W fun e w' => e = .returned (.tuple #[]) ∧ Mod (fun k => k = b) W w' ∧ Has w' b (fcf p (.map (some m)) fa2 fb2 fs2 fe) 138)
    (hR : ∀ W, Has W b (fcf p (.map (some m)) fa2 fb2 fs2 fe) 138 → Calls Try.prog 106 #[.pointer (some ⟨b, 0, none⟩)] W fun e w' => e = .returned (.tuple #[]) ∧ Mod (fun k => k = b) W w' ∧ Has w' b (fcf p (.map (some m)) fa2 fb2 fs2 fe2) 138) :
    Calls Try.prog 102 #[.pointer (some ⟨b, 0, none⟩), .agg #[.int .i64 r, .int .i64 c], .agg #[.int .i64 n', .int .i64 pa', .int .i64 k', .int .i64 un']] w fun e w' =>
      e = .returned (.tuple #[]) ∧ Mod (fun k => k = b ∨ k = m) w w' ∧ Has w' b (fcf p (.map (some m)) fa2 fb2 fs2 fe2) 138 ∧ w'.heap[m]? = some (mapObj es' clock') := by
  have hmb := h.map_ne hmap
  have hlt := h.lt
  have c7 := h.cell 7
  rw [show (fcf p (.map (some m)) fa fb fs fe)[7]? = some (.map (some m)) from rfl] at c7
  have hL' := hL (((w.alloc (.cells #[.int .i64 r, .int .i64 c] 32)).alloc (.cells #[.int .i64 n', .int .i64 pa', .int .i64 k', .int .i64 un'] 170))).drew (by
    have := Mod.map (Mod.refl No w |>.alloc (.cells #[.int .i64 r, .int .i64 c] 32) |>.alloc (.cells #[.int .i64 n', .int .i64 pa', .int .i64 k', .int .i64 un'] 170) |>.drew) hmap (fun x => x)
    exact this)
  have H := hide h
  have HM := hide hmap
  have HD := hide hD
  have HU := hide hU
  have HT1 := hide hT1
  have HT2 := hide hT2
  have HR := hide hR
  have HMB := hide hmb
  clear h hmap hL hD hU hT1 hT2 hR hmb
  go_enter Try.func102, Try.ntmps102
  go_wp2_with fail
  go_cut [] (fun wx => Hid (Has wx b (fcf p (.map (some m)) fa1 fb1 fs1 fe) 138) ∧ Hid (Mod (fun k => k = b) ((w.alloc (.cells #[.int .i64 r, .int .i64 c] 32)).alloc (.cells #[.int .i64 n', .int .i64 pa', .int .i64 k', .int .i64 un'] 170)) wx))
  case first =>
    go_region_with (go_at_call 105; refine ((unhide HT1) _ ?_).mono ?_; exact (((unhide H).alloc _).alloc _).drew; rintro e w3 ⟨rfl, hm3, hh3⟩)
    all_goals go_wp2
    all_goals go_meet
    all_goals exact ⟨hh3, (Mod.refl _ _).drew.trans hm3⟩
  case rest =>
    obtain ⟨h3, m3⟩ := hcut
    have hmap := unhide HM
    have hmb := unhide HMB
    have hml := (Array.getElem?_eq_some_iff.1 hmap).1
    have mw : Mod No w ((w.alloc (.cells #[.int .i64 r, .int .i64 c] 32)).alloc (.cells #[.int .i64 n', .int .i64 pa', .int .i64 k', .int .i64 un'] 170)) := ((Mod.refl _ w).alloc _).alloc _
    have B1 : Has ((w.alloc (.cells #[.int .i64 r, .int .i64 c] 32)).alloc (.cells #[.int .i64 n', .int .i64 pa', .int .i64 k', .int .i64 un'] 170)) w.heap.size #[.int .i64 r, .int .i64 c] 32 := (Has.new w _ _).alloc _
    have B2 : Has ((w.alloc (.cells #[.int .i64 r, .int .i64 c] 32)).alloc (.cells #[.int .i64 n', .int .i64 pa', .int .i64 k', .int .i64 un'] 170)) (w.heap.size + 1) #[.int .i64 n', .int .i64 pa', .int .i64 k', .int .i64 un'] 170 := by
      have := Has.new (w.alloc (.cells #[.int .i64 r, .int .i64 c] 32)) #[.int .i64 n', .int .i64 pa', .int .i64 k', .int .i64 un'] 170
      rwa [World.size_alloc] at this
    have nb1 : ∀ k, k = b → k ≠ w.heap.size ∧ k ≠ w.heap.size + 1 := fun k hk => by omega
    have b1 := (unhide m3).has B1 (fun e => by have := (nb1 _ e).1; omega)
    have b2 := (unhide m3).has B2 (fun e => by have := (nb1 _ e).2; omega)
    have hm3 := (unhide m3).map (mw.map hmap (fun x => x)) (fun e => hmb e)
    have M0 : Mod (fun k => k = b) w wc := (mw.mono (fun _ _ x => x.elim)).trans (unhide m3)
    generalize hg1 : w.heap.size = g1 at *
    generalize hg2 : g1 + 1 = g2 at *
    have c1 := b1.cell
    have c2 := b2.cell
    have MW := hide M0
    have BB1 := hide b1
    have BB2 := hide b2
    have HM3 := hide hm3
    have NB := hide nb1
    have HG1 := hide hg1
    have HG2 := hide hg2
    clear B1 B2 b1 b2 mw hm3 hmap hmb nb1 M0 m3 hg1 hg2 c7 hL' hlt
    go_wp2_with fail
    refine ((unhide HT2) _ (unhide h3)).mono ?_
    rintro e w4 ⟨rfl, m4, h4⟩
    have b1 := m4.has (unhide BB1) (fun e => by have := ((unhide NB) _ e).1; omega)
    have b2 := m4.has (unhide BB2) (fun e => by have := ((unhide NB) _ e).2; omega)
    have hm4 := m4.map (unhide HM3) (fun e => (unhide HMB) e)
    have MW4 := hide ((unhide MW).trans m4)
    have H4 := hide h4
    have HM4 := hide hm4
    have hml4 := (Array.getElem?_eq_some_iff.1 hm4).1
    have c7 := h4.cell 7
    rw [show (fcf p (.map (some m)) fa2 fb2 fs2 fe)[7]? = some (.map (some m)) from rfl] at c7
    clear c1 c2
    have c1 := b1.cell
    have c2 := b2.cell
    clear h4 b1 b2 m4 hm4 MW BB1 BB2 HM3 h3
    by_cases hn0 : n' = 0
    · subst hn0
      have hD := (unhide HD) rfl w4.drew
      have HDD := fun ty => hD ty (unhide HM4)
      clear hD
      rw [show (((0 : Nat) : Int)) = 0 from rfl] at *
      go_wp2_with fail
      go_region
      all_goals
        go_wp2_with fail
        refine ((unhide HR) _ ?_).mono ?_
        · exact setBlock_has (Has.drew (unhide H4)) (unhide HMB) _
        rintro e w5 ⟨rfl, m5, h5⟩
        go_wp2
        go_end0
        have ml : m < w4.drew.heap.size := hml4
        refine ⟨rfl, (((unhide MW4).drew.mono (fun _ _ x => .inl x)).setBlock (.inl (.inr rfl)) _).trans (m5.mono (fun _ _ x => .inl x)), h5, m5.map (setBlock_at ml _) (fun e => (unhide HMB) e)⟩
    · have hn0' : ((n' : Int) == 0) = false := by simp; omega
      have hU := (unhide HU) hn0 w4.drew (unhide HM4)
      have HN0 := hide hn0
      clear hn0
      go_wp2_with fail
      go_region
      all_goals
        go_wp2_with fail
        refine ((unhide HR) _ ?_).mono ?_
        · exact setBlock_has (Has.drew (unhide H4)) (unhide HMB) _
        rintro e w5 ⟨rfl, m5, h5⟩
        go_wp2
        go_end0
        have ml : m < w4.drew.heap.size := hml4
        refine ⟨rfl, (((unhide MW4).drew.mono (fun _ _ x => .inl x)).setBlock (.inl (.inr rfl)) _).trans (m5.mono (fun _ _ x => .inl x)), h5, m5.map (setBlock_at ml _) (fun e => (unhide HMB) e)⟩
end Go.Proofs.Ythhibagcpjeihaa
