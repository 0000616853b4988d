import Derived.Test.YthhibagcpjeihaaGreatIBaseToMaps
import Derived.Handy
import Derived.BigQuiet
import Derived.Deep.QuietTactic
namespace Go.Proofs.YthhibagcpjeihaaGreat
open Go.RowKit Go.WideMaps
open Go.ChangeMaps (setBlock)
open M
set_option linter.unusedVariables false
set_option linter.unusedSimpArgs false
theorem MapOk.erase {l : List MEnt} {clock : Nat} (h : MapOk l clock) (j : Nat) : MapOk (l.eraseIdx j) clock :=
 ⟨fun e he => h.keys e (List.mem_of_mem_eraseIdx he), h.apart.sublist (List.eraseIdx_sublist _ _), h.births.sublist (List.eraseIdx_sublist _ _), fun e he => h.past e (List.mem_of_mem_eraseIdx he)⟩
def putE (l : List MEnt) (clock : Nat) (r c s p k u : Int) : List MEnt × Nat :=
 match l.findIdx? (MEnt.is r c) with
 | some j => (l.modify j fun e => ⟨e.born, e.r, e.c, s, p, k, u⟩, clock)
 | none => (l ++ [⟨clock, r, c, s, p, k, u⟩], clock + 1)
def dropE (l : List MEnt) (r c : Int) : List MEnt :=
 match l.findIdx? (MEnt.is r c) with
 | some j => l.eraseIdx j
 | none => l
theorem mem_modify {α : Type} {g : α → α} : ∀ {l : List α} {j : Nat} {x : α}, x ∈ l.modify j g → x ∈ l ∨ ∃ y ∈ l, x = g y
 | [], j, x, h => by simp at h
 | e :: l, 0, x, h => by
  simp at h
  rcases h with h | h
  ·exact .inr ⟨e, by simp, h⟩
  ·exact .inl (by simp [h])
 | e :: l, j + 1, x, h => by
  simp at h
  rcases h with h | h
  ·exact .inl (by simp [h])
  ·rcases mem_modify h with h | ⟨y, hy, e⟩
   ·exact .inl (by simp [h])
   ·exact .inr ⟨y, by simp [hy], e⟩
theorem mem_modify_at {α : Type} {g : α → α} : ∀ {l : List α} {j : Nat} {x : α}, x ∈ l.modify j g → x ∈ l ∨ ∃ h : j < l.length, x = g l[j]
 | [], j, x, h => by simp at h
 | e :: l, 0, x, h => by
  simp at h
  rcases h with h | h
  ·exact .inr ⟨by simp, h⟩
  ·exact .inl (by simp [h])
 | e :: l, j + 1, x, h => by
  simp at h
  rcases h with h | h
  ·exact .inl (by simp [h])
  ·rcases mem_modify_at h with h | ⟨hj, e⟩
   ·exact .inl (by simp [h])
   ·exact .inr ⟨by simpa using hj, by rw [List.getElem_cons_succ]; exact e⟩
theorem pairwise_modify {α : Type} {R : α → α → Prop} {g : α → α} (h1 : ∀ a b, R a b → R (g a) b) (h2 : ∀ a b, R a b → R a (g b)) : ∀ {l : List α} {j : Nat}, l.Pairwise R → (l.modify j g).Pairwise R
 | [], _, _ => by simp
 | e :: l, 0, h => by
  simp only [List.modify_zero_cons, List.pairwise_cons] at h ⊢
  exact ⟨fun x hx => h1 _ _ (h.1 x hx), h.2⟩
 | e :: l, j + 1, h => by
  simp only [List.modify_succ_cons, List.pairwise_cons] at h ⊢
  refine ⟨fun x hx => ?_, pairwise_modify h1 h2 h.2⟩
  rcases mem_modify hx with hx | ⟨y, hy, rfl⟩
  ·exact h.1 x hx
  ·exact h2 _ _ (h.1 y hy)
def MEnt.with (s p k u : Int) (e : MEnt) : MEnt := ⟨e.born, e.r, e.c, s, p, k, u⟩
theorem putE_some {l : List MEnt} {clock : Nat} {r c s p k u : Int} {j : Nat} (h : l.findIdx? (MEnt.is r c) = some j) : putE l clock r c s p k u = (l.modify j (MEnt.with s p k u), clock) := by
 unfold putE; rw [h]; rfl
theorem putE_none {l : List MEnt} {clock : Nat} {r c s p k u : Int} (h : l.findIdx? (MEnt.is r c) = none) : putE l clock r c s p k u = (l ++ [⟨clock, r, c, s, p, k, u⟩], clock + 1) := by
 unfold putE; rw [h]
theorem dropE_some {l : List MEnt} {r c : Int} {j : Nat} (h : l.findIdx? (MEnt.is r c) = some j) : dropE l r c = l.eraseIdx j := by
 unfold dropE; rw [h]
theorem dropE_none {l : List MEnt} {r c : Int} (h : l.findIdx? (MEnt.is r c) = none) : dropE l r c = l := by
 unfold dropE; rw [h]
theorem is_false {r c : Int} {e : MEnt} : MEnt.is r c e = false ↔ ¬ (e.r = r ∧ e.c = c) := by
 simp only [MEnt.is, Bool.and_eq_false_iff, beq_eq_false_iff_ne]
 by_cases h1 : e.r = r
 ·simp [h1]
 ·simp [h1]
theorem is_true {r c : Int} {e : MEnt} : MEnt.is r c e = true ↔ (e.r = r ∧ e.c = c) := by
 simp [MEnt.is]
theorem MapOk.put {l : List MEnt} {clock : Nat} (h : MapOk l clock) (r c s p k u : Int) (hr : 0 ≤ r ∧ r ≤ 1000) (hc : 0 ≤ c ∧ c ≤ 1000) : MapOk (putE l clock r c s p k u).1 (putE l clock r c s p k u).2 := by
 cases hf : l.findIdx? (MEnt.is r c) with
 | some j =>
  rw [putE_some hf]
  refine ⟨fun e he => ?_, pairwise_modify (g := MEnt.with s p k u) (fun a b x => x) (fun a b x => x) h.apart, pairwise_modify (g := MEnt.with s p k u) (fun a b x => x) (fun a b x => x) h.births, fun e he => ?_⟩
  ·rcases mem_modify he with he | ⟨y, hy, rfl⟩
   ·exact h.keys e he
   ·exact h.keys y hy
  ·rcases mem_modify he with he | ⟨y, hy, rfl⟩
   ·exact h.past e he
   ·exact h.past y hy
 | none =>
  rw [putE_none hf]
  rw [List.findIdx?_eq_none_iff] at hf
  refine ⟨fun e he => ?_, ?_, ?_, fun e he => ?_⟩
  ·rcases List.mem_append.1 he with he | he
   ·exact h.keys e he
   ·simp at he; subst he; exact ⟨hr.1, hr.2, hc.1, hc.2⟩
  ·refine List.pairwise_append.2 ⟨h.apart, by simp, fun a ha b hb => ?_⟩
   simp at hb; subst hb
   exact is_false.1 (hf a ha)
  ·refine List.pairwise_append.2 ⟨h.births, by simp, fun a ha b hb => ?_⟩
   simp at hb; subst hb
   have := h.past a ha
   simp only
   omega
  ·rcases List.mem_append.1 he with he | he
   ·have := h.past e he
    simp only
    omega
   ·simp at he; subst he; simp
theorem find?_eraseIdx {p : MEnt → Bool} : ∀ (l : List MEnt) (j : Nat), (∀ h : j < l.length, p l[j] = false) → (l.eraseIdx j).find? p = l.find? p
 | [], _, _ => by simp
 | e :: l, 0, h => by
  have := h (by simp)
  simp at this
  simp [this]
 | e :: l, j + 1, h => by
  simp only [List.eraseIdx_cons_succ, List.find?_cons]
  rw [find?_eraseIdx l j (fun hj => by have := h (by simpa using hj); rwa [List.getElem_cons_succ] at this)]
theorem find?_modify (g : MEnt → MEnt) (q : MEnt → Bool) : ∀ (l : List MEnt) (j : Nat), (∀ h : j < l.length, q l[j] = false ∧ q (g l[j]) = false) → (l.modify j g).find? q = l.find? q
 | [], _, _ => by simp
 | e :: l, 0, h => by
  have := h (by simp)
  simp at this
  simp [this.1, this.2]
 | e :: l, j + 1, h => by
  simp only [List.modify_succ_cons, List.find?_cons]
  rw [find?_modify g q l j (fun hj => by have := h (by simpa using hj); rwa [List.getElem_cons_succ] at this)]
theorem look_none {l : List MEnt} {r c : Int} (h : ∀ e ∈ l, ¬ (e.r = r ∧ e.c = c)) : lookE l r c = (0, 0, 0, 0) := by
 unfold lookE
 rw [List.find?_eq_none.2 (fun e he => by rw [is_false.2 (h e he)]; simp)]
 rfl
theorem look_drop {l : List MEnt} {clock : Nat} (h : MapOk l clock) (r c r' c' : Int) : lookE (dropE l r c) r' c' = if r' = r ∧ c' = c then (0, 0, 0, 0) else lookE l r' c' := by
 cases hf : l.findIdx? (MEnt.is r c) with
 | none =>
  rw [dropE_none hf]
  rw [List.findIdx?_eq_none_iff] at hf
  by_cases hne : r' = r ∧ c' = c
  ·rw [if_pos hne, hne.1, hne.2]
   exact look_none fun e he => is_false.1 (hf e he)
  ·rw [if_neg hne]
 | some j =>
  rw [dropE_some hf]
  obtain ⟨hj, hk, _⟩ := List.findIdx?_eq_some_iff_getElem.1 hf
  have hk := is_true.1 hk
  by_cases hne : r' = r ∧ c' = c
  ·rw [if_pos hne, hne.1, hne.2]
   refine look_none fun e he hh => ?_
   obtain ⟨i, hi, hi1, hi2⟩ := List.mem_eraseIdx_iff_getElem.1 he
   have hpw := List.pairwise_iff_getElem.1 h.apart
   rcases Nat.lt_or_ge i j with h1 | h1
   ·exact hpw i j hi hj h1 (by rw [hi2, hk.1, hk.2]; exact hh)
   ·exact hpw j i hj hi (by omega) (by rw [hi2, hk.1, hk.2]; exact ⟨hh.1.symm, hh.2.symm⟩)
  ·rw [if_neg hne]
   unfold lookE
   rw [find?_eraseIdx l j (fun _ => is_false.2 (fun e => hne ⟨by rw [← e.1, hk.1], by rw [← e.2, hk.2]⟩))]
theorem look_mem {l : List MEnt} {clock : Nat} (h : MapOk l clock) {e : MEnt} (he : e ∈ l) : lookE l e.r e.c = (e.s, e.p, e.k, e.u) := by
 obtain ⟨j, hj, rfl⟩ := List.getElem_of_mem he
 unfold lookE
 rw [find?_idx, find_of h.apart hj ⟨rfl, rfl⟩]
 simp [hj]
theorem look_put {l : List MEnt} {clock : Nat} (h : MapOk l clock) (r c s p k u r' c' : Int) : lookE (putE l clock r c s p k u).1 r' c' = if r' = r ∧ c' = c then (s, p, k, u) else lookE l r' c' := by
 cases hf : l.findIdx? (MEnt.is r c) with
 | none =>
  rw [putE_none hf]
  rw [List.findIdx?_eq_none_iff] at hf
  unfold lookE
  simp only [List.find?_append]
  by_cases hne : r' = r ∧ c' = c
  ·rw [if_pos hne, hne.1, hne.2]
   rw [List.find?_eq_none.2 (fun e he => by rw [hf e he]; simp)]
   simp [MEnt.is]
  ·rw [if_neg hne]
   have : MEnt.is r' c' ⟨clock, r, c, s, p, k, u⟩ = false := is_false.2 (fun e => hne ⟨e.1.symm, e.2.symm⟩)
   simp [this]
 | some j =>
  rw [putE_some hf]
  obtain ⟨hj, hk, _⟩ := List.findIdx?_eq_some_iff_getElem.1 hf
  have hk := is_true.1 hk
  have hp : (l.modify j (MEnt.with s p k u)).Pairwise fun a b => ¬ (a.r = b.r ∧ a.c = b.c) := pairwise_modify (g := MEnt.with s p k u) (fun a b x => x) (fun a b x => x) h.apart
  by_cases hne : r' = r ∧ c' = c
  ·rw [if_pos hne, hne.1, hne.2]
   unfold lookE
   rw [find?_idx, find_of hp (j := j) (by simpa using hj) (by simpa [MEnt.with] using hk)]
   simp [hj, MEnt.with]
  ·rw [if_neg hne]
   unfold lookE
   rw [find?_modify _ _ l j (fun _ => ⟨is_false.2 (fun e => hne ⟨by rw [← e.1, hk.1], by rw [← e.2, hk.2]⟩), is_false.2 (fun e => hne ⟨by rw [← e.1]; exact hk.1, by rw [← e.2]; exact hk.2⟩)⟩)]
theorem dropE_mem {l : List MEnt} {r c : Int} {e : MEnt} (h : e ∈ dropE l r c) : e ∈ l := by
 unfold dropE at h
 split at h
 ·exact List.mem_of_mem_eraseIdx h
 ·exact h
theorem MapOk.drop {l : List MEnt} {clock : Nat} (h : MapOk l clock) (r c : Int) : MapOk (dropE l r c) clock := by
 unfold dropE
 split
 ·exact h.erase _
 ·exact h
theorem putE_mem {l : List MEnt} {clock : Nat} {r c s p k u : Int} {e : MEnt} (h : e ∈ (putE l clock r c s p k u).1) : e ∈ l ∨ (e.r = r ∧ e.c = c ∧ e.s = s) := by
 cases hf : l.findIdx? (MEnt.is r c) with
 | none =>
  rw [putE_none hf] at h
  rcases List.mem_append.1 h with h | h
  ·exact .inl h
  ·simp at h; subst h; exact .inr ⟨rfl, rfl, rfl⟩
 | some j =>
  rw [putE_some hf] at h
  obtain ⟨hj, hk, _⟩ := List.findIdx?_eq_some_iff_getElem.1 hf
  have hk := is_true.1 hk
  rcases mem_modify_at h with h | ⟨_, rfl⟩
  ·exact .inl h
  ·exact .inr ⟨hk.1, hk.2, rfl⟩
open Go.RowKit
set_option maxRecDepth 100000
theorem sold_any (n : Nat) (pa cl un : Int) (w : World) :
  Calls Tryz.prog 136 #[.agg #[.int .i64 n, .int .i64 pa, .int .i64 cl, .int .i64 un]] w fun e w' => e = .returned (.bool (decide (n = 1 ∨ n = 2))) ∧ Mod No w w' := by
 by_cases h1 : n = 1
 ·subst h1
  go_enter Tryz.func136, Tryz.ntmps136
  go_wp2
  go_ret
  exact ⟨rfl, (Mod.refl _ _).alloc _⟩
 ·have h1' : ((n : Int) == 1) = false := by simp; omega
  by_cases h2 : n = 2
  ·subst h2
   go_enter Tryz.func136, Tryz.ntmps136
   go_wp2
   go_ret
   exact ⟨rfl, (Mod.refl _ _).alloc _⟩
  ·have h2' : ((n : Int) == 2) = false := by simp; omega
   go_enter Tryz.func136, Tryz.ntmps136
   go_wp2
   go_ret
   exact ⟨by simp [h1, h2, h1', h2'], (Mod.refl _ _).alloc _⟩
theorem Mod.at {a w : World} {b : Nat} (h : Mod (fun k => k = b) a w) (o : Nat) (v : Value) : Mod (fun k => k = b) a (w.setCell ⟨b, o, none⟩ v) := Mod.setCell (S := fun k => k = b) h (p := ⟨b, o, none⟩) (.inl rfl) v
def tallied (cs : Array Value) (base n k : Nat) (x y times : Int) : Array Value :=
 if n = 1 ∨ n = 2 then (cs.setIfInBounds (base + n) (.int .i64 (x + times))).setIfInBounds (16 + k) (.int .i64 (y + times)) else cs.setIfInBounds (base + n) (.int .i64 (x + times))
theorem tally_core (b n k base : Nat) (cs : Array Value) (row col pa un front x y times : Int) (w : World) (h : Has w b cs 164) (h2 : cs[2]? = some (.int .i64 front))
  (hbase : (row ≤ front ∧ base = 8) ∨ (¬ row ≤ front ∧ base = 12)) (hn : n < 4) (hk : k < 4)
  (hx : cs[base + n]? = some (.int .i64 x)) (hy : cs[16 + k]? = some (.int .i64 y)) (bx : -100000 ≤ x ∧ x ≤ 100000) (by_ : -100000 ≤ y ∧ y ≤ 100000) (bt : -1 ≤ times ∧ times ≤ 1) :
  Calls Tryz.prog 134 #[.pointer (some ⟨b, 0, none⟩), .agg #[.int .i64 row, .int .i64 col], .agg #[.int .i64 n, .int .i64 pa, .int .i64 k, .int .i64 un], .int .i64 times] w fun e w' =>
   e = .returned (.tuple #[]) ∧ Mod (· = b) w w' ∧
    Has w' b (tallied cs base n k x y times) 164 := by
 have hlt := h.lt
 have c2 := h.cell 2
 have cx := h.cell (base + n)
 have cy := h.cell (16 + k)
 have hz := h.frozen
 rw [h2] at c2
 rw [hx] at cx
 rw [hy] at cy
 have H := hide h
 have w1 := wrap_id (x + times) (by omega) (by omega)
 have HY := hide hy
 clear h h2 hx hy
 have hn' : (n : Int) < 4 := by omega
 have hk' : (k : Int) < 4 := by omega
 rcases hbase with ⟨hr, rfl⟩ | ⟨hr, rfl⟩
 ·go_enter Tryz.func134, Tryz.ntmps134
  go_wp2
  go_quiet (fail)
  go_wp2
  go_region
  go_wp2_with fail
  refine (sold_any n pa k un _).mono ?_
  rintro e w3 ⟨rfl, hm⟩
  have hb3 : Has w3 b (cs.setIfInBounds (8 + n) (.int .i64 (x + times))) 164 := hm.has (((((unhide H).alloc _).alloc _).drewN (nq + 1)).set (8 + n) _) (fun x => x)
  have hs0 : Has w3 (w.heap.size + 1) #[.int .i64 n, .int .i64 pa, .int .i64 k, .int .i64 un] 199 :=
   hm.has (Has.set_ne (Has.drewN (by have := Has.new (w.alloc (.cells #[.int .i64 row, .int .i64 col] 36)) #[.int .i64 n, .int .i64 pa, .int .i64 k, .int .i64 un] 199; rwa [World.size_alloc] at this) (nq + 1)) (by simp; omega) _) (fun x => x)
  have m3 : Mod (· = b) w w3 := ((((((Mod.refl _ w).alloc _).alloc _).drewN (nq + 1)).at (8 + n) _)).trans (hm.mono (fun _ _ x => x.elim))
  have y3 := hb3.cell (16 + k)
  have z3 := hb3.frozen
  have s3 := hs0.cell 2
  rw [Array.getElem?_setIfInBounds, if_neg (by omega), (unhide HY)] at y3
  simp only [List.getElem?_toArray, List.getElem?_cons_succ, List.getElem?_cons_zero] at s3
  have HB3 := hide hb3
  have M3 := hide m3
  clear hm hb3 hs0 m3 c2 cx cy hz w1
  by_cases hst : n = 1 ∨ n = 2
  ·have hd : decide (n = 1 ∨ n = 2) = true := decide_eq_true hst
   rw [hd]
   have HST := hide hst
   clear hst hd
   have w2 := wrap_id (y + times) (by omega) (by omega)
   go_wp2_with fail
   go_region
   go_wp2
   go_end0
   refine ⟨rfl, ((unhide M3).at (16 + k) _).drew, ?_⟩
   unfold tallied
   rw [if_pos (unhide HST)]
   exact (unhide HB3).set (16 + k) _
  ·have hd : decide (n = 1 ∨ n = 2) = false := decide_eq_false hst
   rw [hd]
   have HST := hide hst
   clear hst hd
   go_wp2
   go_end0
   refine ⟨rfl, unhide M3, ?_⟩
   unfold tallied
   rw [if_neg (unhide HST)]
   exact unhide HB3
 ·go_enter Tryz.func134, Tryz.ntmps134
  go_wp2
  go_quiet (fail)
  go_wp2
  go_region
  go_wp2_with fail
  refine (sold_any n pa k un _).mono ?_
  rintro e w3 ⟨rfl, hm⟩
  have hb3 : Has w3 b (cs.setIfInBounds (12 + n) (.int .i64 (x + times))) 164 := hm.has (((((unhide H).alloc _).alloc _).drewN (nq + 1)).set (12 + n) _) (fun x => x)
  have hs0 : Has w3 (w.heap.size + 1) #[.int .i64 n, .int .i64 pa, .int .i64 k, .int .i64 un] 199 :=
   hm.has (Has.set_ne (Has.drewN (by have := Has.new (w.alloc (.cells #[.int .i64 row, .int .i64 col] 36)) #[.int .i64 n, .int .i64 pa, .int .i64 k, .int .i64 un] 199; rwa [World.size_alloc] at this) (nq + 1)) (by simp; omega) _) (fun x => x)
  have m3 : Mod (· = b) w w3 := ((((((Mod.refl _ w).alloc _).alloc _).drewN (nq + 1)).at (12 + n) _)).trans (hm.mono (fun _ _ x => x.elim))
  have y3 := hb3.cell (16 + k)
  have z3 := hb3.frozen
  have s3 := hs0.cell 2
  rw [Array.getElem?_setIfInBounds, if_neg (by omega), (unhide HY)] at y3
  simp only [List.getElem?_toArray, List.getElem?_cons_succ, List.getElem?_cons_zero] at s3
  have HB3 := hide hb3
  have M3 := hide m3
  clear hm hb3 hs0 m3 c2 cx cy hz w1
  by_cases hst : n = 1 ∨ n = 2
  ·have hd : decide (n = 1 ∨ n = 2) = true := decide_eq_true hst
   rw [hd]
   have HST := hide hst
   clear hst hd
   have w2 := wrap_id (y + times) (by omega) (by omega)
   go_wp2_with fail
   go_region
   go_wp2
   go_end0
   refine ⟨rfl, ((unhide M3).at (16 + k) _).drew, ?_⟩
   unfold tallied
   rw [if_pos (unhide HST)]
   exact (unhide HB3).set (16 + k) _
  ·have hd : decide (n = 1 ∨ n = 2) = false := decide_eq_false hst
   rw [hd]
   have HST := hide hst
   clear hst hd
   go_wp2
   go_end0
   refine ⟨rfl, unhide M3, ?_⟩
   unfold tallied
   rw [if_neg (unhide HST)]
   exact unhide HB3
set_option maxHeartbeats 2000000
theorem nFree_take (l : List Sea) (i : Nat) (hi : i < l.length) : nFree (l.take (i + 1)) = nFree (l.take i) + if l[i].st = 0 then 1 else 0 := by
 unfold nFree
 rw [List.take_add_one, List.getElem?_eq_getElem hi]
 simp only [Option.toList_some, List.countP_append, List.countP_singleton, beq_iff_eq]
theorem nFree_le (l : List Sea) : nFree l ≤ l.length := List.countP_le_length
theorem nFrom_le (c : Int) (l : List Sea) : nFrom c l ≤ l.length := List.countP_le_length
theorem nFrom_take (c : Int) (l : List Sea) (i : Nat) (hi : i < l.length) : nFrom c (l.take (i + 1)) = nFrom c (l.take i) + if (l[i].sold && decide (c ≤ l[i].cl)) = true then 1 else 0 := by
 unfold nFrom
 rw [List.take_add_one, List.getElem?_eq_getElem hi]
 simp only [Option.toList_some, List.countP_append, List.countP_singleton]
theorem free_any (gf fo g cap : Nat) (l : List Sea) (w : World) (h : RowS w g cap l) (hl : l.length ≤ 1000) (hf : w.cell? ⟨gf, fo + 8, none⟩ = some (.slice (some ⟨g, 0, none⟩) l.length cap)) :
  Calls Tryz.prog 58 #[.pointer (some ⟨gf, fo, none⟩)] w fun e w' => e = .returned (.int .i64 (nFree l : Nat)) ∧ w' = w := by
 have H := hide h
 clear h
 go_enter Tryz.func58, Tryz.ntmps58
 go_wp2_with fail
 go_loopw [3, 4] (fun s3 s4 wr => ∃ i : Nat, s3 = .int .i64 (nFree (l.take i) : Nat) ∧ s4 = .int .i64 i ∧ i ≤ l.length ∧ wr = w) (fun _ s4 _ => l.length - (intOf s4).toNat)
 case atStart => exact ⟨0, rfl, rfl, by omega, rfl⟩
 case round =>
  obtain ⟨i, rfl, rfl, hi, rfl⟩ := hrel
  by_cases h1 : i < l.length
  ·have h1i : (i : Int) < (l.length : Int) := by omega
   have h0i : (0 : Int) ≤ i := by omega
   have c2 := (unhide H).st i h1
   have hi1 : IntKind.i64.wrap ((i : Int) + 1) = ((i + 1 : Nat) : Int) := by rw [wrap_id _ (by omega) (by omega)]; rfl
   have hle : nFree (l.take i) ≤ i := by have := nFree_le (l.take i); rw [List.length_take] at this; omega
   have ht := hide (nFree_take l i h1)
   by_cases h2 : l[i].st = 0
   ·have hn : IntKind.i64.wrap ((nFree (l.take i) : Nat) + 1 : Int) = ((nFree (l.take (i + 1)) : Nat) : Int) := by
     rw [unhide ht, if_pos h2, wrap_id _ (by omega) (by omega)]; rfl
    go_wp2
    exact ⟨⟨i + 1, rfl, rfl, by omega, trivial⟩, by simp [intOf]; omega⟩
   ·have hn : nFree (l.take i) = nFree (l.take (i + 1)) := by rw [unhide ht, if_neg h2]; rfl
    go_wp2
    exact ⟨⟨i + 1, by rw [hn], rfl, by omega, trivial⟩, by simp [intOf]; omega⟩
  ·have h1i : ¬ (i : Int) < (l.length : Int) := by omega
   have e : i = l.length := by omega
   subst e
   rw [List.take_length]
   go_wp2
   go_ret
   exact ⟨rfl, rfl⟩
theorem rsold_any (gf fo g cap : Nat) (l : List Sea) (c : Int) (w : World) (h : RowS w g cap l) (hl : l.length ≤ 1000) (hf : w.cell? ⟨gf, fo + 8, none⟩ = some (.slice (some ⟨g, 0, none⟩) l.length cap)) :
  Calls Tryz.prog 91 #[.pointer (some ⟨gf, fo, none⟩), .int .i64 c] w fun e w' => e = .returned (.int .i64 (nFrom c l : Nat)) ∧ Mod No w w' := by
 have H := hide h
 have HF := hide hf
 have hgl := World.block_lt_of_cell? w _ hf
 clear h hf
 go_enter Tryz.func91, Tryz.ntmps91
 go_wp2_with fail
 go_loopw [5, 6] (fun s5 s6 wr => ∃ i : Nat, s5 = .int .i64 (nFrom c (l.take i) : Nat) ∧ s6 = .int .i64 i ∧ i ≤ l.length ∧ Hid (Mod No w wr)) (fun _ s6 _ => l.length - (intOf s6).toNat)
 case atStart => exact ⟨0, rfl, rfl, by omega, Mod.refl _ _⟩
 case round =>
  obtain ⟨i, rfl, rfl, hi, M0⟩ := hrel
  have hf0 : wr.cell? ⟨gf, fo + 8, none⟩ = some (.slice (some ⟨g, 0, none⟩) l.length cap) := by
   have hx := unhide HF
   unfold World.cell? at hx ⊢
   rw [(unhide M0).block gf hgl (fun x => x)]
   exact hx
  by_cases h1 : i < l.length
  ·have h1i : (i : Int) < (l.length : Int) := by omega
   have h0i : (0 : Int) ≤ i := by omega
   have H1 := (unhide H).mod (unhide M0) (fun x => x)
   have c0 := H1.row i h1
   have c1 := H1.col i h1
   have c2 := H1.st i h1
   have c3 := H1.pa i h1
   have c4 := H1.cl i h1
   have c5 := H1.un i h1
   clear H1
   have hi1 : IntKind.i64.wrap ((i : Int) + 1) = ((i + 1 : Nat) : Int) := by rw [wrap_id _ (by omega) (by omega)]; rfl
   have hle : nFrom c (l.take i) ≤ i := by have := nFrom_le c (l.take i); rw [List.length_take] at this; omega
   have ht := hide (nFrom_take c l i h1)
   have hno : (l[i].sold && decide (c ≤ l[i].cl)) = false → nFrom c (l.take i) = nFrom c (l.take (i + 1)) := fun h => by rw [unhide ht, h]; rfl
   have hyes : (l[i].sold && decide (c ≤ l[i].cl)) = true → IntKind.i64.wrap ((nFrom c (l.take i) : Nat) + 1 : Int) = ((nFrom c (l.take (i + 1)) : Nat) : Int) := fun h => by
    rw [unhide ht, if_pos h, wrap_id _ (by omega) (by omega)]; rfl
   by_cases h3 : l[i].st = 1 ∨ l[i].st = 2
   ·have hs : l[i].sold = true := by unfold Sea.sold; simpa using h3
    by_cases h4 : l[i].cl ≥ c
    ·have hn := hyes (by rw [hs]; simpa using h4)
     clear hyes hno ht H HF hs
     rcases h3 with h3 | h3
     ·go_wp2
      exact ⟨⟨i + 1, rfl, rfl, by omega, (unhide M0).alloc _⟩, by simp [intOf]; omega⟩
     ·go_wp2
      exact ⟨⟨i + 1, rfl, rfl, by omega, (unhide M0).alloc _⟩, by simp [intOf]; omega⟩
    ·have hn := hno (by rw [hs]; simpa using h4)
     clear hyes hno ht H HF hs
     rcases h3 with h3 | h3
     ·go_wp2
      exact ⟨⟨i + 1, by first | rfl | rw [hn], rfl, by omega, (unhide M0).alloc _⟩, by simp [intOf]; omega⟩
     ·go_wp2
      exact ⟨⟨i + 1, by first | rfl | rw [hn], rfl, by omega, (unhide M0).alloc _⟩, by simp [intOf]; omega⟩
   ·have hs : l[i].sold = false := by unfold Sea.sold; simpa using h3
    have hn := hno (by rw [hs]; rfl)
    have h5 : ¬ l[i].st = 1 := fun e => h3 (.inl e)
    have h6 : ¬ l[i].st = 2 := fun e => h3 (.inr e)
    clear hyes hno ht H HF hs h3
    go_wp2
    exact ⟨⟨i + 1, by first | rfl | rw [hn], rfl, by omega, (unhide M0).alloc _⟩, by simp [intOf]; omega⟩
  ·have h1i : ¬ (i : Int) < (l.length : Int) := by omega
   have e : i = l.length := by omega
   subst e
   rw [List.take_length]
   clear H HF
   go_wp2
   go_ret
   exact ⟨rfl, unhide M0⟩
theorem rseat_any (gf fo g cap : Nat) (l : List Sea) (r c : Int) (w : World) (h : RowS w g cap l) (hl : l.length ≤ 1000) (hf : w.cell? ⟨gf, fo + 8, none⟩ = some (.slice (some ⟨g, 0, none⟩) l.length cap)) :
  Calls Tryz.prog 85 #[.pointer (some ⟨gf, fo, none⟩), .agg #[.int .i64 r, .int .i64 c]] w fun e w' => Mod No w w' ∧
   ((∃ i, ∃ hi : i < l.length, l[i].row = r ∧ l[i].col = c ∧ e = .returned (.int .i64 (i : Nat))) ∨ ((∀ i, ∀ hi : i < l.length, ¬ (l[i].row = r ∧ l[i].col = c)) ∧ e = .returned (.int .i64 (-1)))) := by
 have H := hide h
 have HF := hide hf
 have hgl := World.block_lt_of_cell? w _ hf
 have HB := hide (Has.new w #[.int .i64 r, .int .i64 c] 36)
 have M1 := hide ((Mod.refl No w).alloc (.cells #[.int .i64 r, .int .i64 c] 36))
 clear h hf
 go_enter Tryz.func85, Tryz.ntmps85
 go_wp2_with fail
 go_loopw [5] (fun s5 wr => ∃ i : Nat, s5 = .int .i64 i ∧ i ≤ l.length ∧ Hid (∀ j, ∀ hj : j < l.length, j < i → ¬ (l[j].row = r ∧ l[j].col = c)) ∧ Hid (Mod No w wr) ∧ Hid (Has wr w.heap.size #[.int .i64 r, .int .i64 c] 36)) (fun s5 _ => l.length - (intOf s5).toNat)
 case atStart => exact ⟨0, rfl, by omega, fun j hj h => absurd h (Nat.not_lt_zero _), M1, HB⟩
 case round =>
  obtain ⟨i, rfl, hi, HA, M0, HB0⟩ := hrel
  have hf0 : wr.cell? ⟨gf, fo + 8, none⟩ = some (.slice (some ⟨g, 0, none⟩) l.length cap) := by
   have hx := unhide HF
   unfold World.cell? at hx ⊢
   rw [(unhide M0).block gf hgl (fun x => x)]
   exact hx
  clear HB M1
  by_cases h1 : i < l.length
  ·have h1i : (i : Int) < (l.length : Int) := by omega
   have h0i : (0 : Int) ≤ i := by omega
   have H1 := (unhide H).mod (unhide M0) (fun x => x)
   have c0 := H1.row i h1
   have c1 := H1.col i h1
   have b0 : wr.cell? ⟨w.heap.size, 0, none⟩ = some (.int .i64 r) := (unhide HB0).cell 0
   have b1 : wr.cell? ⟨w.heap.size, 1, none⟩ = some (.int .i64 c) := (unhide HB0).cell 1
   clear H1
   have hi1 : IntKind.i64.wrap ((i : Int) + 1) = ((i + 1 : Nat) : Int) := by rw [wrap_id _ (by omega) (by omega)]; rfl
   have HN := hide (fun (hx : ¬ (l[i].row = r ∧ l[i].col = c)) (j : Nat) (hj : j < l.length) (hji : j < i + 1) => (show ¬ (l[j].row = r ∧ l[j].col = c) from by
    by_cases e : j = i
    ·subst e; exact hx
    ·exact (unhide HA) j hj (by omega)))
   by_cases h2 : l[i].row = r
   ·have d2 : (l[i].row == r) = true := by simp [h2]
    by_cases h3 : l[i].col = c
    ·have d3 : (l[i].col == c) = true := by simp [h3]
     clear H HF HA HN
     go_wp2_with fail
     go_quiet (fail)
     go_wp2
     go_ret
     exact ⟨(unhide M0).drewN _, .inl ⟨i, h1, h2, h3, rfl⟩⟩
    ·have d3 : (l[i].col == c) = false := by simp [h3]
     have HN1 := hide ((unhide HN) (fun h => h3 h.2))
     clear H HF HA HN
     go_wp2_with fail
     go_quiet (fail)
     go_wp2
     exact ⟨⟨i + 1, rfl, by omega, HN1, (unhide M0).drewN _, (unhide HB0).drewN _⟩, by simp [intOf]; omega⟩
   ·have d2 : (l[i].row == r) = false := by simp [h2]
    have HN1 := hide ((unhide HN) (fun h => h2 h.1))
    clear H HF HA HN
    go_wp2_with fail
    go_quiet (fail)
    go_wp2
    exact ⟨⟨i + 1, rfl, by omega, HN1, (unhide M0).drewN _, (unhide HB0).drewN _⟩, by simp [intOf]; omega⟩
  ·have h1i : ¬ (i : Int) < (l.length : Int) := by omega
   clear H HF
   go_wp2
   go_ret
   exact ⟨unhide M0, .inr ⟨fun j hj hr hc => (unhide HA) j hj (by omega) ⟨hr, hc⟩, rfl⟩⟩
structure FR where
 f : Fli
 g : Nat
 cap : Nat
def friV (x : FR) : Array Value :=
 #[.int .i64 x.f.num, .int .i64 x.f.pla.rows, .int .i64 x.f.pla.cols, .int .i64 x.f.pla.front, .int .i64 x.f.pla.l0, .int .i64 x.f.pla.l1, .int .i64 x.f.pla.l2, .int .i64 x.f.pla.l3,
  .slice (some ⟨x.g, 0, none⟩) x.f.seats.length x.cap, .int .i64 x.f.ep]
structure RowF (w : World) (gf cap : Nat) (xs : List FR) : Prop where
 cur : ∃ cur, Has w gf cur 134 ∧ cur.size = cap * 10 ∧ ∀ i (h : i < xs.length) j, j < 10 → cur[i * 10 + j]? = (friV xs[i])[j]?
 le : xs.length ≤ cap
 max : cap ≤ maxLen
theorem RowF.cell {w : World} {gf cap : Nat} {xs : List FR} (h : RowF w gf cap xs) (i : Nat) (hi : i < xs.length) (j : Nat) (hj : j < 10) : w.cell? ⟨gf, i * 10 + j, none⟩ = (friV xs[i])[j]? := by
 obtain ⟨cur, h1, h2, h3⟩ := h.cur
 rw [h1.cell]
 exact h3 i hi j hj
theorem RowF.lt {w : World} {gf cap : Nat} {xs : List FR} (h : RowF w gf cap xs) : gf < w.heap.size := by
 obtain ⟨cur, h1, _⟩ := h.cur
 exact h1.lt
theorem RowF.mod {w w' : World} {gf cap : Nat} {xs : List FR} {S : Nat → Prop} (h : RowF w gf cap xs) (hm : Mod S w w') (hg : ¬ S gf) : RowF w' gf cap xs := by
 obtain ⟨cur, h1, h2, h3⟩ := h.cur
 exact ⟨⟨cur, hm.has h1 hg, h2, h3⟩, h.le, h.max⟩
def FlsV (w : World) (v : Value) (xs : List FR) : Prop :=
 (xs = [] ∧ v = .slice none 0 0) ∨ ∃ gf cap, v = .slice (some ⟨gf, 0, none⟩) xs.length cap ∧ RowF w gf cap xs
def findN (xs : List FR) (n : Int) : Int := match xs.findIdx? (fun x => x.f.num == n) with | some i => (i : Int) | none => -1
theorem findN_some {xs : List FR} {n : Int} (i : Nat) (hi : i < xs.length) (h : xs[i].f.num = n) (hb : ∀ j, ∀ hj : j < xs.length, j < i → xs[j].f.num ≠ n) : findN xs n = i := by
 unfold findN
 have : xs.findIdx? (fun x => x.f.num == n) = some i := by
  rw [List.findIdx?_eq_some_iff_getElem]
  exact ⟨hi, by simpa using h, fun j hj => by simpa using hb j (by omega) hj⟩
 rw [this]
theorem findN_none {xs : List FR} {n : Int} (h : ∀ j, ∀ hj : j < xs.length, xs[j].f.num ≠ n) : findN xs n = -1 := by
 unfold findN
 have : xs.findIdx? (fun x => x.f.num == n) = none := by
  rw [List.findIdx?_eq_none_iff]
  intro x hx
  obtain ⟨j, hj, rfl⟩ := List.getElem_of_mem hx
  simpa using h j hj
 rw [this]
theorem rfind_any (wb : Nat) (xs : List FR) (v : Value) (n : Int) (w : World) (hv : w.cell? ⟨wb, 0, none⟩ = some v) (hx : FlsV w v xs) (hl : xs.length ≤ 1000) :
  Calls Tryz.prog 52 #[.pointer (some ⟨wb, 0, none⟩), .int .i64 n] w fun e w' => e = .returned (.int .i64 (findN xs n)) ∧ w' = w := by
 rcases hx with ⟨rfl, rfl⟩ | ⟨gf, cap, rfl, hr⟩
 ·go_enter Tryz.func52, Tryz.ntmps52
  go_wp2_with fail
  go_loopw [5] (fun s5 wr => s5 = .int .i64 0 ∧ wr = w) (fun _ _ => 0)
  case atStart => exact ⟨rfl, rfl⟩
  case round =>
   obtain ⟨rfl, rfl⟩ := hrel
   go_wp2
   go_ret
   exact ⟨rfl, rfl⟩
 ·have H := hide hr
  clear hr
  go_enter Tryz.func52, Tryz.ntmps52
  go_wp2_with fail
  go_loopw [5] (fun s5 wr => ∃ i : Nat, s5 = .int .i64 i ∧ i ≤ xs.length ∧ Hid (∀ j, ∀ hj : j < xs.length, j < i → xs[j].f.num ≠ n) ∧ wr = w) (fun s5 _ => xs.length - (intOf s5).toNat)
  case atStart => exact ⟨0, rfl, by omega, fun j hj h => absurd h (Nat.not_lt_zero _), rfl⟩
  case round =>
   obtain ⟨i, rfl, hi, HA, rfl⟩ := hrel
   by_cases h1 : i < xs.length
   ·have h1i : (i : Int) < (xs.length : Int) := by omega
    have h0i : (0 : Int) ≤ i := by omega
    have c0 : wr.cell? ⟨gf, i * 10, none⟩ = some (.int .i64 xs[i].f.num) := (unhide H).cell i h1 0 (by omega)
    have hi1 : IntKind.i64.wrap ((i : Int) + 1) = ((i + 1 : Nat) : Int) := by rw [wrap_id _ (by omega) (by omega)]; rfl
    by_cases h2 : xs[i].f.num = n
    ·have HF := hide (findN_some i h1 h2 (unhide HA))
     clear H HA
     go_wp2
     go_ret
     exact ⟨by rw [unhide HF]; rfl, rfl⟩
    ·have HN := hide (show ∀ j, ∀ hj : j < xs.length, j < i + 1 → xs[j].f.num ≠ n from fun j hj hji => by
      by_cases e : j = i
      ·subst e; exact h2
      ·exact (unhide HA) j hj (by omega))
     clear H HA
     go_wp2
     exact ⟨⟨i + 1, rfl, by omega, HN, trivial⟩, by simp [intOf]; omega⟩
   ·have h1i : ¬ (i : Int) < (xs.length : Int) := by omega
    have HF := hide (findN_none (fun j hj => (unhide HA) j hj (by omega)))
    clear H HA
    go_wp2
    go_ret
    exact ⟨by rw [unhide HF]; rfl, rfl⟩
def leastUp (p : Pla) (l : List Sea) : Nat → Int
 | 0 => nFree l
 | c + 1 => leastTo p l c
theorem leastUp_succ (p : Pla) (l : List Sea) (c : Nat) : leastUp p l (c + 1) = min (leastUp p l c) (p.lim c - nFrom (c : Int) l) := by
 cases c with
 | zero => rfl
 | succ c => rfl
theorem rleft_any (gf fo g cap : Nat) (p : Pla) (l : List Sea) (c : Nat) (hc : c < 4) (w : World) (h : RowS w g cap l) (hl : l.length ≤ 1000) (hf : w.cell? ⟨gf, fo + 8, none⟩ = some (.slice (some ⟨g, 0, none⟩) l.length cap))
  (hp : 0 ≤ p.l0 ∧ p.l0 ≤ 200 ∧ 0 ≤ p.l1 ∧ p.l1 ≤ 200 ∧ 0 ≤ p.l2 ∧ p.l2 ≤ 200 ∧ 0 ≤ p.l3 ∧ p.l3 ≤ 200) (hL : ∀ j, j < 4 → w.cell? ⟨gf, fo + 4 + j, none⟩ = some (.int .i64 (p.lim j))) :
  Calls Tryz.prog 61 #[.pointer (some ⟨gf, fo, none⟩), .int .i64 c] w fun e w' => e = .returned (.int .i64 (M.leftOf p l c)) ∧ Mod No w w' := by
 have HFr := hide (free_any gf fo g cap l w h hl hf)
 have HS := hide fun W (hW : Mod No w W) (j : Int) => rsold_any gf fo g cap l j W (h.mod hW (fun x => x)) hl (by
  unfold World.cell? at hf ⊢
  rw [hW.block gf (World.block_lt_of_cell? w _ hf) (fun x => x)]
  exact hf)
 have HL := hide fun W (hW : Mod No w W) (j : Nat) (hj : j < 4) => (show W.cell? ⟨gf, fo + 4 + j, none⟩ = some (.int .i64 (p.lim j)) by
  have hx := hL j hj
  have hlt := World.block_lt_of_cell? w _ hx
  unfold World.cell? at hx ⊢
  rw [hW.block gf hlt (fun x => x)]
  exact hx)
 clear h hf hL
 go_enter Tryz.func61, Tryz.ntmps61
 go_wp2_with fail
 refine (unhide HFr).mono ?_
 rintro e w1 ⟨rfl, rfl⟩
 clear HFr
 go_wp2_with fail
 go_loopw [5, 6] (fun s5 s6 wr => ∃ i : Nat, s5 = .int .i64 (leastUp p l i) ∧ s6 = .int .i64 i ∧ i ≤ c + 1 ∧ Hid (Mod No w1 wr)) (fun _ s6 _ => c + 1 - (intOf s6).toNat)
 case atStart => exact ⟨0, rfl, rfl, by omega, Mod.refl _ _⟩
 case round =>
  obtain ⟨i, rfl, rfl, hi, M0⟩ := hrel
  by_cases h1 : i ≤ c
  ·have h1i : (i : Int) ≤ (c : Int) := by omega
   have h0i : (0 : Int) ≤ i := by omega
   have h4i : (i : Int) < 4 := by omega
   have hi1 : IntKind.i64.wrap ((i : Int) + 1) = ((i + 1 : Nat) : Int) := by rw [wrap_id _ (by omega) (by omega)]; rfl
   have cL := (unhide HL) _ (unhide M0) i (by omega)
   have hb := nFrom_le (i : Int) l
   have hlim : 0 ≤ p.lim i ∧ p.lim i ≤ 200 := by
    have : i = 0 ∨ i = 1 ∨ i = 2 ∨ i = 3 := by omega
    rcases this with rfl | rfl | rfl | rfl <;> simp only [Pla.lim] <;> omega
   have hv : IntKind.i64.wrap (p.lim i - (nFrom (i : Int) l : Nat)) = p.lim i - (nFrom (i : Int) l : Nat) := wrap_id _ (by omega) (by omega)
   have HU := hide (leastUp_succ p l i)
   by_cases h2 : p.lim i - (nFrom (i : Int) l : Nat) < leastUp p l i
   ·have HE := hide (show p.lim i - (nFrom (i : Int) l : Nat) = leastUp p l (i + 1) by rw [unhide HU]; omega)
    clear HU hb hlim
    go_wp2_with fail
    go_region_with (go_at_call 91; refine ((unhide HS) _ (unhide M0).drew i).mono ?_; rintro e w4 ⟨rfl, hm4⟩; have cL4 := (unhide HL) _ ((unhide M0).drew.trans hm4) i (by omega))
    all_goals go_wp2
    all_goals exact ⟨⟨i + 1, by rw [unhide HE], rfl, by omega, (unhide M0).drew.trans (by assumption)⟩, by simp [intOf]; omega⟩
   ·have HE := hide (show leastUp p l i = leastUp p l (i + 1) by rw [unhide HU]; omega)
    clear HU hb hlim
    go_wp2_with fail
    go_region_with (go_at_call 91; refine ((unhide HS) _ (unhide M0).drew i).mono ?_; rintro e w4 ⟨rfl, hm4⟩; have cL4 := (unhide HL) _ ((unhide M0).drew.trans hm4) i (by omega))
    all_goals go_wp2
    all_goals exact ⟨⟨i + 1, by rw [unhide HE], rfl, by omega, (unhide M0).drew.trans (by assumption)⟩, by simp [intOf]; omega⟩
  ·have h1i : ¬ (i : Int) ≤ (c : Int) := by omega
   have e : i = c + 1 := by omega
   subst e
   have HE := hide (show M.leftOf p l c = max (leastUp p l (c + 1)) 0 from rfl)
   clear HS HL
   by_cases h0 : leastUp p l (c + 1) < 0
   ·have HZ := hide (show max (leastUp p l (c + 1)) 0 = 0 by omega)
    go_wp2
    go_ret
    exact ⟨by rw [unhide HE, unhide HZ]; rfl, unhide M0⟩
   ·have HZ := hide (show max (leastUp p l (c + 1)) 0 = leastUp p l (c + 1) by omega)
    go_wp2
    go_ret
    exact ⟨by rw [unhide HE, unhide HZ]; rfl, unhide M0⟩
end Go.Proofs.YthhibagcpjeihaaGreat
