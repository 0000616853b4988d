import Derived.Test.YthhibagcpjeihaaGreatGRef3ToPut
/- A seat is written: against the model. -/
namespace Go.Proofs.YthhibagcpjeihaaGreat
open Go.RowKit
open Go.ChangeMaps (setBlock)
open M
set_option linter.unusedVariables false
set_option linter.unusedSimpArgs false
set_option maxRecDepth 100000

/-- A plane and its seats, well formed. -/
def Wf (p : Pla) (l : List Sea) : Prop := (⟨0, p, l, 0⟩ : Fli).wf

theorem Wf.set {p : Pla} {l : List Sea} (h : Wf p l) {i : Nat} (hi : i < l.length) {s : Sea} (hs : s.wf) (hr : s.row = l[i].row) (hc : s.col = l[i].col) : Wf p (l.set i s) := by
  refine ⟨h.sized, h.limited, by simpa using h.len, fun j hj => ?_, fun x hx => ?_⟩
  · have hj' : j < l.length := by simpa using hj
    have hp := h.place j hj'
    simp only [List.getElem_set] at hp ⊢
    split
    · rename_i e; subst e
      rw [hr, hc]
      exact hp
    · exact hp
  · rcases List.mem_or_eq_of_mem_set hx with h1 | h1
    · exact h.seat x h1
    · rw [h1]; exact hs

theorem cE_eq {p : Pla} {l : List Sea} (h : Wf p l) :
    cE p l 0 = max (min (cA p l 0 + cB p l 0) (p.l0 - (cS l 0 + cS l 1 + cS l 2 + cS l 3))) 0 ∧
    cE p l 1 = max (min (min (cA p l 0 + cB p l 0) (p.l0 - (cS l 0 + cS l 1 + cS l 2 + cS l 3))) (p.l1 - (cS l 1 + cS l 2 + cS l 3))) 0 ∧
    cE p l 2 = max (min (min (min (cA p l 0 + cB p l 0) (p.l0 - (cS l 0 + cS l 1 + cS l 2 + cS l 3))) (p.l1 - (cS l 1 + cS l 2 + cS l 3))) (p.l2 - (cS l 2 + cS l 3))) 0 ∧
    cE p l 3 = max (min (min (min (min (cA p l 0 + cB p l 0) (p.l0 - (cS l 0 + cS l 1 + cS l 2 + cS l 3))) (p.l1 - (cS l 1 + cS l 2 + cS l 3))) (p.l2 - (cS l 2 + cS l 3))) (p.l3 - cS l 3)) 0 := by
  obtain ⟨f0, f1, f2, f3⟩ := nFrom_split l (fun s hs => ⟨(h.seat s hs).c0, (h.seat s hs).c1⟩)
  have hf := nFree_split p l
  have g : ((nFree l : Nat) : Int) = cA p l 0 + cB p l 0 := by rw [hf]; simp [cA, cB]
  have g0 : ((nFrom 0 l : Nat) : Int) = cS l 0 + cS l 1 + cS l 2 + cS l 3 := by rw [f0]; simp [cS]
  have g1 : ((nFrom 1 l : Nat) : Int) = cS l 1 + cS l 2 + cS l 3 := by rw [f1]; simp [cS]
  have g2 : ((nFrom 2 l : Nat) : Int) = cS l 2 + cS l 3 := by rw [f2]; simp [cS]
  have g3 : ((nFrom 3 l : Nat) : Int) = cS l 3 := by rw [f3]; simp [cS]
  simp only [cE, M.leftOf, leastTo, Pla.lim]
  simp only [show ((0 : Nat) : Int) + 1 = 1 from rfl, show ((1 : Nat) : Int) + 1 = 2 from rfl, show ((2 : Nat) : Int) + 1 = 3 from rfl, g, g0, g1, g2, g3]
  exact ⟨trivial, trivial, trivial, trivial⟩

theorem counts_small {p : Pla} {l : List Sea} (h : Wf p l) (j : Nat) : 0 ≤ cA p l j ∧ cA p l j ≤ 1000 ∧ 0 ≤ cB p l j ∧ cB p l j ≤ 1000 ∧ 0 ≤ cS l j ∧ cS l j ≤ 1000 := by
  have hl : l.length ≤ 1000 := by have := h.len_le; simp only at this; omega
  have a := small_count l hl fun s => (decide (s.row ≤ p.front) == true) && s.st == (j : Int)
  have b := small_count l hl fun s => (decide (s.row ≤ p.front) == false) && s.st == (j : Int)
  have c := small_count l hl fun s => s.sold && s.cl == (j : Int)
  exact ⟨a.1, a.2, b.1, b.2, c.1, c.2⟩

theorem fcf_congr {p : Pla} {m : Value} {a b s e a' b' s' e' : Nat → Int} (ha : ∀ j, j < 4 → a j = a' j) (hb : ∀ j, j < 4 → b j = b' j) (hs : ∀ j, j < 4 → s j = s' j) (he : ∀ j, j < 4 → e j = e' j) :
    fcf p m a b s e = fcf p m a' b' s' e' := by
  unfold fcf
  rw [ha 0 (by omega), ha 1 (by omega), ha 2 (by omega), ha 3 (by omega), hb 0 (by omega), hb 1 (by omega), hb 2 (by omega), hb 3 (by omega), hs 0 (by omega), hs 1 (by omega), hs 2 (by omega), hs 3 (by omega),
    he 0 (by omega), he 1 (by omega), he 2 (by omega), he 3 (by omega)]

theorem lim_small {p : Pla} (h : p.limited = true) : 0 ≤ p.l0 ∧ p.l0 ≤ 1000 ∧ 0 ≤ p.l1 ∧ p.l1 ≤ 1000 ∧ 0 ≤ p.l2 ∧ p.l2 ≤ 1000 ∧ 0 ≤ p.l3 ∧ p.l3 ≤ 1000 := by
  simp only [Pla.limited, decide_eq_true_eq] at h
  omega

theorem upd2 (f : Nat → Int) (n n' j : Nat) : upd (upd f n (f n + -1)) n' (upd f n (f n + -1) n' + 1) j = f j - (if n = j then 1 else 0) + (if n' = j then 1 else 0) := by
  unfold upd
  by_cases h1 : j = n
  · subst h1
    by_cases h2 : j = n'
    · subst h2; simp; omega
    · rw [if_neg h2, if_pos rfl, if_pos rfl, if_neg (fun e => h2 e.symm)]; omega
  · by_cases h2 : j = n'
    · subst h2
      rw [if_pos rfl, if_neg h1, if_neg (fun e => h1 e.symm), if_pos rfl]; omega
    · rw [if_neg h2, if_neg h1, if_neg (fun e => h1 e.symm), if_neg (fun e => h2 e.symm)]; omega

theorem beq_cast (n j : Nat) : ((n : Int) == (j : Int)) = decide (n = j) := by
  by_cases h : n = j
  · subst h; simp
  · simp [h]; omega

theorem cA_set (p : Pla) {l : List Sea} {i : Nat} (hi : i < l.length) (s : Sea) (n n' : Nat) (hn : l[i].st = n) (hn' : s.st = n') (hr : s.row = l[i].row) (j : Nat) :
    (if l[i].row ≤ p.front then upd (if l[i].row ≤ p.front then upd (cA p l) n (cA p l n + -1) else cA p l) n' ((if l[i].row ≤ p.front then upd (cA p l) n (cA p l n + -1) else cA p l) n' + 1) else (if l[i].row ≤ p.front then upd (cA p l) n (cA p l n + -1) else cA p l)) j = cA p (l.set i s) j := by
  have e : cA p (l.set i s) j = cA p l j - (if (decide (l[i].row ≤ p.front) == true && decide (n = j)) = true then 1 else 0) + (if (decide (l[i].row ≤ p.front) == true && decide (n' = j)) = true then 1 else 0) := by
    simp only [cA, nAt]
    rw [countP_set _ _ _ hi, hn, hn', hr, beq_cast, beq_cast]
  rw [e]
  by_cases h : l[i].row ≤ p.front
  · rw [if_pos h, if_pos h, upd2]
    simp [h]
  · rw [if_neg h, if_neg h]
    simp [h]
theorem cB_set (p : Pla) {l : List Sea} {i : Nat} (hi : i < l.length) (s : Sea) (n n' : Nat) (hn : l[i].st = n) (hn' : s.st = n') (hr : s.row = l[i].row) (j : Nat) :
    (if l[i].row ≤ p.front then (if l[i].row ≤ p.front then cB p l else upd (cB p l) n (cB p l n + -1)) else upd (if l[i].row ≤ p.front then cB p l else upd (cB p l) n (cB p l n + -1)) n' ((if l[i].row ≤ p.front then cB p l else upd (cB p l) n (cB p l n + -1)) n' + 1)) j = cB p (l.set i s) j := by
  have e : cB p (l.set i s) j = cB p l j - (if (decide (l[i].row ≤ p.front) == false && decide (n = j)) = true then 1 else 0) + (if (decide (l[i].row ≤ p.front) == false && decide (n' = j)) = true then 1 else 0) := by
    simp only [cB, nAt]
    rw [countP_set _ _ _ hi, hn, hn', hr, beq_cast, beq_cast]
  rw [e]
  by_cases h : l[i].row ≤ p.front
  · rw [if_pos h, if_pos h]
    simp [h]
  · rw [if_neg h, if_neg h, upd2]
    simp [h]

theorem sold_cast (s : Sea) (n : Nat) (h : s.st = n) : s.sold = decide (n = 1 ∨ n = 2) := by
  unfold Sea.sold
  rw [h, show (1 : Int) = ((1 : Nat) : Int) from rfl, show (2 : Int) = ((2 : Nat) : Int) from rfl, beq_cast, beq_cast]
  simp
theorem bump2 (f : Nat → Int) (n k n' k' j : Nat) : bumpS n' k' 1 (bumpS n k (-1) f) j = f j - (if (decide (n = 1 ∨ n = 2) && decide (k = j)) = true then 1 else 0) + (if (decide (n' = 1 ∨ n' = 2) && decide (k' = j)) = true then 1 else 0) := by
  unfold bumpS
  by_cases h1 : n = 1 ∨ n = 2
  · by_cases h2 : n' = 1 ∨ n' = 2
    · rw [if_pos h1, if_pos h2, upd2]; simp [h1, h2]
    · rw [if_pos h1, if_neg h2]; simp [h1, h2, upd]; split <;> simp_all <;> omega
  · by_cases h2 : n' = 1 ∨ n' = 2
    · rw [if_neg h1, if_pos h2]
      unfold upd
      by_cases h3 : j = k'
      · subst h3; simp [h1, h2]
      · rw [if_neg h3]; simp [h1, h2, show ¬ k' = j from fun e => h3 e.symm]
    · rw [if_neg h1, if_neg h2]; simp [h1, h2]
theorem cS_set {l : List Sea} {i : Nat} (hi : i < l.length) (s : Sea) (n n' k k' : Nat) (hn : l[i].st = n) (hn' : s.st = n') (hk : l[i].cl = k) (hk' : s.cl = k') (j : Nat) :
    bumpS n' k' 1 (bumpS n k (-1) (cS l)) j = cS (l.set i s) j := by
  rw [bump2]
  simp only [cS, nSold]
  rw [countP_set _ _ _ hi, sold_cast _ n hn, sold_cast _ n' hn', hk, hk', beq_cast, beq_cast]

theorem upd_small {f : Nat → Int} {n : Nat} {v : Int} (h : Small f) (hv : -100000 ≤ v ∧ v ≤ 100000) : Small (upd f n v) := fun j hj => by
  unfold upd
  split
  · exact hv
  · exact h j hj

/-- A flight in memory, its map named. -/
structure FlX (w : World) (b : Nat) (p : Pla) (l : List Sea) (m : Nat) (es : List MEnt) (clock : Nat) : Prop where
  has : Has w b (fcells p (.map (some m)) l) 164
  map : w.heap[m]? = some (mapObj es clock)
  ok : MapOk es clock
  rel : MapRel es p l

/-- The entries behind a write. -/
def nextE (es : List MEnt) (clock : Nat) (s : Sea) : List MEnt × Nat := if s.st = 0 then (dropE es s.row s.col, clock) else putE es clock s.row s.col s.st s.pa s.cl s.un

/-- There is an entry of a place, if the seat there is not free. -/
theorem found_iff {es : List MEnt} {p : Pla} {l : List Sea} (h : MapRel es p l) {i : Nat} (hi : i < l.length) : (es.findIdx? (MEnt.is l[i].row l[i].col)).isSome = (l[i].st != 0) := by
  have h3 := h.seat i hi
  unfold lookE at h3
  rw [find?_idx] at h3
  cases hf : es.findIdx? (MEnt.is l[i].row l[i].col) with
  | none => rw [hf] at h3; simp at h3; simp [← h3.1]
  | some j =>
    have hj := (List.findIdx?_eq_some_iff_getElem.1 hf).1
    rw [hf] at h3
    simp [hj] at h3
    have := (h.ent _ (List.getElem_mem hj)).2
    simp
    omega

theorem nextE_size {es : List MEnt} {p : Pla} {l : List Sea} (h : MapRel es p l) {i : Nat} (hi : i < l.length) (s : Sea) (hr : s.row = l[i].row) (hc : s.col = l[i].col) (clock : Nat) :
    (nextE es clock s).1.length = (l.set i s).countP fun s => s.st != 0 := by
  have hf := found_iff h hi
  have hs := h.size
  have hcp := countP_set (fun s => s.st != 0) l i hi s
  have hpos : (l[i].st != 0) = true → 1 ≤ l.countP fun s => s.st != 0 := fun hp => List.countP_pos_iff.2 ⟨_, List.getElem_mem hi, hp⟩
  unfold nextE
  rw [hr, hc]
  by_cases h0 : s.st = 0
  · rw [if_pos h0]
    cases hx : es.findIdx? (MEnt.is l[i].row l[i].col) with
    | none =>
      rw [hx] at hf
      rw [dropE_none hx]
      show es.length = _
      rw [← hf] at hcp
      simp [h0] at hcp
      omega
    | some j =>
      rw [hx] at hf
      have hj := (List.findIdx?_eq_some_iff_getElem.1 hx).1
      rw [dropE_some hx]
      show (es.eraseIdx j).length = _
      rw [List.length_eraseIdx, if_pos hj]
      have := hpos (by rw [← hf]; rfl)
      rw [← hf] at hcp
      simp [h0] at hcp
      omega
  · rw [if_neg h0]
    have h0' : (s.st != 0) = true := by simp [h0]
    cases hx : es.findIdx? (MEnt.is l[i].row l[i].col) with
    | none =>
      rw [hx] at hf
      rw [putE_none hx]
      rw [← hf, h0'] at hcp
      simp at hcp
      simp
      omega
    | some j =>
      rw [hx] at hf
      rw [putE_some hx]
      rw [← hf, h0'] at hcp
      simp at hcp
      simp
      omega

theorem put_exact {b m clock : Nat} {p : Pla} {l : List Sea} {es : List MEnt} {w : World} (h : FlX w b p l m es clock) (hwf : Wf p l) (i : Nat) (hi : i < l.length) (s : Sea) (hs : s.wf) (hr : s.row = l[i].row) (hc : s.col = l[i].col) :
    Calls Tryz.prog 118 #[.pointer (some ⟨b, 0, none⟩), .agg #[.int .i64 s.row, .int .i64 s.col], .agg #[.int .i64 s.st, .int .i64 s.pa, .int .i64 s.cl, .int .i64 s.un]] w fun e w' =>
      e = .returned (.tuple #[]) ∧ FlX w' b p (l.set i s) m (nextE es clock s).1 (nextE es clock s).2 ∧ Mod (fun k => k = b ∨ k = m) w w' := by
  obtain ⟨h1, h2, h3, h4⟩ := h
  have ho := hwf.seat _ (List.getElem_mem hi)
  obtain ⟨n, hn⟩ := Int.eq_ofNat_of_zero_le ho.s0
  obtain ⟨k, hk⟩ := Int.eq_ofNat_of_zero_le ho.c0
  obtain ⟨n', hn'⟩ := Int.eq_ofNat_of_zero_le hs.s0
  obtain ⟨k', hk'⟩ := Int.eq_ofNat_of_zero_le hs.c0
  have bn : n < 4 := by have := ho.s1; omega
  have bk : k < 4 := by have := ho.c1; omega
  have bn' : n' < 4 := by have := hs.s1; omega
  have bk' : k' < 4 := by have := hs.c1; omega
  have hplace := (hwf.place_has hi).1
  simp only [Pla.has, decide_eq_true_eq] at hplace
  obtain ⟨B1, B2, B3, B4, _⟩ := hwf.bounds
  simp only at B1 B2 B3 B4
  have kr : 0 ≤ s.row ∧ s.row ≤ 1000 := by rw [hr]; omega
  have kc : 0 ≤ s.col ∧ s.col ≤ 1000 := by rw [hc]; omega
  have hlook := h4.seat i hi
  rw [← hr, ← hc] at hlook
  have hwf' := hwf.set hi hs hr hc
  have sm : ∀ j, 0 ≤ cA p l j ∧ cA p l j ≤ 1000 ∧ 0 ≤ cB p l j ∧ cB p l j ≤ 1000 ∧ 0 ≤ cS l j ∧ cS l j ≤ 1000 := counts_small hwf
  have sm' : ∀ j, 0 ≤ cA p (l.set i s) j ∧ cA p (l.set i s) j ≤ 1000 ∧ 0 ≤ cB p (l.set i s) j ∧ cB p (l.set i s) j ≤ 1000 ∧ 0 ≤ cS (l.set i s) j ∧ cS (l.set i s) j ≤ 1000 := counts_small hwf'
  have smA : Small (cA p l) := fun j _ => by have := sm j; omega
  have smB : Small (cB p l) := fun j _ => by have := sm j; omega
  have smS : Small (cS l) := fun j _ => by have := sm j; omega
  have smA1 : Small (if l[i].row ≤ p.front then upd (cA p l) n (cA p l n + -1) else cA p l) := by
    split
    · exact upd_small smA (by have := sm n; omega)
    · exact smA
  have smB1 : Small (if l[i].row ≤ p.front then cB p l else upd (cB p l) n (cB p l n + -1)) := by
    split
    · exact smB
    · exact upd_small smB (by have := sm n; omega)
  have smS1 : Small (bumpS n k (-1) (cS l)) := by
    unfold bumpS
    split
    · exact upd_small smS (by have := sm k; omega)
    · exact smS
  have eF : ∀ fe, fcf p (.map (some m)) (if l[i].row ≤ p.front then upd (if l[i].row ≤ p.front then upd (cA p l) n (cA p l n + -1) else cA p l) n' ((if l[i].row ≤ p.front then upd (cA p l) n (cA p l n + -1) else cA p l) n' + 1) else (if l[i].row ≤ p.front then upd (cA p l) n (cA p l n + -1) else cA p l))
      (if l[i].row ≤ p.front then (if l[i].row ≤ p.front then cB p l else upd (cB p l) n (cB p l n + -1)) else upd (if l[i].row ≤ p.front then cB p l else upd (cB p l) n (cB p l n + -1)) n' ((if l[i].row ≤ p.front then cB p l else upd (cB p l) n (cB p l n + -1)) n' + 1))
      (bumpS n' k' 1 (bumpS n k (-1) (cS l))) fe = fcf p (.map (some m)) (cA p (l.set i s)) (cB p (l.set i s)) (cS (l.set i s)) fe := fun fe =>
    fcf_congr (fun j _ => cA_set p hi s n n' hn hn' hr j) (fun j _ => cB_set p hi s n n' hn hn' hr j) (fun j _ => cS_set hi s n n' k k' hn hn' hk hk' j) (fun _ _ => rfl)
  have hlk : lookE es s.row s.col = ((n : Int), l[i].pa, (k : Int), l[i].un) := by rw [hlook, hn, hk]
  have en0 : n' = 0 → nextE es clock s = (dropE es s.row s.col, clock) := fun h0 => by unfold nextE; rw [if_pos (by rw [hn', h0]; rfl)]
  have en1 : n' ≠ 0 → nextE es clock s = putE es clock s.row s.col n' s.pa k' s.un := fun h0 => by unfold nextE; rw [if_neg (by rw [hn']; omega), hn', hk']
  have hwalk := put_walk b m n k n' k' p (cA p l) (cB p l) (cS l) (cE p l) _ _ _ _ _ _ (cE p (l.set i s)) s.row s.col l[i].pa l[i].un s.pa s.un w es
    (nextE es clock s).1 clock (nextE es clock s).2 h1 h2
    (fun W hW => by
      have := run_lookup W m es clock hW h3 s.row s.col kr kc
      rw [hlk] at this
      exact this)
    (fun h0 W ty hW => by
      rw [en0 h0]
      exact run_delete W m es clock ty hW h3 s.row s.col kr kc)
    (fun h0 W hW => by
      rw [en1 h0]
      have := run_update W m es clock hW h3 s.row s.col n' s.pa k' s.un kr kc
      unfold putE
      cases hf : es.findIdx? (MEnt.is s.row s.col) <;> rw [hf] at this <;> exact this)
    (fun W hW => tally_any b n k p _ _ _ _ _ s.row s.col l[i].pa l[i].un (-1) W hW bn bk smA smB smS (by omega))
    (fun W hW => tally_any b n' k' p _ _ _ _ _ s.row s.col s.pa s.un 1 W hW bn' bk' (by rw [hr]; exact smA1) (by rw [hr]; exact smB1) smS1 (by omega))
    (fun W hW => by
      rw [hr] at hW ⊢
      rw [eF] at hW ⊢
      obtain ⟨c0, c1, c2, c3⟩ := cE_eq hwf'
      have ls := lim_small hwf.limited
      simp only at ls
      refine (reckon_any b p.rows p.cols p.front p.l0 p.l1 p.l2 p.l3 _ _ _ _ _ _ _ _ _ _ _ _ _ _ _ _ _ _ W hW (by have := sm' 0; omega) (by have a0 := sm' 0; have a1 := sm' 1; have a2 := sm' 2; have a3 := sm' 3; omega) ls).mono ?_
      rintro e w' ⟨rfl, hm, hh⟩
      refine ⟨rfl, hm, ?_⟩
      rw [← c0, ← c1, ← c2, ← c3] at hh
      exact hh)
  rw [hn', hk']
  refine hwalk.mono ?_
  rintro e w' ⟨rfl, hm, hh, hmap⟩
  rw [hr, eF] at hh
  refine ⟨rfl, ⟨hh, hmap, ?_, ?_⟩, hm⟩
  · by_cases h0 : n' = 0
    · rw [en0 h0]; exact h3.drop _ _
    · rw [en1 h0]; exact h3.put _ _ _ _ _ _ kr kc
  · constructor
    · intro e he
      by_cases h0 : n' = 0
      · rw [en0 h0] at he
        exact h4.ent e (dropE_mem he)
      · rw [en1 h0] at he
        rcases putE_mem he with h | ⟨e1, e2, e3⟩
        · exact h4.ent e h
        · refine ⟨?_, by rw [e3]; omega⟩
          rw [e1, e2, hr, hc]
          exact (hwf.place_has hi).1
    · intro j hj
      have hj' : j < l.length := by simpa using hj
      have hlk' : lookE (nextE es clock s).1 (l.set i s)[j].row (l.set i s)[j].col =
          if (l.set i s)[j].row = s.row ∧ (l.set i s)[j].col = s.col then (s.st, s.pa, s.cl, s.un) else lookE es (l.set i s)[j].row (l.set i s)[j].col := by
        by_cases h0 : n' = 0
        · rw [en0 h0]
          have hb := hs.bare (.inl (by rw [hn', h0]; rfl))
          rw [look_drop h3, hn', h0, hb.1, hb.2.1, hb.2.2]
          rfl
        · rw [en1 h0, look_put h3, hn', hk']
      rw [hlk']
      simp only [List.getElem_set]
      by_cases e : i = j
      · subst e
        simp
      · simp only [e, if_false]
        rw [if_neg (fun hh => e (hwf.place_inj hi hj' (by rw [← hr, hh.1]) (by rw [← hc, hh.2])))]
        exact h4.seat j hj'
    · exact nextE_size h4 hi s hr hc clock

theorem put_any {S : Nat → Prop} {b : Nat} {p : Pla} {l : List Sea} {w : World} (h : FlH w S b p l) (hwf : Wf p l) (i : Nat) (hi : i < l.length) (s : Sea) (hs : s.wf) (hr : s.row = l[i].row) (hc : s.col = l[i].col) :
    Calls Tryz.prog 118 #[.pointer (some ⟨b, 0, none⟩), .agg #[.int .i64 s.row, .int .i64 s.col], .agg #[.int .i64 s.st, .int .i64 s.pa, .int .i64 s.cl, .int .i64 s.un]] w fun e w' =>
      e = .returned (.tuple #[]) ∧ FlH w' S b p (l.set i s) ∧ Mod S w w' := by
  obtain ⟨m, es, clock, h1, h2, h3, h4, h5, h6⟩ := h
  refine (put_exact ⟨h1, h2, h3, h4⟩ hwf i hi s hs hr hc).mono ?_
  rintro e w' ⟨rfl, hh, hm⟩
  exact ⟨rfl, ⟨m, _, _, hh.has, hh.map, hh.ok, hh.rel, h5, h6⟩, hm.mono (fun k _ hk => by rcases hk with rfl | rfl; exact h5; exact h6)⟩
end Go.Proofs.YthhibagcpjeihaaGreat
/- The changes, each done to a flight. -/
namespace Go.Proofs.YthhibagcpjeihaaGreat
open Go.RowKit
open Go.ChangeMaps (setBlock)
open M
set_option linter.unusedVariables false
set_option linter.unusedSimpArgs false
set_option maxRecDepth 100000

theorem FlH.cell24 {w : World} {S : Nat → Prop} {b : Nat} {p : Pla} {l : List Sea} (h : FlH w S b p l) : w.cell? ⟨b, 24, none⟩ = some (.int .i64 p.ep) ∧ w.frozen? ⟨b, 24, none⟩ = false ∧ b < w.heap.size := by
  obtain ⟨m, es, clock, h1, h2, h3, h4, h5, h6⟩ := h
  refine ⟨?_, h1.frozen 24, h1.lt⟩
  rw [h1.cell 24]
  rfl
theorem MapRel.next {es : List MEnt} {p : Pla} {l : List Sea} (h : MapRel es p l) : MapRel es p.next l := ⟨h.ent, h.seat, h.size⟩
theorem Wf.next {p : Pla} {l : List Sea} (h : Wf p l) : Wf p.next l := ⟨h.sized, h.limited, h.len, h.place, h.seat⟩
/-- The epoch, one more. -/
theorem FlX.bump {w : World} {b m clock : Nat} {p : Pla} {l : List Sea} {es : List MEnt} (h : FlX w b p l m es clock) : FlX (w.setCell ⟨b, 24, none⟩ (.int .i64 (nx p.ep))) b p.next l m es clock :=
  ⟨h.has.set 24 _, by rw [Below.heap_setCell _ _ _ _ (by exact h.has.map_ne h.map)]; exact h.map, h.ok, h.rel.next⟩
theorem FlH.bump {w : World} {S : Nat → Prop} {b : Nat} {p : Pla} {l : List Sea} (h : FlH w S b p l) : FlH (w.setCell ⟨b, 24, none⟩ (.int .i64 (nx p.ep))) S b p.next l ∧ Mod S w (w.setCell ⟨b, 24, none⟩ (.int .i64 (nx p.ep))) := by
  obtain ⟨m, es, clock, h1, h2, h3, h4, h5, h6⟩ := h
  have := FlX.bump ⟨h1, h2, h3, h4⟩
  exact ⟨⟨m, es, clock, this.has, this.map, this.ok, this.rel, h5, h6⟩, (Mod.refl _ w).setCell (p := ⟨b, 24, none⟩) (.inl h5) _⟩

theorem fill_any {S : Nat → Prop} {b : Nat} {p : Pla} {l : List Sea} {w : World} (h : FlH w S b p l) (hwf : Wf p l) (i : Nat) (hi : i < l.length) (s : Sea) (hs : s.wf) (hr : s.row = l[i].row) (hc : s.col = l[i].col) :
    Calls Tryz.prog 161 #[.agg #[.int .i64 s.row, .int .i64 s.col, .int .i64 s.st, .int .i64 s.pa, .int .i64 s.cl, .int .i64 s.un], .pointer (some ⟨b, 0, none⟩)] w fun e w' =>
      e = .returned (.tuple #[]) ∧ FlH w' S b p.next (l.set i s) ∧ Mod S w w' := by
  have HP := hide fun W (hW : FlH W S b p l) => put_any hW hwf i hi s hs hr hc
  have H := hide h
  clear h hr hc hs hwf
  go_enter Tryz.func161, Tryz.ntmps161
  go_wp2_with fail
  refine ((unhide HP) _ ((unhide H).mod0 ((Mod.refl _ _).alloc _))).mono ?_
  rintro e w1 ⟨rfl, h1, m1⟩
  obtain ⟨c24, z24, l24⟩ := h1.cell24
  have wE := nx_eq p.ep
  have HB := hide h1.bump
  have M1 := hide (((Mod.refl S w).alloc (.cells #[.int .i64 s.row, .int .i64 s.col, .int .i64 s.st, .int .i64 s.pa, .int .i64 s.cl, .int .i64 s.un] 202)).trans m1)
  clear h1 m1 H HP
  go_wp2
  go_end0
  exact ⟨rfl, (unhide HB).1, (unhide M1).trans (unhide HB).2⟩

theorem empty_any {S : Nat → Prop} {b : Nat} {p : Pla} {l : List Sea} {w : World} (h : FlH w S b p l) (hwf : Wf p l) (i : Nat) (hi : i < l.length) :
    Calls Tryz.prog 165 #[.agg #[.int .i64 l[i].row, .int .i64 l[i].col], .pointer (some ⟨b, 0, none⟩)] w fun e w' =>
      e = .returned (.tuple #[]) ∧ FlH w' S b p.next (l.set i l[i].freed) ∧ Mod S w w' := by
  have hfr : (l[i].freed).wf := ⟨by simp [Sea.freed], by simp [Sea.freed], by simp [Sea.freed], by simp [Sea.freed], by simp [Sea.freed], by simp [Sea.freed], by simp [Sea.freed], by simp [Sea.freed]⟩
  have HP := hide fun W (hW : FlH W S b p l) => put_any hW hwf i hi l[i].freed hfr rfl rfl
  have H := hide h
  clear h
  generalize hx : l[i] = x at *
  have HX := hide hx
  clear hx
  obtain ⟨r, c, st, pa, cl, un⟩ := x
  simp only [Sea.freed] at HP ⊢
  go_enter Tryz.func165, Tryz.ntmps165
  go_wp2_with fail
  refine ((unhide HP) _ ((unhide H).mod0 ((Mod.refl _ _).alloc _))).mono ?_
  rintro e w1 ⟨rfl, h1, m1⟩
  obtain ⟨c24, z24, l24⟩ := h1.cell24
  have wE := nx_eq p.ep
  have HB := hide h1.bump
  have M1 := hide (((Mod.refl S w).alloc (.cells #[.int .i64 r, .int .i64 c] 214)).trans m1)
  clear h1 m1 H HP
  go_wp2
  go_end0
  exact ⟨rfl, (unhide HB).1, (unhide M1).trans (unhide HB).2⟩

/-- Of S what is there. -/
def Old (S : Nat → Prop) (w : World) : Nat → Prop := fun k => S k ∧ k < w.heap.size
theorem FlH.narrow {w : World} {S : Nat → Prop} {b : Nat} {p : Pla} {l : List Sea} (h : FlH w S b p l) : FlH w (Old S w) b p l := by
  obtain ⟨m, es, clock, h1, h2, h3, h4, h5, h6⟩ := h
  exact ⟨m, es, clock, h1, h2, h3, h4, ⟨h5, h1.lt⟩, ⟨h6, (Array.getElem?_eq_some_iff.1 h2).1⟩⟩
theorem FlH.wide {w : World} {S S' : Nat → Prop} {b : Nat} {p : Pla} {l : List Sea} (h : FlH w S b p l) (hs : ∀ k, S k → S' k) : FlH w S' b p l := by
  obtain ⟨m, es, clock, h1, h2, h3, h4, h5, h6⟩ := h
  exact ⟨m, es, clock, h1, h2, h3, h4, hs _ h5, hs _ h6⟩

theorem shift_walk (S : Nat → Prop) (b m : Nat) (cs : Array Value) (r c r' c' st pa cl un : Int) (w : World) (es : List MEnt) (clock : Nat) (P1 P2 : World → Prop)
    (hS : ∀ k, S k → k < w.heap.size) (h : Has w b cs 164) (h7 : cs[7]? = some (.map (some m))) (hm : w.heap[m]? = some (mapObj es clock))
    (hL : ∀ W : World, W.heap[m]? = some (mapObj es clock) → (Instr.lookup 162 (.map (some m)) (.agg #[.int .i64 r, .int .i64 c]) false).run Tryz.prog W = .ok (.agg #[.int .i64 st, .int .i64 pa, .int .i64 cl, .int .i64 un]) W)
    (hP1 : ∀ W, Mod No w W → Calls Tryz.prog 118 #[.pointer (some ⟨b, 0, none⟩), .agg #[.int .i64 r, .int .i64 c], .agg #[.int .i64 0, .int .i64 0, .int .i64 0, .int .i64 0]] W fun e w' => e = .returned (.tuple #[]) ∧ P1 w' ∧ Mod S W w')
    (hP2 : ∀ W, P1 W → Calls Tryz.prog 118 #[.pointer (some ⟨b, 0, none⟩), .agg #[.int .i64 r', .int .i64 c'], .agg #[.int .i64 st, .int .i64 pa, .int .i64 cl, .int .i64 un]] W fun e w' => e = .returned (.tuple #[]) ∧ P2 w' ∧ Mod S W w')
    (ep : Int) (P3 : World → Prop) (hP3 : ∀ W, P2 W → (W.cell? ⟨b, 24, none⟩ = some (.int .i64 ep) ∧ W.frozen? ⟨b, 24, none⟩ = false ∧ b < W.heap.size) ∧ P3 (W.setCell ⟨b, 24, none⟩ (.int .i64 (nx ep))) ∧ Mod S W (W.setCell ⟨b, 24, none⟩ (.int .i64 (nx ep)))) :
    Calls Tryz.prog 166 #[.agg #[.int .i64 r, .int .i64 c, .int .i64 r', .int .i64 c'], .pointer (some ⟨b, 0, none⟩)] w fun e w' => e = .returned (.tuple #[]) ∧ P3 w' ∧ Mod S w w' := by
  have HP3 := hide hP3
  clear hP3
  have hlt := h.lt
  have c7 := h.cell 7
  rw [h7] at c7
  have hL1 := hL (w.alloc (.cells #[.int .i64 r, .int .i64 c, .int .i64 r', .int .i64 c'] 216)).drew (Mod.map ((Mod.refl No w).alloc _).drew hm (fun x => x))
  have hL2 := fun X => hL ((w.alloc (.cells #[.int .i64 r, .int .i64 c, .int .i64 r', .int .i64 c'] 216)).alloc X).drew (Mod.map (((Mod.refl No w).alloc _).alloc X).drew hm (fun x => x))
  have HS := hide hS
  have HP1 := hide hP1
  have HP2 := hide hP2
  clear hS h h7 hm hL hP1 hP2
  go_enter Tryz.func166, Tryz.ntmps166
  go_wp2_with fail
  go_cut [4] (fun s4 wx => s4 = .pointer (some ⟨w.heap.size + 1, 0, none⟩) ∧ wx = ((w.alloc (.cells #[.int .i64 r, .int .i64 c, .int .i64 r', .int .i64 c'] 216)).alloc (.cells #[.int .i64 st, .int .i64 pa, .int .i64 cl, .int .i64 un] 199)).drew)
  case first =>
    go_region
    all_goals go_wp2
    all_goals go_meet
    all_goals exact ⟨rfl, rfl⟩
  case rest =>
    obtain ⟨rfl, rfl⟩ := hcut
    have B1 : Has ((w.alloc (.cells #[.int .i64 r, .int .i64 c, .int .i64 r', .int .i64 c'] 216)).alloc (.cells #[.int .i64 st, .int .i64 pa, .int .i64 cl, .int .i64 un] 199)).drew w.heap.size #[.int .i64 r, .int .i64 c, .int .i64 r', .int .i64 c'] 216 := ((Has.new w _ _).alloc _).drew
    have B2 : Has ((w.alloc (.cells #[.int .i64 r, .int .i64 c, .int .i64 r', .int .i64 c'] 216)).alloc (.cells #[.int .i64 st, .int .i64 pa, .int .i64 cl, .int .i64 un] 199)).drew (w.heap.size + 1) #[.int .i64 st, .int .i64 pa, .int .i64 cl, .int .i64 un] 199 := by
      have := Has.new (w.alloc (.cells #[.int .i64 r, .int .i64 c, .int .i64 r', .int .i64 c'] 216)) #[.int .i64 st, .int .i64 pa, .int .i64 cl, .int .i64 un] 199
      rw [World.size_alloc] at this
      exact this
    have M0 : Mod No w ((w.alloc (.cells #[.int .i64 r, .int .i64 c, .int .i64 r', .int .i64 c'] 216)).alloc (.cells #[.int .i64 st, .int .i64 pa, .int .i64 cl, .int .i64 un] 199)).drew := (((Mod.refl _ w).alloc _).alloc _).drew
    have BB1 := hide B1
    have BB2 := hide B2
    have MM0 := hide M0
    clear B1 B2 M0 hL1 hL2
    go_wp2_with fail
    refine ((unhide HP1) _ (unhide MM0)).mono ?_
    rintro e w1 ⟨rfl, p1, m1⟩
    have c1 := (m1.has (unhide BB1) (fun hs => by have := (unhide HS) _ hs; omega)).cell
    have c2 := (m1.has (unhide BB2) (fun hs => by have := (unhide HS) _ hs; omega)).cell
    have PP1 := hide p1
    have M1 := hide (((unhide MM0).mono (S' := S) (fun _ _ x => x.elim)).trans m1)
    clear p1 m1
    go_wp2_with fail
    refine ((unhide HP2) _ (unhide PP1)).mono ?_
    rintro e w2 ⟨rfl, p2, m2⟩
    obtain ⟨⟨c24, z24, l24⟩, p3, m3⟩ := (unhide HP3) _ p2
    have wE := nx_eq ep
    have PP3 := hide p3
    have M3 := hide (((unhide M1).trans m2).trans m3)
    clear p3 m3 p2 m2 c1 c2 HP1 HP2 HP3
    go_wp2
    go_end0
    exact ⟨rfl, unhide PP3, unhide M3⟩

theorem freed_wf (s : Sea) : s.freed.wf := ⟨by simp [Sea.freed], by simp [Sea.freed], by simp [Sea.freed], by simp [Sea.freed], by simp [Sea.freed], by simp [Sea.freed], by simp [Sea.freed], by simp [Sea.freed]⟩

theorem shift_any {S : Nat → Prop} {b : Nat} {p : Pla} {l : List Sea} {w : World} (h : FlH w S b p l) (hwf : Wf p l) (i : Nat) (hi : i < l.length) (j : Nat) (hj : j < l.length) (hij : i ≠ j) :
    Calls Tryz.prog 166 #[.agg #[.int .i64 l[i].row, .int .i64 l[i].col, .int .i64 l[j].row, .int .i64 l[j].col], .pointer (some ⟨b, 0, none⟩)] w fun e w' =>
      e = .returned (.tuple #[]) ∧ FlH w' S b p.next ((l.set i l[i].freed).set j ⟨l[j].row, l[j].col, l[i].st, l[i].pa, l[i].cl, l[i].un⟩) ∧ Mod S w w' := by
  have hwi := hwf.seat _ (List.getElem_mem hi)
  have hwn : (⟨l[j].row, l[j].col, l[i].st, l[i].pa, l[i].cl, l[i].un⟩ : Sea).wf := ⟨hwi.s0, hwi.s1, hwi.c0, hwi.c1, hwi.bare, hwi.pa, hwi.un, hwi.bk⟩
  have hwf1 : Wf p (l.set i l[i].freed) := hwf.set hi (freed_wf _) rfl rfl
  have hj1 : j < (l.set i l[i].freed).length := by simpa using hj
  have ej : (l.set i l[i].freed)[j] = l[j] := by simp [List.getElem_set, hij]
  obtain ⟨m, es, clock, h1, h2, h3, h4, h5, h6⟩ := id h
  have hplace := (hwf.place_has hi).1
  simp only [Pla.has, decide_eq_true_eq] at hplace
  obtain ⟨B1, B2, B3, B4, _⟩ := hwf.bounds
  simp only at B1 B2 B3 B4
  refine (shift_walk (Old S w) b m _ l[i].row l[i].col l[j].row l[j].col l[i].st l[i].pa l[i].cl l[i].un w es clock (fun W => FlH W (Old S w) b p (l.set i l[i].freed))
    (fun W => FlH W (Old S w) b p ((l.set i l[i].freed).set j ⟨l[j].row, l[j].col, l[i].st, l[i].pa, l[i].cl, l[i].un⟩)) (fun k hk => hk.2) h1 rfl h2 (fun W hW => ?_) (fun W hW => ?_) (fun W hW => ?_) p.ep
    (fun W => FlH W (Old S w) b p.next ((l.set i l[i].freed).set j ⟨l[j].row, l[j].col, l[i].st, l[i].pa, l[i].cl, l[i].un⟩)) (fun W hW => ⟨hW.cell24, hW.bump⟩)).mono ?_
  · have := run_lookup W m es clock hW h3 l[i].row l[i].col (by omega) (by omega)
    rw [h4.seat i hi] at this
    exact this
  · exact put_any (h.narrow.mod0 hW) hwf i hi l[i].freed (freed_wf _) rfl rfl
  · exact put_any hW hwf1 j hj1 ⟨l[j].row, l[j].col, l[i].st, l[i].pa, l[i].cl, l[i].un⟩ hwn (by rw [ej]) (by rw [ej])
  · rintro e w' ⟨rfl, hh, hm⟩
    exact ⟨rfl, hh.wide (fun k hk => hk.1), hm.mono (fun k _ hk => hk.1)⟩
end Go.Proofs.YthhibagcpjeihaaGreat
