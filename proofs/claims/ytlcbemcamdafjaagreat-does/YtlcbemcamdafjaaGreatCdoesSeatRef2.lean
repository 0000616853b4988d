import Derived.Test.YtlcbemcamdafjaaGreatCdoesMapsMaps2
import Derived.Test.YtlcbemcamdafjaaGreatCdoesCellsRowS
import Derived.Handy
import Derived.BigQuiet
import Derived.Deep.QuietTactic
/- A flight's counts: one seat more or less; what is left, reckoned. -/
namespace Go.Proofs.YtlcbemcamdafjaaGreat
open Go.RowKit
open M
set_option linter.unusedVariables false
set_option linter.unusedSimpArgs false
set_option maxRecDepth 100000

theorem sold_any (n : Nat) (pa cl un : Int) (w : World) :
    Calls Tryz.prog 103 #[.agg #[.int .i64 n, .int .i64 pa, .int .i64 cl, .int .i64 un]] w fun e w' => e = .returned (.bool (decide (n = 1 ∨ n = 2))) ∧ Mod No w w' := by
  by_cases h1 : n = 1
  · subst h1
    go_enter Tryz.func103, Tryz.ntmps103
    go_wp2
    go_ret
    exact ⟨rfl, (Mod.refl _ _).alloc _⟩
  · have h1' : ((n : Int) == 1) = false := by simp; omega
    by_cases h2 : n = 2
    · subst h2
      go_enter Tryz.func103, Tryz.ntmps103
      go_wp2
      go_ret
      exact ⟨rfl, (Mod.refl _ _).alloc _⟩
    · have h2' : ((n : Int) == 2) = false := by simp; omega
      go_enter Tryz.func103, Tryz.ntmps103
      go_wp2
      go_ret
      exact ⟨by simp [h1, h2, h1', h2'], (Mod.refl _ _).alloc _⟩

/-- A store into the one block. -/
theorem Mod.at {a w : World} {b : Nat} (h : Mod (fun k => k = b) a w) (o : Nat) (v : Value) : Mod (fun k => k = b) a (w.setCell ⟨b, o, none⟩ v) := Mod.setCell (S := fun k => k = b) h (p := ⟨b, o, none⟩) (.inl rfl) v

/-- The counts, a seat more or less. -/
def tallied (cs : Array Value) (base n k : Nat) (x y times : Int) : Array Value :=
  if n = 1 ∨ n = 2 then (cs.setIfInBounds (base + n) (.int .i64 (x + times))).setIfInBounds (16 + k) (.int .i64 (y + times)) else cs.setIfInBounds (base + n) (.int .i64 (x + times))

theorem tally_core (b n k base : Nat) (cs : Array Value) (row col pa un front x y times : Int) (w : World) (h : Has w b cs 154) (h2 : cs[2]? = some (.int .i64 front))
    (hbase : (row ≤ front ∧ base = 8) ∨ (¬ row ≤ front ∧ base = 12)) (hn : n < 4) (hk : k < 4)
    (hx : cs[base + n]? = some (.int .i64 x)) (hy : cs[16 + k]? = some (.int .i64 y)) (bx : -100000 ≤ x ∧ x ≤ 100000) (by_ : -100000 ≤ y ∧ y ≤ 100000) (bt : -1 ≤ times ∧ times ≤ 1) :
    Calls Tryz.prog 104 #[.pointer (some ⟨b, 0, none⟩), .agg #[.int .i64 row, .int .i64 col], .agg #[.int .i64 n, .int .i64 pa, .int .i64 k, .int .i64 un], .int .i64 times] w fun e w' =>
      e = .returned (.tuple #[]) ∧ Mod (· = b) w w' ∧
        Has w' b (tallied cs base n k x y times) 154 := by
  have hlt := h.lt
  have c2 := h.cell 2
  have cx := h.cell (base + n)
  have cy := h.cell (16 + k)
  have hz := h.frozen
  rw [h2] at c2
  rw [hx] at cx
  rw [hy] at cy
  have H := hide h
  have w1 := wrap_id (x + times) (by omega) (by omega)
  have HY := hide hy
  clear h h2 hx hy
  have hn' : (n : Int) < 4 := by omega
  have hk' : (k : Int) < 4 := by omega
  rcases hbase with ⟨hr, rfl⟩ | ⟨hr, rfl⟩
  · go_enter Tryz.func104, Tryz.ntmps104
    go_wp2
    go_quiet (fail)
    go_wp2
    go_region
    go_wp2_with fail
    refine (sold_any n pa k un _).mono ?_
    rintro e w3 ⟨rfl, hm⟩
    have hb3 : Has w3 b (cs.setIfInBounds (8 + n) (.int .i64 (x + times))) 154 := hm.has (((((unhide H).alloc _).alloc _).drewN (nq + 1)).set (8 + n) _) (fun x => x)
    have hs0 : Has w3 (w.heap.size + 1) #[.int .i64 n, .int .i64 pa, .int .i64 k, .int .i64 un] 179 :=
      hm.has (Has.set_ne (Has.drewN (by have := Has.new (w.alloc (.cells #[.int .i64 row, .int .i64 col] 36)) #[.int .i64 n, .int .i64 pa, .int .i64 k, .int .i64 un] 179; rwa [World.size_alloc] at this) (nq + 1)) (by simp; omega) _) (fun x => x)
    have m3 : Mod (· = b) w w3 := ((((((Mod.refl _ w).alloc _).alloc _).drewN (nq + 1)).at (8 + n) _)).trans (hm.mono (fun _ _ x => x.elim))
    have y3 := hb3.cell (16 + k)
    have z3 := hb3.frozen
    have s3 := hs0.cell 2
    rw [Array.getElem?_setIfInBounds, if_neg (by omega), (unhide HY)] at y3
    simp only [List.getElem?_toArray, List.getElem?_cons_succ, List.getElem?_cons_zero] at s3
    have HB3 := hide hb3
    have M3 := hide m3
    clear hm hb3 hs0 m3 c2 cx cy hz w1
    by_cases hst : n = 1 ∨ n = 2
    · have hd : decide (n = 1 ∨ n = 2) = true := decide_eq_true hst
      rw [hd]
      have HST := hide hst
      clear hst hd
      have w2 := wrap_id (y + times) (by omega) (by omega)
      go_wp2_with fail
      go_region
      go_wp2
      go_end0
      refine ⟨rfl, ((unhide M3).at (16 + k) _).drew, ?_⟩
      unfold tallied
      rw [if_pos (unhide HST)]
      exact (unhide HB3).set (16 + k) _
    · have hd : decide (n = 1 ∨ n = 2) = false := decide_eq_false hst
      rw [hd]
      have HST := hide hst
      clear hst hd
      go_wp2
      go_end0
      refine ⟨rfl, unhide M3, ?_⟩
      unfold tallied
      rw [if_neg (unhide HST)]
      exact unhide HB3
  · go_enter Tryz.func104, Tryz.ntmps104
    go_wp2
    go_quiet (fail)
    go_wp2
    go_region
    go_wp2_with fail
    refine (sold_any n pa k un _).mono ?_
    rintro e w3 ⟨rfl, hm⟩
    have hb3 : Has w3 b (cs.setIfInBounds (12 + n) (.int .i64 (x + times))) 154 := hm.has (((((unhide H).alloc _).alloc _).drewN (nq + 1)).set (12 + n) _) (fun x => x)
    have hs0 : Has w3 (w.heap.size + 1) #[.int .i64 n, .int .i64 pa, .int .i64 k, .int .i64 un] 179 :=
      hm.has (Has.set_ne (Has.drewN (by have := Has.new (w.alloc (.cells #[.int .i64 row, .int .i64 col] 36)) #[.int .i64 n, .int .i64 pa, .int .i64 k, .int .i64 un] 179; rwa [World.size_alloc] at this) (nq + 1)) (by simp; omega) _) (fun x => x)
    have m3 : Mod (· = b) w w3 := ((((((Mod.refl _ w).alloc _).alloc _).drewN (nq + 1)).at (12 + n) _)).trans (hm.mono (fun _ _ x => x.elim))
    have y3 := hb3.cell (16 + k)
    have z3 := hb3.frozen
    have s3 := hs0.cell 2
    rw [Array.getElem?_setIfInBounds, if_neg (by omega), (unhide HY)] at y3
    simp only [List.getElem?_toArray, List.getElem?_cons_succ, List.getElem?_cons_zero] at s3
    have HB3 := hide hb3
    have M3 := hide m3
    clear hm hb3 hs0 m3 c2 cx cy hz w1
    by_cases hst : n = 1 ∨ n = 2
    · have hd : decide (n = 1 ∨ n = 2) = true := decide_eq_true hst
      rw [hd]
      have HST := hide hst
      clear hst hd
      have w2 := wrap_id (y + times) (by omega) (by omega)
      go_wp2_with fail
      go_region
      go_wp2
      go_end0
      refine ⟨rfl, ((unhide M3).at (16 + k) _).drew, ?_⟩
      unfold tallied
      rw [if_pos (unhide HST)]
      exact (unhide HB3).set (16 + k) _
    · have hd : decide (n = 1 ∨ n = 2) = false := decide_eq_false hst
      rw [hd]
      have HST := hide hst
      clear hst hd
      go_wp2
      go_end0
      refine ⟨rfl, unhide M3, ?_⟩
      unfold tallied
      rw [if_neg (unhide HST)]
      exact unhide HB3
end Go.Proofs.YtlcbemcamdafjaaGreat
/- The document's answer in memory: a row of seats; how many are free. -/
namespace Go.Proofs.YtlcbemcamdafjaaGreat
open Go.RowKit
open M
set_option linter.unusedVariables false
set_option linter.unusedSimpArgs false
set_option maxRecDepth 100000
set_option maxHeartbeats 2000000

theorem nFree_take (l : List Sea) (i : Nat) (hi : i < l.length) : nFree (l.take (i + 1)) = nFree (l.take i) + if l[i].st = 0 then 1 else 0 := by
  unfold nFree
  rw [List.take_add_one, List.getElem?_eq_getElem hi]
  simp only [Option.toList_some, List.countP_append, List.countP_singleton, beq_iff_eq]
theorem nFree_le (l : List Sea) : nFree l ≤ l.length := List.countP_le_length
theorem nFrom_le (c : Int) (l : List Sea) : nFrom c l ≤ l.length := List.countP_le_length
theorem nFrom_take (c : Int) (l : List Sea) (i : Nat) (hi : i < l.length) : nFrom c (l.take (i + 1)) = nFrom c (l.take i) + if (l[i].sold && decide (c ≤ l[i].cl)) = true then 1 else 0 := by
  unfold nFrom
  rw [List.take_add_one, List.getElem?_eq_getElem hi]
  simp only [Option.toList_some, List.countP_append, List.countP_singleton]

theorem free_any (gf fo g cap : Nat) (l : List Sea) (w : World) (h : RowS w g cap l) (hl : l.length ≤ 1000) (hf : w.cell? ⟨gf, fo + 8, none⟩ = some (.slice (some ⟨g, 0, none⟩) l.length cap)) :
    Calls Tryz.prog 54 #[.pointer (some ⟨gf, fo, none⟩)] w fun e w' => e = .returned (.int .i64 (nFree l : Nat)) ∧ w' = w := by
  have H := hide h
  clear h
  go_enter Tryz.func54, Tryz.ntmps54
  go_wp2_with fail
  go_loopw [3, 4] (fun s3 s4 wr => ∃ i : Nat, s3 = .int .i64 (nFree (l.take i) : Nat) ∧ s4 = .int .i64 i ∧ i ≤ l.length ∧ wr = w) (fun _ s4 _ => l.length - (intOf s4).toNat)
  case atStart => exact ⟨0, rfl, rfl, by omega, rfl⟩
  case round =>
    obtain ⟨i, rfl, rfl, hi, rfl⟩ := hrel
    by_cases h1 : i < l.length
    · have h1i : (i : Int) < (l.length : Int) := by omega
      have h0i : (0 : Int) ≤ i := by omega
      have c2 := (unhide H).st i h1
      have hi1 : IntKind.i64.wrap ((i : Int) + 1) = ((i + 1 : Nat) : Int) := by rw [wrap_id _ (by omega) (by omega)]; rfl
      have hle : nFree (l.take i) ≤ i := by have := nFree_le (l.take i); rw [List.length_take] at this; omega
      have ht := hide (nFree_take l i h1)
      by_cases h2 : l[i].st = 0
      · have hn : IntKind.i64.wrap ((nFree (l.take i) : Nat) + 1 : Int) = ((nFree (l.take (i + 1)) : Nat) : Int) := by
          rw [unhide ht, if_pos h2, wrap_id _ (by omega) (by omega)]; rfl
        go_wp2
        exact ⟨⟨i + 1, rfl, rfl, by omega, trivial⟩, by simp [intOf]; omega⟩
      · have hn : nFree (l.take i) = nFree (l.take (i + 1)) := by rw [unhide ht, if_neg h2]; rfl
        go_wp2
        exact ⟨⟨i + 1, by rw [hn], rfl, by omega, trivial⟩, by simp [intOf]; omega⟩
    · have h1i : ¬ (i : Int) < (l.length : Int) := by omega
      have e : i = l.length := by omega
      subst e
      rw [List.take_length]
      go_wp2
      go_ret
      exact ⟨rfl, rfl⟩
end Go.Proofs.YtlcbemcamdafjaaGreat
/- The document's answer: how many seats are sold; where a seat stands; what is left. -/
namespace Go.Proofs.YtlcbemcamdafjaaGreat
open Go.RowKit
open M
set_option linter.unusedVariables false
set_option linter.unusedSimpArgs false
set_option maxRecDepth 100000
set_option maxHeartbeats 2000000

theorem rsold_any (gf fo g cap : Nat) (l : List Sea) (c : Int) (w : World) (h : RowS w g cap l) (hl : l.length ≤ 1000) (hf : w.cell? ⟨gf, fo + 8, none⟩ = some (.slice (some ⟨g, 0, none⟩) l.length cap)) :
    Calls Tryz.prog 78 #[.pointer (some ⟨gf, fo, none⟩), .int .i64 c] w fun e w' => e = .returned (.int .i64 (nFrom c l : Nat)) ∧ Mod No w w' := by
  have H := hide h
  have HF := hide hf
  have hgl := World.block_lt_of_cell? w _ hf
  clear h hf
  go_enter Tryz.func78, Tryz.ntmps78
  go_wp2_with fail
  go_loopw [5, 6] (fun s5 s6 wr => ∃ i : Nat, s5 = .int .i64 (nFrom c (l.take i) : Nat) ∧ s6 = .int .i64 i ∧ i ≤ l.length ∧ Hid (Mod No w wr)) (fun _ s6 _ => l.length - (intOf s6).toNat)
  case atStart => exact ⟨0, rfl, rfl, by omega, Mod.refl _ _⟩
  case round =>
    obtain ⟨i, rfl, rfl, hi, M0⟩ := hrel
    have hf0 : wr.cell? ⟨gf, fo + 8, none⟩ = some (.slice (some ⟨g, 0, none⟩) l.length cap) := by
      have hx := unhide HF
      unfold World.cell? at hx ⊢
      rw [(unhide M0).block gf hgl (fun x => x)]
      exact hx
    by_cases h1 : i < l.length
    · have h1i : (i : Int) < (l.length : Int) := by omega
      have h0i : (0 : Int) ≤ i := by omega
      have H1 := (unhide H).mod (unhide M0) (fun x => x)
      have c0 := H1.row i h1
      have c1 := H1.col i h1
      have c2 := H1.st i h1
      have c3 := H1.pa i h1
      have c4 := H1.cl i h1
      have c5 := H1.un i h1
      clear H1
      have hi1 : IntKind.i64.wrap ((i : Int) + 1) = ((i + 1 : Nat) : Int) := by rw [wrap_id _ (by omega) (by omega)]; rfl
      have hle : nFrom c (l.take i) ≤ i := by have := nFrom_le c (l.take i); rw [List.length_take] at this; omega
      have ht := hide (nFrom_take c l i h1)
      have hno : (l[i].sold && decide (c ≤ l[i].cl)) = false → nFrom c (l.take i) = nFrom c (l.take (i + 1)) := fun h => by rw [unhide ht, h]; rfl
      have hyes : (l[i].sold && decide (c ≤ l[i].cl)) = true → IntKind.i64.wrap ((nFrom c (l.take i) : Nat) + 1 : Int) = ((nFrom c (l.take (i + 1)) : Nat) : Int) := fun h => by
        rw [unhide ht, if_pos h, wrap_id _ (by omega) (by omega)]; rfl
      by_cases h3 : l[i].st = 1 ∨ l[i].st = 2
      · have hs : l[i].sold = true := by unfold Sea.sold; simpa using h3
        by_cases h4 : l[i].cl ≥ c
        · have hn := hyes (by rw [hs]; simpa using h4)
          clear hyes hno ht H HF hs
          rcases h3 with h3 | h3
          · go_wp2
            exact ⟨⟨i + 1, rfl, rfl, by omega, (unhide M0).alloc _⟩, by simp [intOf]; omega⟩
          · go_wp2
            exact ⟨⟨i + 1, rfl, rfl, by omega, (unhide M0).alloc _⟩, by simp [intOf]; omega⟩
        · have hn := hno (by rw [hs]; simpa using h4)
          clear hyes hno ht H HF hs
          rcases h3 with h3 | h3
          · go_wp2
            exact ⟨⟨i + 1, by first | rfl | rw [hn], rfl, by omega, (unhide M0).alloc _⟩, by simp [intOf]; omega⟩
          · go_wp2
            exact ⟨⟨i + 1, by first | rfl | rw [hn], rfl, by omega, (unhide M0).alloc _⟩, by simp [intOf]; omega⟩
      · have hs : l[i].sold = false := by unfold Sea.sold; simpa using h3
        have hn := hno (by rw [hs]; rfl)
        have h5 : ¬ l[i].st = 1 := fun e => h3 (.inl e)
        have h6 : ¬ l[i].st = 2 := fun e => h3 (.inr e)
        clear hyes hno ht H HF hs h3
        go_wp2
        exact ⟨⟨i + 1, by first | rfl | rw [hn], rfl, by omega, (unhide M0).alloc _⟩, by simp [intOf]; omega⟩
    · have h1i : ¬ (i : Int) < (l.length : Int) := by omega
      have e : i = l.length := by omega
      subst e
      rw [List.take_length]
      clear H HF
      go_wp2
      go_ret
      exact ⟨rfl, unhide M0⟩

/-- Where the first seat of a place stands, from some place on. -/
theorem rseat_any (gf fo g cap : Nat) (l : List Sea) (r c : Int) (w : World) (h : RowS w g cap l) (hl : l.length ≤ 1000) (hf : w.cell? ⟨gf, fo + 8, none⟩ = some (.slice (some ⟨g, 0, none⟩) l.length cap)) :
    Calls Tryz.prog 74 #[.pointer (some ⟨gf, fo, none⟩), .agg #[.int .i64 r, .int .i64 c]] w fun e w' => Mod No w w' ∧
      ((∃ i, ∃ hi : i < l.length, l[i].row = r ∧ l[i].col = c ∧ e = .returned (.int .i64 (i : Nat))) ∨ ((∀ i, ∀ hi : i < l.length, ¬ (l[i].row = r ∧ l[i].col = c)) ∧ e = .returned (.int .i64 (-1)))) := by
  have H := hide h
  have HF := hide hf
  have hgl := World.block_lt_of_cell? w _ hf
  have HB := hide (Has.new w #[.int .i64 r, .int .i64 c] 36)
  have M1 := hide ((Mod.refl No w).alloc (.cells #[.int .i64 r, .int .i64 c] 36))
  clear h hf
  go_enter Tryz.func74, Tryz.ntmps74
  go_wp2_with fail
  go_loopw [5] (fun s5 wr => ∃ i : Nat, s5 = .int .i64 i ∧ i ≤ l.length ∧ Hid (∀ j, ∀ hj : j < l.length, j < i → ¬ (l[j].row = r ∧ l[j].col = c)) ∧ Hid (Mod No w wr) ∧ Hid (Has wr w.heap.size #[.int .i64 r, .int .i64 c] 36)) (fun s5 _ => l.length - (intOf s5).toNat)
  case atStart => exact ⟨0, rfl, by omega, fun j hj h => absurd h (Nat.not_lt_zero _), M1, HB⟩
  case round =>
    obtain ⟨i, rfl, hi, HA, M0, HB0⟩ := hrel
    have hf0 : wr.cell? ⟨gf, fo + 8, none⟩ = some (.slice (some ⟨g, 0, none⟩) l.length cap) := by
      have hx := unhide HF
      unfold World.cell? at hx ⊢
      rw [(unhide M0).block gf hgl (fun x => x)]
      exact hx
    clear HB M1
    by_cases h1 : i < l.length
    · have h1i : (i : Int) < (l.length : Int) := by omega
      have h0i : (0 : Int) ≤ i := by omega
      have H1 := (unhide H).mod (unhide M0) (fun x => x)
      have c0 := H1.row i h1
      have c1 := H1.col i h1
      have b0 : wr.cell? ⟨w.heap.size, 0, none⟩ = some (.int .i64 r) := (unhide HB0).cell 0
      have b1 : wr.cell? ⟨w.heap.size, 1, none⟩ = some (.int .i64 c) := (unhide HB0).cell 1
      clear H1
      have hi1 : IntKind.i64.wrap ((i : Int) + 1) = ((i + 1 : Nat) : Int) := by rw [wrap_id _ (by omega) (by omega)]; rfl
      have HN := hide (fun (hx : ¬ (l[i].row = r ∧ l[i].col = c)) (j : Nat) (hj : j < l.length) (hji : j < i + 1) => (show ¬ (l[j].row = r ∧ l[j].col = c) from by
        by_cases e : j = i
        · subst e; exact hx
        · exact (unhide HA) j hj (by omega)))
      by_cases h2 : l[i].row = r
      · have d2 : (l[i].row == r) = true := by simp [h2]
        by_cases h3 : l[i].col = c
        · have d3 : (l[i].col == c) = true := by simp [h3]
          clear H HF HA HN
          go_wp2_with fail
          go_quiet (fail)
          go_wp2
          go_ret
          exact ⟨(unhide M0).drewN _, .inl ⟨i, h1, h2, h3, rfl⟩⟩
        · have d3 : (l[i].col == c) = false := by simp [h3]
          have HN1 := hide ((unhide HN) (fun h => h3 h.2))
          clear H HF HA HN
          go_wp2_with fail
          go_quiet (fail)
          go_wp2
          exact ⟨⟨i + 1, rfl, by omega, HN1, (unhide M0).drewN _, (unhide HB0).drewN _⟩, by simp [intOf]; omega⟩
      · have d2 : (l[i].row == r) = false := by simp [h2]
        have HN1 := hide ((unhide HN) (fun h => h2 h.1))
        clear H HF HA HN
        go_wp2_with fail
        go_quiet (fail)
        go_wp2
        exact ⟨⟨i + 1, rfl, by omega, HN1, (unhide M0).drewN _, (unhide HB0).drewN _⟩, by simp [intOf]; omega⟩
    · have h1i : ¬ (i : Int) < (l.length : Int) := by omega
      clear H HF
      go_wp2
      go_ret
      exact ⟨unhide M0, .inr ⟨fun j hj hr hc => (unhide HA) j hj (by omega) ⟨hr, hc⟩, rfl⟩⟩
end Go.Proofs.YtlcbemcamdafjaaGreat
