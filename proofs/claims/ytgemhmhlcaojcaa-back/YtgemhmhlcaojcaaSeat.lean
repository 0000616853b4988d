import Derived.Test.YtgemhmhlcaojcaaMaps2
import Derived.Test.YtgemhmhlcaojcaaTape
/- A flight's counts: one seat more or less; what is left, reckoned. -/
namespace Go.Proofs.Ytgemhmhlcaojcaa
open Go.RowKit
open M
set_option linter.unusedVariables false
set_option linter.unusedSimpArgs false
set_option maxRecDepth 100000

theorem sold_any (n : Nat) (pa cl un : Int) (w : World) :
    Calls Try.prog 70 #[.agg #[.int .i64 n, .int .i64 pa, .int .i64 cl, .int .i64 un]] w fun e w' => e = .returned (.bool (decide (n = 1 ∨ n = 2))) ∧ Mod No w w' := by
  by_cases h1 : n = 1
  · subst h1
    go_enter Try.func70, Try.ntmps70
    go_wp2
    go_ret
    exact ⟨rfl, (Mod.refl _ _).alloc _⟩
  · have h1' : ((n : Int) == 1) = false := by simp; omega
    by_cases h2 : n = 2
    · subst h2
      go_enter Try.func70, Try.ntmps70
      go_wp2
      go_ret
      exact ⟨rfl, (Mod.refl _ _).alloc _⟩
    · have h2' : ((n : Int) == 2) = false := by simp; omega
      go_enter Try.func70, Try.ntmps70
      go_wp2
      go_ret
      exact ⟨by simp [h1, h2, h1', h2'], (Mod.refl _ _).alloc _⟩

/-- A store into the one block. -/
theorem Mod.at {a w : World} {b : Nat} (h : Mod (fun k => k = b) a w) (o : Nat) (v : Value) : Mod (fun k => k = b) a (w.setCell ⟨b, o, none⟩ v) := Mod.setCell (S := fun k => k = b) h (p := ⟨b, o, none⟩) (.inl rfl) v

/-- The counts, a seat more or less. -/
def tallied (cs : Array Value) (base n k : Nat) (x y times : Int) : Array Value :=
  if n = 1 ∨ n = 2 then (cs.setIfInBounds (base + n) (.int .i64 (x + times))).setIfInBounds (16 + k) (.int .i64 (y + times)) else cs.setIfInBounds (base + n) (.int .i64 (x + times))

theorem tally_core (b n k base : Nat) (cs : Array Value) (row col pa un front x y times : Int) (w : World) (h : Has w b cs 104) (h2 : cs[2]? = some (.int .i64 front))
    (hbase : (row ≤ front ∧ base = 8) ∨ (¬ row ≤ front ∧ base = 12)) (hn : n < 4) (hk : k < 4)
    (hx : cs[base + n]? = some (.int .i64 x)) (hy : cs[16 + k]? = some (.int .i64 y)) (bx : -100000 ≤ x ∧ x ≤ 100000) (by_ : -100000 ≤ y ∧ y ≤ 100000) (bt : -1 ≤ times ∧ times ≤ 1) :
    Calls Try.prog 71 #[.pointer (some ⟨b, 0, none⟩), .agg #[.int .i64 row, .int .i64 col], .agg #[.int .i64 n, .int .i64 pa, .int .i64 k, .int .i64 un], .int .i64 times] w fun e w' =>
      e = .returned (.tuple #[]) ∧ Mod (· = b) w w' ∧
        Has w' b (tallied cs base n k x y times) 104 := by
  have hlt := h.lt
  have c2 := h.cell 2
  have cx := h.cell (base + n)
  have cy := h.cell (16 + k)
  have hz := h.frozen
  rw [h2] at c2
  rw [hx] at cx
  rw [hy] at cy
  have H := hide h
  have w1 := wrap_id (x + times) (by omega) (by omega)
  have HY := hide hy
  clear h h2 hx hy
  have hn' : (n : Int) < 4 := by omega
  have hk' : (k : Int) < 4 := by omega
  rcases hbase with ⟨hr, rfl⟩ | ⟨hr, rfl⟩
  · go_enter Try.func71, Try.ntmps71
    go_wp2
    go_quiet (fail)
    go_wp2
    go_region
    go_wp2_with fail
    refine (sold_any n pa k un _).mono ?_
    rintro e w3 ⟨rfl, hm⟩
    have hb3 : Has w3 b (cs.setIfInBounds (8 + n) (.int .i64 (x + times))) 104 := hm.has (((((unhide H).alloc _).alloc _).drewN (nq + 1)).set (8 + n) _) (fun x => x)
    have hs0 : Has w3 (w.heap.size + 1) #[.int .i64 n, .int .i64 pa, .int .i64 k, .int .i64 un] 123 :=
      hm.has (Has.set_ne (Has.drewN (by have := Has.new (w.alloc (.cells #[.int .i64 row, .int .i64 col] 32)) #[.int .i64 n, .int .i64 pa, .int .i64 k, .int .i64 un] 123; rwa [World.size_alloc] at this) (nq + 1)) (by simp; omega) _) (fun x => x)
    have m3 : Mod (· = b) w w3 := ((((((Mod.refl _ w).alloc _).alloc _).drewN (nq + 1)).at (8 + n) _)).trans (hm.mono (fun _ _ x => x.elim))
    have y3 := hb3.cell (16 + k)
    have z3 := hb3.frozen
    have s3 := hs0.cell 2
    rw [Array.getElem?_setIfInBounds, if_neg (by omega), (unhide HY)] at y3
    simp only [List.getElem?_toArray, List.getElem?_cons_succ, List.getElem?_cons_zero] at s3
    have HB3 := hide hb3
    have M3 := hide m3
    clear hm hb3 hs0 m3 c2 cx cy hz w1
    by_cases hst : n = 1 ∨ n = 2
    · have hd : decide (n = 1 ∨ n = 2) = true := decide_eq_true hst
      rw [hd]
      have HST := hide hst
      clear hst hd
      have w2 := wrap_id (y + times) (by omega) (by omega)
      go_wp2_with fail
      go_region
      go_wp2
      go_end0
      refine ⟨rfl, ((unhide M3).at (16 + k) _).drew, ?_⟩
      unfold tallied
      rw [if_pos (unhide HST)]
      exact (unhide HB3).set (16 + k) _
    · have hd : decide (n = 1 ∨ n = 2) = false := decide_eq_false hst
      rw [hd]
      have HST := hide hst
      clear hst hd
      go_wp2
      go_end0
      refine ⟨rfl, unhide M3, ?_⟩
      unfold tallied
      rw [if_neg (unhide HST)]
      exact unhide HB3
  · go_enter Try.func71, Try.ntmps71
    go_wp2
    go_quiet (fail)
    go_wp2
    go_region
    go_wp2_with fail
    refine (sold_any n pa k un _).mono ?_
    rintro e w3 ⟨rfl, hm⟩
    have hb3 : Has w3 b (cs.setIfInBounds (12 + n) (.int .i64 (x + times))) 104 := hm.has (((((unhide H).alloc _).alloc _).drewN (nq + 1)).set (12 + n) _) (fun x => x)
    have hs0 : Has w3 (w.heap.size + 1) #[.int .i64 n, .int .i64 pa, .int .i64 k, .int .i64 un] 123 :=
      hm.has (Has.set_ne (Has.drewN (by have := Has.new (w.alloc (.cells #[.int .i64 row, .int .i64 col] 32)) #[.int .i64 n, .int .i64 pa, .int .i64 k, .int .i64 un] 123; rwa [World.size_alloc] at this) (nq + 1)) (by simp; omega) _) (fun x => x)
    have m3 : Mod (· = b) w w3 := ((((((Mod.refl _ w).alloc _).alloc _).drewN (nq + 1)).at (12 + n) _)).trans (hm.mono (fun _ _ x => x.elim))
    have y3 := hb3.cell (16 + k)
    have z3 := hb3.frozen
    have s3 := hs0.cell 2
    rw [Array.getElem?_setIfInBounds, if_neg (by omega), (unhide HY)] at y3
    simp only [List.getElem?_toArray, List.getElem?_cons_succ, List.getElem?_cons_zero] at s3
    have HB3 := hide hb3
    have M3 := hide m3
    clear hm hb3 hs0 m3 c2 cx cy hz w1
    by_cases hst : n = 1 ∨ n = 2
    · have hd : decide (n = 1 ∨ n = 2) = true := decide_eq_true hst
      rw [hd]
      have HST := hide hst
      clear hst hd
      have w2 := wrap_id (y + times) (by omega) (by omega)
      go_wp2_with fail
      go_region
      go_wp2
      go_end0
      refine ⟨rfl, ((unhide M3).at (16 + k) _).drew, ?_⟩
      unfold tallied
      rw [if_pos (unhide HST)]
      exact (unhide HB3).set (16 + k) _
    · have hd : decide (n = 1 ∨ n = 2) = false := decide_eq_false hst
      rw [hd]
      have HST := hide hst
      clear hst hd
      go_wp2
      go_end0
      refine ⟨rfl, unhide M3, ?_⟩
      unfold tallied
      rw [if_neg (unhide HST)]
      exact unhide HB3
end Go.Proofs.Ytgemhmhlcaojcaa
