import Derived.Test.YtgemhmhlcaojcaaLook8
/- A keeper in memory; its time; its flights by their numbers. -/
namespace Go.Proofs.Ytgemhmhlcaojcaa
open Go.RowKit
open Go.ChangeMaps (setBlock)
open M
set_option linter.unusedVariables false
set_option linter.unusedSimpArgs false
set_option maxRecDepth 100000

/-- A pointer that may be nil. -/
def pv (x : Option Nat) : Value := .pointer (x.map fun b => ⟨b, 0, none⟩)
def keepCells (now : Int) (pt : Nat → Option Nat) : Array Value :=
  #[.int .i64 now, pv (pt 0), pv (pt 1), pv (pt 2), pv (pt 3), pv (pt 4), pv (pt 5), pv (pt 6), pv (pt 7), pv (pt 8), pv (pt 9), pv (pt 10), pv (pt 11), pv (pt 12), pv (pt 13), pv (pt 14), pv (pt 15), pv (pt 16), pv (pt 17), pv (pt 18), pv (pt 19), pv (pt 20)]

theorem keep_at (now : Int) (pt : Nat → Option Nat) (n : Nat) (hn : n < 21) : (keepCells now pt)[1 + n]? = some (pv (pt n)) := by
  have : n = 0 ∨ n = 1 ∨ n = 2 ∨ n = 3 ∨ n = 4 ∨ n = 5 ∨ n = 6 ∨ n = 7 ∨ n = 8 ∨ n = 9 ∨ n = 10 ∨ n = 11 ∨ n = 12 ∨ n = 13 ∨ n = 14 ∨ n = 15 ∨ n = 16 ∨ n = 17 ∨ n = 18 ∨ n = 19 ∨ n = 20 := by omega
  rcases this with h | h | h | h | h | h | h | h | h | h | h | h | h | h | h | h | h | h | h | h | h <;> (subst h; rfl)

def updP (pt : Nat → Option Nat) (n b : Nat) : Nat → Option Nat := fun j => if j = n then some b else pt j

theorem keep_set (now : Int) (pt : Nat → Option Nat) (n b : Nat) (hn : n < 21) : (keepCells now pt).setIfInBounds (1 + n) (pv (some b)) = keepCells now (updP pt n b) := by
  have : n = 0 ∨ n = 1 ∨ n = 2 ∨ n = 3 ∨ n = 4 ∨ n = 5 ∨ n = 6 ∨ n = 7 ∨ n = 8 ∨ n = 9 ∨ n = 10 ∨ n = 11 ∨ n = 12 ∨ n = 13 ∨ n = 14 ∨ n = 15 ∨ n = 16 ∨ n = 17 ∨ n = 18 ∨ n = 19 ∨ n = 20 := by omega
  rcases this with h | h | h | h | h | h | h | h | h | h | h | h | h | h | h | h | h | h | h | h | h <;> (subst h; rfl)

/-- The flights of a keeper: what the owners' marks say is whose. -/
structure KeepX (w : World) (ow : Nat → Nat) (kb : Nat) (now : Int) (pt : Nat → Option Nat) (fl : Nat → Option (Pla × List Sea)) : Prop where
  has : Has w kb (keepCells now pt) 93
  mine : ow kb = 1
  old : ∀ k, ow k ≠ 0 → k < w.heap.size
  gone : ∀ n, n < 21 → fl n = none → pt n = none
  here : ∀ n p l, n < 21 → fl n = some (p, l) → ∃ b, pt n = some b ∧ Wf p l ∧ FlH w (fun k => ow k = n + 2) b p l

theorem now_any {w : World} {ow : Nat → Nat} {kb : Nat} {now : Int} {pt : Nat → Option Nat} {fl : Nat → Option (Pla × List Sea)} (h : KeepX w ow kb now pt fl) :
    Calls Try.prog 21 #[.pointer (some ⟨kb, 0, none⟩)] w fun e w' => e = .returned (.int .i64 now) ∧ w' = w := by
  have c0 := h.has.cell 0
  rw [show (keepCells now pt)[0]? = some (.int .i64 now) from rfl] at c0
  have hlt := h.has.lt
  clear h
  go_enter Try.func21, Try.ntmps21
  go_wp2
  go_ret
  exact ⟨rfl, rfl⟩

theorem find_no (kb : Nat) (n : Int) (hn : ¬ (1 ≤ n ∧ n ≤ 20)) (w : World) :
    Calls Try.prog 37 #[.pointer (some ⟨kb, 0, none⟩), .int .i64 n] w fun e w' => e = .returned (.pointer none) ∧ w' = w := by
  by_cases h1 : n < 1
  · go_enter Try.func37, Try.ntmps37
    go_wp2
    go_ret
    exact ⟨rfl, rfl⟩
  · have h2 : n > 20 := by omega
    go_enter Try.func37, Try.ntmps37
    go_wp2
    go_ret
    exact ⟨rfl, rfl⟩

theorem find_cell (kb : Nat) (n : Nat) (hn : 1 ≤ n ∧ n ≤ 20) (x : Value) (cs : Array Value) (w : World) (h : Has w kb cs 93) (hc : cs[1 + n]? = some x) :
    Calls Try.prog 37 #[.pointer (some ⟨kb, 0, none⟩), .int .i64 n] w fun e w' => e = .returned x ∧ w' = w := by
  have c := h.cell (1 + n)
  rw [hc] at c
  have hlt := h.lt
  clear h hc
  have h1 : ¬ (n : Int) < 1 := by omega
  have h2 : ¬ (n : Int) > 20 := by omega
  have h3 : (n : Int) < 21 := by omega
  have h4 : (0 : Int) ≤ n := by omega
  go_enter Try.func37, Try.ntmps37
  go_wp2
  go_ret
  exact ⟨rfl, rfl⟩

theorem find_any {w : World} {ow : Nat → Nat} {kb : Nat} {now : Int} {pt : Nat → Option Nat} {fl : Nat → Option (Pla × List Sea)} (h : KeepX w ow kb now pt fl) (n : Nat) (hn : 1 ≤ n ∧ n ≤ 20) :
    Calls Try.prog 37 #[.pointer (some ⟨kb, 0, none⟩), .int .i64 n] w fun e w' => e = .returned (pv (pt n)) ∧ w' = w :=
  find_cell kb n hn _ _ w h.has (keep_at now pt n (by omega))
end Go.Proofs.Ytgemhmhlcaojcaa
