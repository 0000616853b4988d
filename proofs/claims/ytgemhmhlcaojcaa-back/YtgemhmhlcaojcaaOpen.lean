import Derived.Test.YtgemhmhlcaojcaaKeep8
import Derived.Test.YtgemhmhlcaojcaaTape2
import Derived.Handy
/- A keeper is opened; it tells what is left, and counts. -/
namespace Go.Proofs.Ytgemhmhlcaojcaa
open Go.RowKit
open Go.ChangeMaps (setBlock)
open M
set_option linter.unusedVariables false
set_option linter.unusedSimpArgs false
set_option maxRecDepth 100000
set_option maxHeartbeats 2000000

def noP : Nat → Option Nat := fun _ => none
theorem keep_new : keepCells 0 noP = #[.int .i64 0, .pointer none, .pointer none, .pointer none, .pointer none, .pointer none, .pointer none, .pointer none, .pointer none, .pointer none, .pointer none, .pointer none, .pointer none, .pointer none, .pointer none, .pointer none, .pointer none, .pointer none, .pointer none, .pointer none, .pointer none, .pointer none] := rfl

theorem open_low (tb : Nat) (n : Int) (cs : Array Value) (w : World) (h : Has w tb cs 84) (h8 : cs[8]? = some (.int .i64 n)) (hn : n < 200) :
    Calls Try.prog 36 #[.pointer (some ⟨tb, 0, none⟩)] w fun e w' => e = .returned (.tuple #[.pointer none, .int .i64 15]) ∧ w' = w := by
  have HR := hide (room_any tb n w cs h h8)
  clear h h8
  go_enter Try.func36, Try.ntmps36
  go_wp2_with fail
  refine (unhide HR).mono ?_
  rintro e w1 ⟨rfl, rfl⟩
  go_wp2
  go_ret2
  exact ⟨rfl, rfl⟩

theorem open_walk (tb : Nat) (n : Int) (cs : Array Value) (w : World) (h : Has w tb cs 84) (h8 : cs[8]? = some (.int .i64 n)) (hn : ¬ n < 200) :
    Calls Try.prog 36 #[.pointer (some ⟨tb, 0, none⟩)] w fun e w' => e = .returned (.tuple #[.pointer (some ⟨w.heap.size, 0, none⟩), .int .i64 0]) ∧ w' = w.alloc (.cells (keepCells 0 noP) 93) := by
  have HR := hide (room_any tb n w cs h h8)
  rw [keep_new]
  clear h h8
  go_enter Try.func36, Try.ntmps36
  go_wp2_with fail
  refine (unhide HR).mono ?_
  rintro e w1 ⟨rfl, rfl⟩
  go_wp2
  go_ret2
  exact ⟨rfl, rfl⟩

def noFl : Nat → Option (Pla × List Sea) := fun _ => none
theorem keep_start (w : World) : KeepH (w.alloc (.cells (keepCells 0 noP) 93)) (fun k => if k = w.heap.size then 1 else 0) w.heap.size 0 noFl :=
  ⟨noP, ⟨Has.new w _ _, if_pos rfl, fun k hk => by
    by_cases e : k = w.heap.size
    · subst e; simp
    · exact absurd (if_neg e) hk, fun _ _ _ => rfl, fun n p l _ h => by cases h⟩⟩

theorem KeepH.mod {w w' : World} {ow : Nat → Nat} {kb : Nat} {now : Int} {fl : Nat → Option (Pla × List Sea)} {S : Nat → Prop} (h : KeepH w ow kb now fl) (hm : Mod S w w') (hs : ∀ k, ow k ≠ 0 → ¬ S k) : KeepH w' ow kb now fl := by
  obtain ⟨pt, h⟩ := h
  exact ⟨pt, h.mod hm hs⟩

theorem KeepH.wf {w : World} {ow : Nat → Nat} {kb : Nat} {now : Int} {fl : Nat → Option (Pla × List Sea)} (h : KeepH w ow kb now fl) {n : Nat} (hn : n < 21) {p : Pla} {l : List Sea} (hf : fl n = some (p, l)) : Wf p l := by
  obtain ⟨pt, h⟩ := h
  obtain ⟨b, _, hw, _⟩ := h.here n p l hn hf
  exact hw

/-- What is told of what is left. -/
def leftK (fl : Nat → Option (Pla × List Sea)) (n c : Int) : Int × Int :=
  if ¬ (1 ≤ n ∧ n ≤ 20) then (0, 2)
  else match fl n.toNat with
    | none => (0, 2)
    | some x => if ¬ (0 ≤ c ∧ c < 4) then (0, 6) else (min (M.leftOf x.1 x.2 c.toNat) 9, 0)

/-- Counts, as they are told. -/
def totV (p : Pla) (l : List Sea) : Array Value :=
  #[.int .i64 (cA p l 0), .int .i64 (cA p l 1), .int .i64 (cA p l 2), .int .i64 (cA p l 3), .int .i64 (cB p l 0), .int .i64 (cB p l 1), .int .i64 (cB p l 2), .int .i64 (cB p l 3), .int .i64 (cS l 0), .int .i64 (cS l 1), .int .i64 (cS l 2), .int .i64 (cS l 3)]
def countK (fl : Nat → Option (Pla × List Sea)) (n : Int) : Array Value × Int :=
  if ¬ (1 ≤ n ∧ n ≤ 20) then (zero51, 2)
  else match fl n.toNat with
    | none => (zero51, 2)
    | some x => (totV x.1 x.2, 0)

theorem left_any {w : World} {ow : Nat → Nat} {kb : Nat} {now : Int} {fl : Nat → Option (Pla × List Sea)} (h : KeepH w ow kb now fl) (n c : Int) :
    Calls Try.prog 22 #[.pointer (some ⟨kb, 0, none⟩), .int .i64 n, .int .i64 c] w fun e w' => e = .returned (.tuple #[.int .i64 (leftK fl n c).1, .int .i64 (leftK fl n c).2]) ∧ Mod No w w' := by
  obtain ⟨pt, h⟩ := h
  unfold leftK
  by_cases hn : 1 ≤ n ∧ n ≤ 20
  case neg =>
    rw [if_pos hn]
    exact left_none kb n c w (find_no kb n hn w)
  rw [if_neg (by simpa using hn)]
  have hfn : ((n.toNat : Nat) : Int) = n := by omega
  have hF := find_any h n.toNat (by omega)
  rw [hfn] at hF
  cases hfl : fl n.toNat with
  | none =>
    rw [h.gone _ (by omega) hfl] at hF
    exact left_none kb n c w hF
  | some x =>
    obtain ⟨p, l⟩ := x
    obtain ⟨b, hp, hwf, hfh⟩ := h.here _ p l (by omega) hfl
    rw [hp] at hF
    simp only
    by_cases hc : 0 ≤ c ∧ c < 4
    case neg =>
      rw [if_pos hc]
      exact left_class kb b n c hc w hF
    rw [if_neg (by simpa using hc)]
    obtain ⟨m, es, clock, q1, _⟩ := hfh
    have hcn : ((c.toNat : Nat) : Int) = c := by omega
    have := left_walk kb b n c.toNat (by omega) (cE p l 0) (cE p l 1) (cE p l 2) (cE p l 3) w hF (fleft_walk _ _ _ _ _ _ _ _ _ _ _ _ _ _ _ _ _ _ _ _ _ _ _ _ _ _ _ q1)
    rw [hcn] at this
    refine this.mono ?_
    rintro e w' ⟨rfl, hm⟩
    refine ⟨?_, hm⟩
    have : c.toNat = 0 ∨ c.toNat = 1 ∨ c.toNat = 2 ∨ c.toNat = 3 := by omega
    rcases this with e | e | e | e <;> rw [e] <;> rfl

theorem count_any {w : World} {ow : Nat → Nat} {kb : Nat} {now : Int} {fl : Nat → Option (Pla × List Sea)} (h : KeepH w ow kb now fl) (n : Int) :
    Calls Try.prog 16 #[.pointer (some ⟨kb, 0, none⟩), .int .i64 n] w fun e w' => e = .returned (.tuple #[.agg (countK fl n).1, .int .i64 (countK fl n).2]) ∧ Mod No w w' := by
  obtain ⟨pt, h⟩ := h
  unfold countK
  by_cases hn : 1 ≤ n ∧ n ≤ 20
  case neg =>
    rw [if_pos hn]
    exact count_none kb n w (fun W _ => find_no kb n hn W)
  rw [if_neg (by simpa using hn)]
  have hfn : ((n.toNat : Nat) : Int) = n := by omega
  have hF : ∀ W, Mod No w W → Calls Try.prog 37 #[.pointer (some ⟨kb, 0, none⟩), .int .i64 n] W fun e w' => e = .returned (pv (pt n.toNat)) ∧ w' = W := fun W hW => by
    have := find_any (h.mod hW (fun _ _ x => x)) n.toNat (by omega)
    rw [hfn] at this
    exact this
  cases hfl : fl n.toNat with
  | none =>
    rw [h.gone _ (by omega) hfl] at hF
    exact count_none kb n w hF
  | some x =>
    obtain ⟨p, l⟩ := x
    obtain ⟨b, hp, hwf, hfh⟩ := h.here _ p l (by omega) hfl
    rw [hp] at hF
    simp only
    exact count_walk kb b n _ _ _ _ _ _ _ _ _ _ _ _ w hF (fun W hW => by
      obtain ⟨m, es, clock, q1, _⟩ := hfh.mod0 hW
      exact ftotals_walk _ _ _ _ _ _ _ _ _ _ _ _ _ _ _ _ _ _ _ _ _ _ _ _ _ _ _ q1)
end Go.Proofs.Ytgemhmhlcaojcaa
