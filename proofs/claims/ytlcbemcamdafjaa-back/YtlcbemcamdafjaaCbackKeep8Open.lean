import Derived.Test.YtlcbemcamdafjaaCbackKeep7
import Derived.Deep.DeepCutAuto
import Derived.Test.YtlcbemcamdafjaaCbackSwap1Tape2
import Derived.Handy
/- A keeper's totals are told. -/
namespace Go.Proofs.Ytlcbemcamdafjaa
open Go.RowKit
open M
set_option linter.unusedVariables false
set_option linter.unusedSimpArgs false
set_option maxRecDepth 100000
set_option maxHeartbeats 2000000

theorem set12 (z a0 a1 a2 a3 b0 b1 b2 b3 s0 s1 s2 s3 : Value) : (((((((((((((#[z, z, z, z, z, z, z, z, z, z, z, z] : Array Value).setIfInBounds 0 a0).setIfInBounds 1 a1).setIfInBounds 2 a2).setIfInBounds 3 a3).setIfInBounds 4 b0).setIfInBounds 5 b1).setIfInBounds 6 b2).setIfInBounds 7 b3).setIfInBounds 8 s0).setIfInBounds 9 s1).setIfInBounds 10 s2).setIfInBounds 11 s3) = #[a0, a1, a2, a3, b0, b1, b2, b3, s0, s1, s2, s3] := by
  simp

/-- The world at the end, forgotten but for what is said of it. -/
theorem post_world {P : Program} {f : Func} {post : Ending → World → Prop} {ex : Exit} {a : Act} {w : World} (R : World → Prop) (h : R w) (k : ∀ w, R w → bodyPost P f post ex a w) : bodyPost P f post ex a w := k w h

theorem count_walk (kb b : Nat) (n : Int) (a0 a1 a2 a3 b0 b1 b2 b3 s0 s1 s2 s3 : Int) (w : World) (hF : ∀ W, Mod No w W → Calls Try.prog 40 #[.pointer (some ⟨kb, 0, none⟩), .int .i64 n] W fun e w' => e = .returned (.pointer (some ⟨b, 0, none⟩)) ∧ w' = W)
    (hT : ∀ W, Mod No w W → Calls Try.prog 41 #[.pointer (some ⟨b, 0, none⟩)] W fun e w' => e = .returned (.agg #[.int .i64 a0, .int .i64 a1, .int .i64 a2, .int .i64 a3, .int .i64 b0, .int .i64 b1, .int .i64 b2, .int .i64 b3, .int .i64 s0, .int .i64 s1, .int .i64 s2, .int .i64 s3]) ∧ Mod No W w') :
    Calls Try.prog 17 #[.pointer (some ⟨kb, 0, none⟩), .int .i64 n] w fun e w' => e = .returned (.tuple #[.agg #[.int .i64 a0, .int .i64 a1, .int .i64 a2, .int .i64 a3, .int .i64 b0, .int .i64 b1, .int .i64 b2, .int .i64 b3, .int .i64 s0, .int .i64 s1, .int .i64 s2, .int .i64 s3], .int .i64 0]) ∧ Mod No w w' := by
  have HF := hide hF
  have HT := hide hT
  have M0 := hide ((Mod.refl No w).alloc (.cells zero51 45))
  have B0 := hide (Has.new w zero51 45)
  unfold zero51 at *
  clear hF hT
  go_enter Try.func17, Try.ntmps17
  go_wp2_with fail
  refine ((unhide HF) _ (unhide M0)).mono ?_
  rintro e w1 ⟨rfl, rfl⟩
  go_wp2_with fail
  refine ((unhide HT) _ (unhide M0)).mono ?_
  rintro e w2 ⟨rfl, m2⟩
  have h2 := m2.has (unhide B0) (fun x => x)
  have c2 := h2.cell
  have f2 := h2.frozen
  have l2 := h2.lt
  have M2 := hide ((unhide M0).trans m2)
  clear m2
  go_wp2
  refine post_world (fun W => Has W w.heap.size #[.int .i64 a0, .int .i64 a1, .int .i64 a2, .int .i64 a3, .int .i64 b0, .int .i64 b1, .int .i64 b2, .int .i64 b3, .int .i64 s0, .int .i64 s1, .int .i64 s2, .int .i64 s3] 45 ∧ Mod No w W) ?_ ?_
  · have q := (((((((((((h2.set 0 (.int .i64 a0)).set 1 (.int .i64 a1)).set 2 (.int .i64 a2)).set 3 (.int .i64 a3)).set 4 (.int .i64 b0)).set 5 (.int .i64 b1)).set 6 (.int .i64 b2)).set 7 (.int .i64 b3)).set 8 (.int .i64 s0)).set 9 (.int .i64 s1)).set 10 (.int .i64 s2)).set 11 (.int .i64 s3)
    rw [set12] at q
    refine ⟨q, ?_⟩
    have hp : ∀ (o : Nat), No (⟨w.heap.size, o, none⟩ : Addr).block ∨ w.heap.size ≤ (⟨w.heap.size, o, none⟩ : Addr).block := fun o => .inr (Nat.le_refl _)
    exact ((((((((((((unhide M2).setCell (hp 0) _).setCell (hp 1) _).setCell (hp 2) _).setCell (hp 3) _).setCell (hp 4) _).setCell (hp 5) _).setCell (hp 6) _).setCell (hp 7) _).setCell (hp 8) _).setCell (hp 9) _).setCell (hp 10) _).setCell (hp 11) _
  · clear h2 c2 f2 l2 M2
    intro w3 ⟨h3, m3⟩
    have d0 : w3.cell? ⟨w.heap.size, 0, none⟩ = some (.int .i64 a0) := h3.cell 0
    have d1 : w3.cell? ⟨w.heap.size, 1, none⟩ = some (.int .i64 a1) := h3.cell 1
    have d2 : w3.cell? ⟨w.heap.size, 2, none⟩ = some (.int .i64 a2) := h3.cell 2
    have d3 : w3.cell? ⟨w.heap.size, 3, none⟩ = some (.int .i64 a3) := h3.cell 3
    have d4 : w3.cell? ⟨w.heap.size, 4, none⟩ = some (.int .i64 b0) := h3.cell 4
    have d5 : w3.cell? ⟨w.heap.size, 5, none⟩ = some (.int .i64 b1) := h3.cell 5
    have d6 : w3.cell? ⟨w.heap.size, 6, none⟩ = some (.int .i64 b2) := h3.cell 6
    have d7 : w3.cell? ⟨w.heap.size, 7, none⟩ = some (.int .i64 b3) := h3.cell 7
    have d8 : w3.cell? ⟨w.heap.size, 8, none⟩ = some (.int .i64 s0) := h3.cell 8
    have d9 : w3.cell? ⟨w.heap.size, 9, none⟩ = some (.int .i64 s1) := h3.cell 9
    have d10 : w3.cell? ⟨w.heap.size, 10, none⟩ = some (.int .i64 s2) := h3.cell 10
    have d11 : w3.cell? ⟨w.heap.size, 11, none⟩ = some (.int .i64 s3) := h3.cell 11
    have l3 := h3.lt
    clear h3
    clear M0 B0 HF HT
    refine bodyPost_ret (by simp [results, Try.results17, go_sem, d0, d1, d2, d3, d4, d5, d6, d7, d8, d9, d10, d11]; try rfl) rfl ?_
    exact ⟨rfl, m3⟩
end Go.Proofs.Ytlcbemcamdafjaa
/- A keeper is opened; it tells what is left, and counts. -/
namespace Go.Proofs.Ytlcbemcamdafjaa
open Go.RowKit
open Go.ChangeMaps (setBlock)
open M
set_option linter.unusedVariables false
set_option linter.unusedSimpArgs false
set_option maxRecDepth 100000
set_option maxHeartbeats 2000000

def noP : Nat → Option Nat := fun _ => none
theorem keep_new : keepCells 0 noP = #[.int .i64 0, .pointer none, .pointer none, .pointer none, .pointer none, .pointer none, .pointer none, .pointer none, .pointer none, .pointer none, .pointer none, .pointer none, .pointer none, .pointer none, .pointer none, .pointer none, .pointer none, .pointer none, .pointer none, .pointer none, .pointer none, .pointer none, .map none, .map none, .map none, .map none, .map none, .map none, .map none, .map none] := rfl

theorem open_low (tb : Nat) (n : Int) (cs : Array Value) (w : World) (h : Has w tb cs 96) (h8 : cs[8]? = some (.int .i64 n)) (hn : n < 200) :
    Calls Try.prog 39 #[.pointer (some ⟨tb, 0, none⟩)] w fun e w' => e = .returned (.tuple #[.pointer none, .int .i64 15]) ∧ w' = w := by
  have HR := hide (room_any tb n w cs h h8)
  clear h h8
  go_enter Try.func39, Try.ntmps39
  go_wp2_with fail
  refine (unhide HR).mono ?_
  rintro e w1 ⟨rfl, rfl⟩
  go_wp2
  go_ret2
  exact ⟨rfl, rfl⟩

theorem open_walk (tb : Nat) (n : Int) (cs : Array Value) (w : World) (h : Has w tb cs 96) (h8 : cs[8]? = some (.int .i64 n)) (hn : ¬ n < 200) :
    Calls Try.prog 39 #[.pointer (some ⟨tb, 0, none⟩)] w fun e w' => e = .returned (.tuple #[.pointer (some ⟨w.heap.size, 0, none⟩), .int .i64 0]) ∧ w' = w.alloc (.cells (keepCells 0 noP) 108) := by
  have HR := hide (room_any tb n w cs h h8)
  rw [keep_new]
  clear h h8
  go_enter Try.func39, Try.ntmps39
  go_wp2_with fail
  refine (unhide HR).mono ?_
  rintro e w1 ⟨rfl, rfl⟩
  go_wp2
  go_ret2
  exact ⟨rfl, rfl⟩

def noFl : Nat → Option (Pla × List Sea) := fun _ => none
theorem keep_start (w : World) : KeepH (w.alloc (.cells (keepCells 0 noP) 108)) (fun k => if k = w.heap.size then 1 else 0) w.heap.size 0 noFl :=
  ⟨noP, ⟨Has.new w _ _, if_pos rfl, fun k hk => by
    by_cases e : k = w.heap.size
    · subst e; simp
    · exact absurd (if_neg e) hk, fun _ _ _ => rfl, fun n p l _ h => by cases h⟩⟩

theorem KeepH.mod {w w' : World} {ow : Nat → Nat} {kb : Nat} {now : Int} {fl : Nat → Option (Pla × List Sea)} {S : Nat → Prop} (h : KeepH w ow kb now fl) (hm : Mod S w w') (hs : ∀ k, ow k ≠ 0 → ¬ S k) : KeepH w' ow kb now fl := by
  obtain ⟨pt, h⟩ := h
  exact ⟨pt, h.mod hm hs⟩

theorem KeepH.wf {w : World} {ow : Nat → Nat} {kb : Nat} {now : Int} {fl : Nat → Option (Pla × List Sea)} (h : KeepH w ow kb now fl) {n : Nat} (hn : n < 21) {p : Pla} {l : List Sea} (hf : fl n = some (p, l)) : Wf p l := by
  obtain ⟨pt, h⟩ := h
  obtain ⟨b, _, hw, _⟩ := h.here n p l hn hf
  exact hw

/-- What is told of what is left. -/
def leftK (fl : Nat → Option (Pla × List Sea)) (n c : Int) : Int × Int :=
  if ¬ (1 ≤ n ∧ n ≤ 20) then (0, 2)
  else match fl n.toNat with
    | none => (0, 2)
    | some x => if ¬ (0 ≤ c ∧ c < 4) then (0, 6) else (min (M.leftOf x.1 x.2 c.toNat) 9, 0)

/-- Counts, as they are told. -/
def totV (p : Pla) (l : List Sea) : Array Value :=
  #[.int .i64 (cA p l 0), .int .i64 (cA p l 1), .int .i64 (cA p l 2), .int .i64 (cA p l 3), .int .i64 (cB p l 0), .int .i64 (cB p l 1), .int .i64 (cB p l 2), .int .i64 (cB p l 3), .int .i64 (cS l 0), .int .i64 (cS l 1), .int .i64 (cS l 2), .int .i64 (cS l 3)]
def countK (fl : Nat → Option (Pla × List Sea)) (n : Int) : Array Value × Int :=
  if ¬ (1 ≤ n ∧ n ≤ 20) then (zero51, 2)
  else match fl n.toNat with
    | none => (zero51, 2)
    | some x => (totV x.1 x.2, 0)

theorem left_any {w : World} {ow : Nat → Nat} {kb : Nat} {now : Int} {fl : Nat → Option (Pla × List Sea)} (h : KeepH w ow kb now fl) (n c : Int) :
    Calls Try.prog 23 #[.pointer (some ⟨kb, 0, none⟩), .int .i64 n, .int .i64 c] w fun e w' => e = .returned (.tuple #[.int .i64 (leftK fl n c).1, .int .i64 (leftK fl n c).2]) ∧ Mod No w w' := by
  obtain ⟨pt, h⟩ := h
  unfold leftK
  by_cases hn : 1 ≤ n ∧ n ≤ 20
  case neg =>
    rw [if_pos hn]
    exact left_none kb n c w (find_no kb n hn w)
  rw [if_neg (by simpa using hn)]
  have hfn : ((n.toNat : Nat) : Int) = n := by omega
  have hF := find_any h n.toNat (by omega)
  rw [hfn] at hF
  cases hfl : fl n.toNat with
  | none =>
    rw [h.gone _ (by omega) hfl] at hF
    exact left_none kb n c w hF
  | some x =>
    obtain ⟨p, l⟩ := x
    obtain ⟨b, hp, hwf, hfh⟩ := h.here _ p l (by omega) hfl
    rw [hp] at hF
    simp only
    by_cases hc : 0 ≤ c ∧ c < 4
    case neg =>
      rw [if_pos hc]
      exact left_class kb b n c hc w hF
    rw [if_neg (by simpa using hc)]
    obtain ⟨m, es, clock, q1, _⟩ := hfh
    have hcn : ((c.toNat : Nat) : Int) = c := by omega
    have := left_walk kb b n c.toNat (by omega) (min (cE p l 0) 9) (min (cE p l 1) 9) (min (cE p l 2) 9) (min (cE p l 3) 9) w hF (fleft_walk _ _ _ _ _ _ _ _ _ _ _ _ _ _ _ _ _ _ _ _ _ _ _ _ _ _ _ q1)
    rw [hcn] at this
    refine this.mono ?_
    rintro e w' ⟨rfl, hm⟩
    refine ⟨?_, hm⟩
    have : c.toNat = 0 ∨ c.toNat = 1 ∨ c.toNat = 2 ∨ c.toNat = 3 := by omega
    rcases this with e | e | e | e <;> rw [e] <;> rfl

theorem count_any {w : World} {ow : Nat → Nat} {kb : Nat} {now : Int} {fl : Nat → Option (Pla × List Sea)} (h : KeepH w ow kb now fl) (n : Int) :
    Calls Try.prog 17 #[.pointer (some ⟨kb, 0, none⟩), .int .i64 n] w fun e w' => e = .returned (.tuple #[.agg (countK fl n).1, .int .i64 (countK fl n).2]) ∧ Mod No w w' := by
  obtain ⟨pt, h⟩ := h
  unfold countK
  by_cases hn : 1 ≤ n ∧ n ≤ 20
  case neg =>
    rw [if_pos hn]
    exact count_none kb n w (fun W _ => find_no kb n hn W)
  rw [if_neg (by simpa using hn)]
  have hfn : ((n.toNat : Nat) : Int) = n := by omega
  have hF : ∀ W, Mod No w W → Calls Try.prog 40 #[.pointer (some ⟨kb, 0, none⟩), .int .i64 n] W fun e w' => e = .returned (pv (pt n.toNat)) ∧ w' = W := fun W hW => by
    have := find_any (h.mod hW (fun _ _ x => x)) n.toNat (by omega)
    rw [hfn] at this
    exact this
  cases hfl : fl n.toNat with
  | none =>
    rw [h.gone _ (by omega) hfl] at hF
    exact count_none kb n w hF
  | some x =>
    obtain ⟨p, l⟩ := x
    obtain ⟨b, hp, hwf, hfh⟩ := h.here _ p l (by omega) hfl
    rw [hp] at hF
    simp only
    exact count_walk kb b n _ _ _ _ _ _ _ _ _ _ _ _ w hF (fun W hW => by
      obtain ⟨m, es, clock, q1, _⟩ := hfh.mod0 hW
      exact ftotals_walk _ _ _ _ _ _ _ _ _ _ _ _ _ _ _ _ _ _ _ _ _ _ _ _ _ _ _ q1)
end Go.Proofs.Ytlcbemcamdafjaa
