import Derived.Test.YtlcbemcamdafjaaCbackKeep6
import Derived.Handy
/- A keeper is opened and asked. -/
namespace Go.Proofs.Ytlcbemcamdafjaa
open Go.RowKit
open Go.ChangeMaps (setBlock)
open M
set_option linter.unusedVariables false
set_option linter.unusedSimpArgs false
set_option maxRecDepth 100000
set_option maxHeartbeats 2000000
attribute [local go_sem] idx40_0 idx40_1 idx40_2 idx40_3
attribute [local go_sem ↓] run_min2 run_max2

theorem fleft_walk (b : Nat) (r c f l0 l1 l2 l3 : Int) (m : Value) (a0 a1 a2 a3 b0 b1 b2 b3 s0 s1 s2 s3 e0 e1 e2 e3 ep : Int) (w : World)
    (h : Has w b (fcs r c f l0 l1 l2 l3 m a0 a1 a2 a3 b0 b1 b2 b3 s0 s1 s2 s3 e0 e1 e2 e3 ep) 121) :
    Calls Try.prog 43 #[.pointer (some ⟨b, 0, none⟩)] w fun e w' => e = .returned (.agg #[.int .i64 (min e0 9), .int .i64 (min e1 9), .int .i64 (min e2 9), .int .i64 (min e3 9)]) ∧ Mod No w w' := by
  have hc := h.cell
  have hlt := h.lt
  unfold fcs at hc
  clear h
  go_enter Try.func43, Try.ntmps43
  go_wp2_with fail
  clear hc
  go_loopw [11] (fun i wr => Hid (Mod No w wr) ∧ Hid (Has wr w.heap.size #[.int .i64 0, .int .i64 0, .int .i64 0, .int .i64 0] 33) ∧
      ((i = .int .i64 0 ∧ Hid (Has wr (w.heap.size + 1) #[.int .i64 e0, .int .i64 e1, .int .i64 e2, .int .i64 e3] 33)) ∨
       (i = .int .i64 1 ∧ Hid (Has wr (w.heap.size + 1) #[.int .i64 (min e0 9), .int .i64 e1, .int .i64 e2, .int .i64 e3] 33)) ∨
       (i = .int .i64 2 ∧ Hid (Has wr (w.heap.size + 1) #[.int .i64 (min e0 9), .int .i64 (min e1 9), .int .i64 e2, .int .i64 e3] 33)) ∨
       (i = .int .i64 3 ∧ Hid (Has wr (w.heap.size + 1) #[.int .i64 (min e0 9), .int .i64 (min e1 9), .int .i64 (min e2 9), .int .i64 e3] 33)) ∨
       (i = .int .i64 4 ∧ Hid (Has wr (w.heap.size + 1) #[.int .i64 (min e0 9), .int .i64 (min e1 9), .int .i64 (min e2 9), .int .i64 (min e3 9)] 33)))) (fun i _ => 4 - (intOf i).toNat)
  case atStart =>
    refine ⟨((Mod.refl No w).alloc _).alloc _, (Has.new w _ _).alloc _, .inl ⟨rfl, hide ?_⟩⟩
    have := Has.new (w.alloc (.cells #[.int .i64 0, .int .i64 0, .int .i64 0, .int .i64 0] 33)) #[.int .i64 e0, .int .i64 e1, .int .i64 e2, .int .i64 e3] 33
    simpa using this
  case round =>
    obtain ⟨hm, h0, hr⟩ := hrel
    have hz0 := (unhide h0).frozen
    have hc0 := (unhide h0).cell
    have hl0 := (unhide h0).lt
    rcases hr with ⟨rfl, hr⟩ | ⟨rfl, hr⟩ | ⟨rfl, hr⟩ | ⟨rfl, hr⟩ | ⟨rfl, hr⟩
    case inr.inr.inr.inr =>
      have hc1 := (unhide hr).cell
      have hl1 := (unhide hr).lt
      have d0 : wr.cell? ⟨w.heap.size, 0, none⟩ = some (.int .i64 0) := hc0 0
      have d1 : wr.cell? ⟨w.heap.size, 1, none⟩ = some (.int .i64 0) := hc0 1
      have d2 : wr.cell? ⟨w.heap.size, 2, none⟩ = some (.int .i64 0) := hc0 2
      have d3 : wr.cell? ⟨w.heap.size, 3, none⟩ = some (.int .i64 0) := hc0 3
      go_wp2
      refine bodyPost_ret (by simp [results, Try.results43, go_sem, d0, d1, d2, d3]; try rfl) rfl ?_
      exact ⟨rfl, by repeat' (first | with_reducible exact unhide hm | refine Mod.setCell ?_ (Or.inr (Nat.le_refl _)) _)⟩
    all_goals
      have hc1 := (unhide hr).cell
      have hl1 := (unhide hr).lt
      have hz1 := (unhide hr).frozen
      go_wp2
      go_roundw
      · have s0 := (unhide hr).set 0 (.int .i64 (min e0 9))
        have s1 := (unhide hr).set 1 (.int .i64 (min e1 9))
        have s2 := (unhide hr).set 2 (.int .i64 (min e2 9))
        have s3 := (unhide hr).set 3 (.int .i64 (min e3 9))
        refine ⟨(unhide hm).setCell (.inr (Nat.le_succ _)) _, (unhide h0).set_ne (by simp) _, ?_⟩
        first
          | (refine .inr (.inl ⟨rfl, ?_⟩); exact s0)
          | (refine .inr (.inr (.inl ⟨rfl, ?_⟩)); exact s1)
          | (refine .inr (.inr (.inr (.inl ⟨rfl, ?_⟩))); exact s2)
          | (refine .inr (.inr (.inr (.inr ⟨rfl, ?_⟩))); exact s3)
      · simp [intOf]

theorem ftotals_walk (b : Nat) (r c f l0 l1 l2 l3 : Int) (m : Value) (a0 a1 a2 a3 b0 b1 b2 b3 s0 s1 s2 s3 e0 e1 e2 e3 ep : Int) (w : World)
    (h : Has w b (fcs r c f l0 l1 l2 l3 m a0 a1 a2 a3 b0 b1 b2 b3 s0 s1 s2 s3 e0 e1 e2 e3 ep) 121) :
    Calls Try.prog 41 #[.pointer (some ⟨b, 0, none⟩)] w fun e w' => e = .returned (.agg #[.int .i64 a0, .int .i64 a1, .int .i64 a2, .int .i64 a3, .int .i64 b0, .int .i64 b1, .int .i64 b2, .int .i64 b3, .int .i64 s0, .int .i64 s1, .int .i64 s2, .int .i64 s3]) ∧ Mod No w w' := by
  have hc := h.cell
  have hlt := h.lt
  unfold fcs at hc
  clear h
  go_enter Try.func41, Try.ntmps41
  go_wp2
  go_returns
  exact ⟨rfl, (Mod.refl _ _).alloc _⟩

theorem left_none (kb : Nat) (n c : Int) (w : World) (hF : Calls Try.prog 40 #[.pointer (some ⟨kb, 0, none⟩), .int .i64 n] w fun e w' => e = .returned (.pointer none) ∧ w' = w) :
    Calls Try.prog 23 #[.pointer (some ⟨kb, 0, none⟩), .int .i64 n, .int .i64 c] w fun e w' => e = .returned (.tuple #[.int .i64 0, .int .i64 2]) ∧ Mod No w w' := by
  have HF := hide hF
  clear hF
  go_enter Try.func23, Try.ntmps23
  go_wp2_with fail
  refine (unhide HF).mono ?_
  rintro e w1 ⟨rfl, rfl⟩
  go_wp2
  go_ret2
  exact ⟨rfl, Mod.refl _ _⟩

theorem left_class (kb b : Nat) (n c : Int) (hc : ¬ (0 ≤ c ∧ c < 4)) (w : World) (hF : Calls Try.prog 40 #[.pointer (some ⟨kb, 0, none⟩), .int .i64 n] w fun e w' => e = .returned (.pointer (some ⟨b, 0, none⟩)) ∧ w' = w) :
    Calls Try.prog 23 #[.pointer (some ⟨kb, 0, none⟩), .int .i64 n, .int .i64 c] w fun e w' => e = .returned (.tuple #[.int .i64 0, .int .i64 6]) ∧ Mod No w w' := by
  have HF := hide hF
  clear hF
  rcases Int.lt_or_le c 0 with h1 | h1
  · clear hc
    go_enter Try.func23, Try.ntmps23
    go_wp2_with fail
    refine (unhide HF).mono ?_
    rintro e w1 ⟨rfl, rfl⟩
    go_wp2
    go_ret2
    exact ⟨rfl, Mod.refl _ _⟩
  · have h2 : ¬ c < 0 := by omega
    have h3 : c ≥ 4 := by omega
    clear hc
    go_enter Try.func23, Try.ntmps23
    go_wp2_with fail
    refine (unhide HF).mono ?_
    rintro e w1 ⟨rfl, rfl⟩
    go_wp2
    go_ret2
    exact ⟨rfl, Mod.refl _ _⟩

theorem left_walk (kb b : Nat) (n : Int) (k : Nat) (hk : k < 4) (e0 e1 e2 e3 : Int) (w : World) (hF : Calls Try.prog 40 #[.pointer (some ⟨kb, 0, none⟩), .int .i64 n] w fun e w' => e = .returned (.pointer (some ⟨b, 0, none⟩)) ∧ w' = w)
    (hE : Calls Try.prog 43 #[.pointer (some ⟨b, 0, none⟩)] w fun e w' => e = .returned (.agg #[.int .i64 e0, .int .i64 e1, .int .i64 e2, .int .i64 e3]) ∧ Mod No w w') :
    Calls Try.prog 23 #[.pointer (some ⟨kb, 0, none⟩), .int .i64 n, .int .i64 k] w fun e w' => e = .returned (.tuple #[.int .i64 (if k = 0 then e0 else if k = 1 then e1 else if k = 2 then e2 else e3), .int .i64 0]) ∧ Mod No w w' := by
  have HF := hide hF
  have HE := hide hE
  clear hF hE
  have : k = 0 ∨ k = 1 ∨ k = 2 ∨ k = 3 := by omega
  rcases this with rfl | rfl | rfl | rfl
  all_goals
    go_enter Try.func23, Try.ntmps23
    go_wp2_with fail
    refine (unhide HF).mono ?_
    rintro e w1 ⟨rfl, rfl⟩
    go_wp2_with fail
    refine (unhide HE).mono ?_
    rintro e w2 ⟨rfl, m2⟩
    go_wp2
    go_ret2
    exact ⟨rfl, m2⟩

def zero51 : Array Value := #[.int .i64 0, .int .i64 0, .int .i64 0, .int .i64 0, .int .i64 0, .int .i64 0, .int .i64 0, .int .i64 0, .int .i64 0, .int .i64 0, .int .i64 0, .int .i64 0]

theorem count_none (kb : Nat) (n : Int) (w : World) (hF : ∀ W, Mod No w W → Calls Try.prog 40 #[.pointer (some ⟨kb, 0, none⟩), .int .i64 n] W fun e w' => e = .returned (.pointer none) ∧ w' = W) :
    Calls Try.prog 17 #[.pointer (some ⟨kb, 0, none⟩), .int .i64 n] w fun e w' => e = .returned (.tuple #[.agg zero51, .int .i64 2]) ∧ Mod No w w' := by
  have HF := hide hF
  have M0 := hide ((Mod.refl No w).alloc (.cells zero51 45))
  unfold zero51 at *
  clear hF
  go_enter Try.func17, Try.ntmps17
  go_wp2_with fail
  refine ((unhide HF) _ (unhide M0)).mono ?_
  rintro e w1 ⟨rfl, rfl⟩
  go_wp2
  go_returns
  exact ⟨rfl, unhide M0⟩

end Go.Proofs.Ytlcbemcamdafjaa
