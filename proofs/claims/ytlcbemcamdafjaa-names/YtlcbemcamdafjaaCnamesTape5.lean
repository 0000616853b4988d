import Derived.Test.YtlcbemcamdafjaaCnamesTape4
/- Two rows of bytes compared; the fall. -/
namespace Go.Proofs.Ytlcbemcamdafjaa
open Go.RowKit
set_option linter.unusedVariables false
set_option linter.unusedSimpArgs false
set_option maxRecDepth 100000

theorem is_len (w : World) (a b : Option Addr) (n m c d : Nat) (hn : n ≤ 17592186044416) (hm : m ≤ 17592186044416) (h : n ≠ m) :
    Calls Try.prog 31 #[.slice a n c, .slice b m d] w fun e w' => e = .returned (.bool false) ∧ w' = w := by
  have h' : ((n : Int) != (m : Int)) = true := by simp; omega
  go_enter Try.func31, Try.ntmps31
  go_wp2
  go_ret
  exact ⟨rfl, rfl⟩

/-- The bytes at an address. -/
def At (w : World) (a : Option Addr) (n : Nat) (zs : Nat → Int) : Prop := ∀ j, j < n → ∃ p, a = some p ∧ w.cell? (p.add j) = some (.int .u8 (zs j))

theorem is_core (w : World) (b1 b2 o1 o2 n c d : Nat) (zs ys : Nat → Int) (hn : n ≤ 17592186044416)
    (hz : ∀ j, j < n → w.cell? ⟨b1, o1 + j, none⟩ = some (.int .u8 (zs j))) (hy : ∀ j, j < n → w.cell? ⟨b2, o2 + j, none⟩ = some (.int .u8 (ys j))) :
    Calls Try.prog 31 #[.slice (some ⟨b1, o1, none⟩) n c, .slice (some ⟨b2, o2, none⟩) n d] w fun e w' => e = .returned (.bool (decide (∀ j, j < n → zs j = ys j))) ∧ Mod No w w' := by
  have HZ := hide hz
  have HY := hide hy
  clear hz hy
  have h' : ((n : Int) != (n : Int)) = false := by simp
  go_enter Try.func31, Try.ntmps31
  go_wp2
  go_loopw [5] (fun i wr => ∃ k : Nat, k ≤ n ∧ i = .int .i64 k ∧ (∀ j, j < k → zs j = ys j) ∧ Mod No w wr) (fun i _ => n - (intOf i).toNat)
  case atStart => exact ⟨0, Nat.zero_le _, rfl, fun j hj => by omega, Mod.refl _ _⟩
  case round =>
    obtain ⟨k, hk, rfl, hA, hm⟩ := hrel
    have HA := hide hA
    have HM := hide hm
    clear hA hm
    by_cases hlt : k < n
    · have hlt' : (k : Int) < n := by omega
      have c1 := (unhide HZ) k hlt
      have c2 := (unhide HY) k hlt
      have c1' : wr.cell? ⟨b1, o1 + k, none⟩ = some (.int .u8 (zs k)) := by
        rw [World.cell?_of_block (w := w) ((unhide HM).block _ (World.block_lt_of_cell? w _ c1) (fun x => x))]; exact c1
      have c2' : wr.cell? ⟨b2, o2 + k, none⟩ = some (.int .u8 (ys k)) := by
        rw [World.cell?_of_block (w := w) ((unhide HM).block _ (World.block_lt_of_cell? w _ c2) (fun x => x))]; exact c2
      clear c1 c2
      by_cases he : zs k = ys k
      · have HE := hide he
        have he' : (zs k != ys k) = false := by simp [he]
        clear he
        go_wp2
        go_quiet (fail)
        go_wp2
        refine ⟨⟨k + 1, by omega, by go_num, fun j hj => ?_, (unhide HM).drewN _⟩, by simp [intOf]; omega⟩
        rcases Nat.lt_or_ge j k with h | h
        · exact (unhide HA) j h
        · obtain rfl : j = k := by omega
          exact unhide HE
      · have he' : (zs k != ys k) = true := by simp [he]
        have HE := hide he
        clear he
        go_wp2
        go_quiet (fail)
        go_wp2
        go_ret
        refine ⟨?_, (unhide HM).drewN _⟩
        have hd : decide (∀ j, j < n → zs j = ys j) = false := decide_eq_false (fun h => (unhide HE) (h k hlt))
        rw [hd]
        rfl
    · obtain rfl : k = n := by omega
      go_wp2
      go_ret
      refine ⟨?_, unhide HM⟩
      have hd : decide (∀ j, j < k → zs j = ys j) = true := decide_eq_true (unhide HA)
      rw [hd]
      rfl

theorem is_zero (w : World) (a b : Option Addr) (c d : Nat) :
    Calls Try.prog 31 #[.slice a 0 c, .slice b 0 d] w fun e w' => e = .returned (.bool true) ∧ w' = w := by
  go_enter Try.func31, Try.ntmps31
  go_wp2
  go_loop [5] (fun i => i = .int .i64 0) (fun _ => 0)
  case atStart => rfl
  case round =>
    subst hrel
    go_wp2
    go_ret
    exact ⟨rfl, rfl⟩

def bytesOf (l : List Int) : List Value := l.map (Value.int .u8)

theorem is_any (w : World) (v1 v2 : Value) (l1 l2 : List Int) (h1 : w.ownsRow 0 5 1 v1 l1.length (bytesOf l1)) (h2 : w.ownsRow 0 5 1 v2 l2.length (bytesOf l2))
    (b1 : l1.length ≤ 17592186044416) (b2 : l2.length ≤ 17592186044416) :
    Calls Try.prog 31 #[v1, v2] w fun e w' => e = .returned (.bool (decide (l1 = l2))) ∧ Mod No w w' := by
  obtain ⟨a1, c1, e1⟩ := slice_of_owns h1
  obtain ⟨a2, c2, e2⟩ := slice_of_owns h2
  by_cases hlen : l1.length = l2.length
  · by_cases hz : l1.length = 0
    · have hz2 : l2.length = 0 := by omega
      have e : l1 = l2 := by rw [List.eq_nil_of_length_eq_zero hz, List.eq_nil_of_length_eq_zero hz2]
      rw [e1, e2, hz, hz2]
      refine (is_zero w a1 a2 c1 c2).mono ?_
      rintro e' w' ⟨rfl, rfl⟩
      exact ⟨by rw [decide_eq_true e], Mod.refl _ _⟩
    · rcases h1.2 with ⟨_, h0⟩ | ⟨g1, cap1, cur1, hv1, _⟩
      · exact absurd h0 hz
      rcases h2.2 with ⟨_, h0⟩ | ⟨g2, cap2, cur2, hv2, _⟩
      · omega
      rw [hv1, hv2, ← hlen]
      have k1 : ∀ j, j < l1.length → w.cell? ⟨g1, 0 + j, none⟩ = some (.int .u8 (l1.getD j 0)) := fun j hj => by
        have := h1.cells (g := g1) (by rw [hv1]; rfl) j (.int .u8 (l1.getD j 0)) (by simp [bytesOf, hj])
        rw [show (⟨g1, 0 + j, none⟩ : Addr) = (⟨g1, 0, none⟩ : Addr).add j from by unfold Addr.add; split <;> simp_all]
        exact this
      have k2 : ∀ j, j < l1.length → w.cell? ⟨g2, 0 + j, none⟩ = some (.int .u8 (l2.getD j 0)) := fun j hj => by
        have := h2.cells (g := g2) (by rw [hv2]; rfl) j (.int .u8 (l2.getD j 0)) (by simp [bytesOf, show j < l2.length by omega])
        rw [show (⟨g2, 0 + j, none⟩ : Addr) = (⟨g2, 0, none⟩ : Addr).add j from by unfold Addr.add; split <;> simp_all]
        exact this
      refine (is_core w g1 g2 0 0 l1.length cap1 cap2 (fun j => l1.getD j 0) (fun j => l2.getD j 0) b1 k1 k2).mono ?_
      rintro e' w' ⟨rfl, hm⟩
      refine ⟨?_, hm⟩
      congr 2
      apply decide_eq_decide.2
      constructor
      · intro h
        apply List.ext_getElem hlen
        intro j hj hj2
        have := h j hj
        simpa [hj, hj2] using this
      · rintro rfl
        intro j _
        rfl
  · rw [e1, e2]
    refine (is_len w a1 a2 l1.length l2.length c1 c2 b1 b2 hlen).mono ?_
    rintro e' w' ⟨rfl, rfl⟩
    exact ⟨by rw [decide_eq_false (fun e => hlen (by rw [e]))], Mod.refl _ _⟩
end Go.Proofs.Ytlcbemcamdafjaa
