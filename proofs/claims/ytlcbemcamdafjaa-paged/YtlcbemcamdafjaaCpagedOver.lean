import Derived.Test.YtlcbemcamdafjaaCpagedSts
/- Rows of seats: none is over its limits, each is behind the other. -/
namespace Go.Proofs.Ytlcbemcamdafjaa
open Go.RowKit
open M
set_option linter.unusedVariables false
set_option linter.unusedSimpArgs false
set_option maxRecDepth 100000
set_option maxHeartbeats 4000000

/-- Taken, in this class or a dearer one. -/
def takenIn (k : Int) (s : Sea) : Bool := (s.st == 1 || s.st == 2) && decide (k ≤ s.cl)

theorem taken_step (k : Int) (l : List Sea) (i : Nat) (hi : i < l.length) : (((l.take (i + 1)).countP (takenIn k) : Nat) : Int) = ((l.take i).countP (takenIn k) : Nat) + (if takenIn k l[i] then 1 else 0) := by
  rw [take_succ l i hi, List.countP_append]
  cases h : takenIn k l[i] <;> simp [h]

theorem over_no (g cap : Nat) (l : List Sea) (L0 L1 L2 L3 : Int) (w : World) (hr : RowS w g cap l) (hl : l.length ≤ 1000)
    (hL : ∀ k : Nat, k < 4 → ((l.countP (takenIn (k : Int)) : Nat) : Int) ≤ (match k with | 0 => L0 | 1 => L1 | 2 => L2 | _ => L3))
    (hS : ∀ i (h : i + 1 < l.length), l[i].row < l[i + 1].row ∨ (l[i].row = l[i + 1].row ∧ l[i].col < l[i + 1].col)) :
    Calls Try.prog 20 #[.slice (some ⟨g, 0, none⟩) l.length cap, .agg #[.int .i64 L0, .int .i64 L1, .int .i64 L2, .int .i64 L3]] w fun e w' => e = .returned (.bool false) ∧ Mod No w w' := by
  have mA : Mod No w (w.alloc (.cells #[.int .i64 L0, .int .i64 L1, .int .i64 L2, .int .i64 L3] 33)) := (Mod.refl _ w).alloc _
  have HR := hide (hr.mod mA (fun x => x))
  have HB := hide (Has.new w #[.int .i64 L0, .int .i64 L1, .int .i64 L2, .int .i64 L3] 33)
  have MA := hide mA
  have HL := hide hL
  have HS := hide hS
  clear hr hL hS mA
  go_enter Try.func20, Try.ntmps20
  go_wp2_with fail
  generalize w.alloc (.cells #[.int .i64 L0, .int .i64 L1, .int .i64 L2, .int .i64 L3] 33) = w1 at *
  generalize hbb : w.heap.size = bb at *
  clear hbb
  go_loopw [5] (fun s5 wx => ∃ k : Nat, s5 = .int .i64 (k : Int) ∧ k ≤ 4 ∧ wx = w1) (fun s5 _ => 4 - (intOf s5).toNat)
  case atStart => exact ⟨0, rfl, by omega, rfl⟩
  case round =>
    obtain ⟨k, rfl, hk, rfl⟩ := hrel
    by_cases hk4 : k < 4
    · have hk1 : (k : Int) < 4 := by omega
      have hw1 : IntKind.i64.wrap ((k : Int) + 1) = ((k + 1 : Nat) : Int) := by rw [wrap_id _ (by omega) (by omega)]; rfl
      go_wp2_with fail
      go_loopw [6, 7] (fun s6 s7 wx => ∃ i : Nat, s7 = .int .i64 (i : Int) ∧ i ≤ l.length ∧ s6 = .int .i64 (((l.take i).countP (takenIn (k : Int)) : Nat) : Int) ∧ wx = wr) (fun _ s7 _ => l.length - (intOf s7).toNat)
      case atStart => exact ⟨0, rfl, by omega, rfl, rfl⟩
      case round =>
        obtain ⟨i, rfl, hi, rfl, rfl⟩ := hrel
        by_cases hil : i < l.length
        · have hi1 : (i : Int) < (l.length : Int) := by omega
          have hi0 : (0 : Int) ≤ (i : Int) := by omega
          have hw2 : IntKind.i64.wrap ((i : Int) + 1) = ((i + 1 : Nat) : Int) := by rw [wrap_id _ (by omega) (by omega)]; rfl
          have hcp : (l.take i).countP (takenIn (k : Int)) ≤ 1000 := Nat.le_trans List.countP_le_length (by rw [List.length_take]; omega)
          have hw3 : IntKind.i64.wrap ((((l.take i).countP (takenIn (k : Int)) : Nat) : Int) + 1) = (((l.take i).countP (takenIn (k : Int)) : Nat) : Int) + 1 := wrap_id _ (by omega) (by omega)
          have hst := (unhide HR).st i hil
          have hcl := (unhide HR).cl i hil
          have hlt := (unhide HR).lt
          have HT := hide (taken_step (k : Int) l i hil)
          have HTK := hide (show takenIn (k : Int) l[i] = ((l[i].st == 1 || l[i].st == 2) && decide ((k : Int) ≤ l[i].cl)) from rfl)
          generalize l[i].st = st at *
          generalize l[i].cl = cl at *
          generalize takenIn (k : Int) l[i] = tk at *
          generalize (l.take i).countP (takenIn (k : Int)) = cnt at *
          have HI := hide hil
          have fin0 : tk = false → (((l.take (i + 1)).countP (takenIn (k : Int)) : Nat) : Int) = (cnt : Int) := fun h => by rw [unhide HT, h]; simp
          have fin1 : tk = true → (((l.take (i + 1)).countP (takenIn (k : Int)) : Nat) : Int) = (cnt : Int) + 1 := fun h => by rw [unhide HT, h]; simp
          have F0 := hide fin0
          have F1 := hide fin1
          clear fin0 fin1
          by_cases h1 : st = 1
          · subst h1
            by_cases h3 : (k : Int) ≤ cl
            · go_wp2
              exact ⟨⟨i + 1, rfl, unhide HI, by rw [(unhide F1) (by rw [unhide HTK]; simp [h3])], by trivial⟩, by simp [intOf]; have := unhide HI; omega⟩
            · go_wp2
              exact ⟨⟨i + 1, rfl, unhide HI, by rw [(unhide F0) (by rw [unhide HTK]; simp [h3])], by trivial⟩, by simp [intOf]; have := unhide HI; omega⟩
          · have b1 : (st == 1) = false := by simpa using h1
            by_cases h2 : st = 2
            · subst h2
              by_cases h3 : (k : Int) ≤ cl
              · go_wp2
                exact ⟨⟨i + 1, rfl, unhide HI, by rw [(unhide F1) (by rw [unhide HTK]; simp [h3])], by trivial⟩, by simp [intOf]; have := unhide HI; omega⟩
              · go_wp2
                exact ⟨⟨i + 1, rfl, unhide HI, by rw [(unhide F0) (by rw [unhide HTK]; simp [h3])], by trivial⟩, by simp [intOf]; have := unhide HI; omega⟩
            · have b2 : (st == 2) = false := by simpa using h2
              go_wp2
              exact ⟨⟨i + 1, rfl, unhide HI, by rw [(unhide F0) (by rw [unhide HTK, b1, b2]; rfl)], by trivial⟩, by simp [intOf]; have := unhide HI; omega⟩
        · have hi1 : ¬ (i : Int) < (l.length : Int) := by omega
          have e : i = l.length := by omega
          subst e
          rw [List.take_length]
          have hlim := (unhide HL) k hk4
          have HK4 := hide hk4
          have HW1 := hide hw1
          have bc := (unhide HB).cell
          have bl := (unhide HB).lt
          have : k = 0 ∨ k = 1 ∨ k = 2 ∨ k = 3 := by omega
          clear hk hw1
          rcases this with rfl | rfl | rfl | rfl <;> simp only at hlim
          · have hno : ¬ ((l.countP (takenIn ((0 : Nat) : Int)) : Nat) : Int) > L0 := by omega
            generalize ((l.countP (takenIn ((0 : Nat) : Int)) : Nat) : Int) = ct at *
            go_wp2
            exact ⟨⟨1, rfl, by omega, by trivial⟩, by simp [intOf]⟩
          · have hno : ¬ ((l.countP (takenIn ((1 : Nat) : Int)) : Nat) : Int) > L1 := by omega
            generalize ((l.countP (takenIn ((1 : Nat) : Int)) : Nat) : Int) = ct at *
            go_wp2
            exact ⟨⟨2, rfl, by omega, by trivial⟩, by simp [intOf]⟩
          · have hno : ¬ ((l.countP (takenIn ((2 : Nat) : Int)) : Nat) : Int) > L2 := by omega
            generalize ((l.countP (takenIn ((2 : Nat) : Int)) : Nat) : Int) = ct at *
            go_wp2
            exact ⟨⟨3, rfl, by omega, by trivial⟩, by simp [intOf]⟩
          · have hno : ¬ ((l.countP (takenIn ((3 : Nat) : Int)) : Nat) : Int) > L3 := by omega
            generalize ((l.countP (takenIn ((3 : Nat) : Int)) : Nat) : Int) = ct at *
            go_wp2
            exact ⟨⟨4, rfl, by omega, by trivial⟩, by simp [intOf]⟩
    · have hk1 : ¬ (k : Int) < 4 := by omega
      clear hk
      go_wp2_with fail
      go_loopw [8] (fun s8 wx => ∃ j : Nat, s8 = .int .i64 ((j : Int) + 1) ∧ j ≤ l.length ∧ Hid (Mod No wr wx)) (fun s8 _ => l.length + 1 - (intOf s8).toNat)
      case atStart => exact ⟨0, rfl, by omega, hide (Mod.refl _ _)⟩
      case round =>
        obtain ⟨j, rfl, hj, M⟩ := hrel
        have HR2 := hide ((unhide HR).mod (unhide M) (fun x => x))
        by_cases hjl : j + 1 < l.length
        · have hj1 : (j : Int) + 1 < (l.length : Int) := by omega
          have hj2 : (j : Int) < (l.length : Int) := by omega
          have t1 : ((j : Int) + 1).toNat = j + 1 := by omega
          have hwa : IntKind.i64.wrap ((j : Int) + 1 - 1) = (j : Int) := wrap_id _ (by omega) (by omega) |>.trans (by omega)
          have hwb : IntKind.i64.wrap (j : Int) = (j : Int) := wrap_id _ (by omega) (by omega)
          have hwc : IntKind.i64.wrap ((j : Int) + 1 + 1) = ((j + 1 : Nat) : Int) + 1 := by rw [wrap_id _ (by omega) (by omega)]; rfl
          have hr0 := (unhide HR2).row j (by omega)
          have hc0 := (unhide HR2).col j (by omega)
          have hr1 := (unhide HR2).row (j + 1) hjl
          have hc1 := (unhide HR2).col (j + 1) hjl
          have hlt := (unhide HR2).lt
          have hso := (unhide HS) j hjl
          generalize l[j].row = r0 at *
          generalize l[j].col = c0 at *
          generalize l[j + 1].row = r1 at *
          generalize l[j + 1].col = c1 at *
          have HJ := hide hjl
          rcases hso with hso | ⟨rfl, hso⟩
          · have g1 : ¬ r0 > r1 := by omega
            have g2 : (r0 == r1) = false := by simp; omega
            go_wp2
            exact ⟨⟨j + 1, rfl, by have := unhide HJ; omega, hide (((unhide M).alloc _).alloc _)⟩, by simp [intOf]; have := unhide HJ; omega⟩
          · have g1 : ¬ r0 > r0 := by omega
            have g2 : ¬ c0 ≥ c1 := by omega
            go_wp2
            exact ⟨⟨j + 1, rfl, by have := unhide HJ; omega, hide (((unhide M).alloc _).alloc _)⟩, by simp [intOf]; have := unhide HJ; omega⟩
        · have hj1 : ¬ (j : Int) + 1 < (l.length : Int) := by omega
          go_wp2
          go_ret
          exact ⟨rfl, (unhide MA).trans (unhide M)⟩
end Go.Proofs.Ytlcbemcamdafjaa
