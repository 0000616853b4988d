import Derived.Test.YtlcbemcamdafjaaCrecountedOver
import Derived.Test.YtlcbemcamdafjaaCrecountedSeatReckon
/- What is left of a class, counted anew. -/
namespace Go.Proofs.Ytlcbemcamdafjaa
open Go.RowKit
open M
set_option linter.unusedVariables false
set_option linter.unusedSimpArgs false
set_option maxRecDepth 100000
set_option maxHeartbeats 4000000
attribute [local go_sem ↓] run_min2 run_max2

def soldV (f : Nat → Int) : Array Value := #[.int .i64 (f 0), .int .i64 (f 1), .int .i64 (f 2), .int .i64 (f 3)]

theorem soldV_at (f : Nat → Int) (j : Nat) (h : j < 4) : (soldV f)[j]? = some (.int .i64 (f j)) := by
  have : j = 0 ∨ j = 1 ∨ j = 2 ∨ j = 3 := by omega
  rcases this with rfl | rfl | rfl | rfl <;> rfl

theorem soldV_set (f : Nat → Int) (j : Nat) (h : j < 4) (x : Int) : (soldV f).setIfInBounds j (.int .i64 x) = soldV (fun q => if q = j then x else f q) := by
  have : j = 0 ∨ j = 1 ∨ j = 2 ∨ j = 3 := by omega
  rcases this with rfl | rfl | rfl | rfl <;> rfl

theorem soldV_congr {f g : Nat → Int} (h : ∀ q, q < 4 → f q = g q) : soldV f = soldV g := by
  unfold soldV
  rw [h 0 (by omega), h 1 (by omega), h 2 (by omega), h 3 (by omega)]

/-- Taken in this class or a dearer one, among the first. -/
def takenN (l : List Sea) (i q : Nat) : Int := ((l.take i).countP (takenIn (q : Int)) : Nat)
def freeN (l : List Sea) (i : Nat) : Int := ((l.take i).countP (fun s => s.st == 0) : Nat)

theorem takenN_succ (l : List Sea) (i q : Nat) (h : i < l.length) : takenN l (i + 1) q = takenN l i q + (if takenIn (q : Int) l[i] then 1 else 0) := taken_step (q : Int) l i h
theorem freeN_succ (l : List Sea) (i : Nat) (h : i < l.length) : freeN l (i + 1) = freeN l i + (if l[i].st = 0 then 1 else 0) := by
  unfold freeN
  rw [take_succ l i h, List.countP_append]
  by_cases h0 : l[i].st = 0 <;> simp [h0]

theorem takenN_small (l : List Sea) (i q : Nat) (h : l.length ≤ 1000) : 0 ≤ takenN l i q ∧ takenN l i q ≤ 1000 := by
  unfold takenN
  have : (l.take i).countP (takenIn (q : Int)) ≤ (l.take i).length := List.countP_le_length
  rw [List.length_take] at this
  omega
theorem freeN_small (l : List Sea) (i : Nat) (h : l.length ≤ 1000) : 0 ≤ freeN l i ∧ freeN l i ≤ 1000 := by
  unfold freeN
  have : (l.take i).countP (fun s => s.st == 0) ≤ (l.take i).length := List.countP_le_length
  rw [List.length_take] at this
  omega

/-- The least so far. -/
def leastN (p : Pla) (l : List Sea) : Nat → Int
  | 0 => freeN l l.length
  | j + 1 => min (leastN p l j) (p.lim j - takenN l l.length j)

theorem leastN_eq (p : Pla) (l : List Sea) : ∀ c, leastN p l (c + 1) = leastTo p l c
  | 0 => by
    show min (freeN l l.length) (p.lim 0 - takenN l l.length 0) = min (nFree l : Int) (p.lim 0 - nFrom 0 l)
    unfold freeN takenN
    rw [List.take_length]
    rfl
  | c + 1 => by
    show min (leastN p l (c + 1)) (p.lim (c + 1) - takenN l l.length (c + 1)) = min (leastTo p l c) (p.lim (c + 1) - nFrom ((c : Int) + 1) l)
    rw [leastN_eq p l c]
    unfold takenN
    rw [List.take_length]
    rfl

theorem least_walk (g cap : Nat) (p : Pla) (l : List Sea) (k : Nat) (hk : k < 4) (w : World) (hr : RowS w g cap l) (hl : l.length ≤ 1000) (hlim : ∀ j, 0 ≤ p.lim j ∧ p.lim j ≤ 200)
    (hcl : ∀ i (h : i < l.length), 0 ≤ l[i].cl ∧ l[i].cl ≤ 3) :
    Calls Try.prog 42 #[.slice (some ⟨g, 0, none⟩) l.length cap, .agg #[.int .i64 (p.lim 0), .int .i64 (p.lim 1), .int .i64 (p.lim 2), .int .i64 (p.lim 3)], .int .i64 (k : Int)] w fun e w' => e = .returned (.int .i64 (min (max (leastTo p l k) 0) 9)) ∧ Mod No w w' := by
  have mA : Mod No w ((w.alloc (.cells #[.int .i64 (p.lim 0), .int .i64 (p.lim 1), .int .i64 (p.lim 2), .int .i64 (p.lim 3)] 33)).alloc (.cells #[.int .i64 0, .int .i64 0, .int .i64 0, .int .i64 0] 33)) := ((Mod.refl _ w).alloc _).alloc _
  have HR := hide (hr.mod mA (fun x => x))
  have HB := hide ((Has.new w #[.int .i64 (p.lim 0), .int .i64 (p.lim 1), .int .i64 (p.lim 2), .int .i64 (p.lim 3)] 33).alloc (.cells #[.int .i64 0, .int .i64 0, .int .i64 0, .int .i64 0] 33))
  have nS := Has.new (w.alloc (.cells #[.int .i64 (p.lim 0), .int .i64 (p.lim 1), .int .i64 (p.lim 2), .int .i64 (p.lim 3)] 33)) #[.int .i64 0, .int .i64 0, .int .i64 0, .int .i64 0] 33
  rw [World.size_alloc] at nS
  have HSB := hide nS
  have MA := hide mA
  have HCL := hide hcl
  have HLIM := hide hlim
  have hsm := fun i q => takenN_small l i q hl
  have HSM := hide hsm
  have HFS := hide fun i => freeN_small l i hl
  have HGB := hide (show g < w.heap.size from hr.lt)
  clear hr hcl hlim mA nS hsm
  go_enter Try.func42, Try.ntmps42
  go_upto_region 3 with fail
  have NG := hide (show ¬ g = w.heap.size + 1 from by have := unhide HGB; omega)
  have NL := hide (show ¬ w.heap.size = w.heap.size + 1 from by omega)
  have S0 := hide (show Has ((w.alloc (.cells #[.int .i64 (p.lim 0), .int .i64 (p.lim 1), .int .i64 (p.lim 2), .int .i64 (p.lim 3)] 33)).alloc (.cells #[.int .i64 0, .int .i64 0, .int .i64 0, .int .i64 0] 33)) (w.heap.size + 1) (soldV fun q => takenN l 0 q) 33 from unhide HSB)
  generalize (w.alloc (.cells #[.int .i64 (p.lim 0), .int .i64 (p.lim 1), .int .i64 (p.lim 2), .int .i64 (p.lim 3)] 33)).alloc (.cells #[.int .i64 0, .int .i64 0, .int .i64 0, .int .i64 0] 33) = W1 at *
  have NW := hide (show w.heap.size ≤ w.heap.size + 1 from by omega)
  generalize w.heap.size + 1 = sb at *
  generalize hlb : w.heap.size = lb at *
  clear HSB HGB
  go_wp2_with fail
  go_loopw [7, 9] (fun s7 s9 wr => ∃ i : Nat, s9 = .int .i64 (i : Int) ∧ i ≤ l.length ∧ s7 = .int .i64 (freeN l i) ∧ Hid (Has wr sb (soldV fun q => takenN l i q) 33) ∧ Hid (Mod (fun k => k = sb) W1 wr)) (fun _ s9 _ => l.length - (intOf s9).toNat)
  case atStart => exact ⟨0, rfl, by omega, rfl, S0, hide (Mod.refl _ _)⟩
  case round =>
    obtain ⟨i, rfl, hi, rfl, S1, M1⟩ := hrel
    by_cases hil : i < l.length
    · have hi1 : (i : Int) < (l.length : Int) := by omega
      have hi0 : (0 : Int) ≤ (i : Int) := by omega
      have hwi : IntKind.i64.wrap ((i : Int) + 1) = ((i + 1 : Nat) : Int) := by rw [wrap_id _ (by omega) (by omega)]; rfl
      have hwf : IntKind.i64.wrap (freeN l i + 1) = freeN l i + 1 := by have := (unhide HFS) i; exact wrap_id _ (by omega) (by omega)
      have R1 := hide ((unhide HR).mod (unhide M1) (unhide NG))
      have hst := (unhide R1).st i hil
      have hcl1 := (unhide R1).cl i hil
      have glt := (unhide R1).lt
      have HC0 := (unhide HCL) i hil
      have TS := hide fun q => takenN_succ l i q hil
      have EF0 := freeN_succ l i hil
      have CLF := hide fun (W' : World) (h : RowS W' g cap l) => h.cl i hil
      generalize l[i] = sx at *
      obtain ⟨sr, sc, st, sp, cl, su⟩ := sx
      simp only at hst hcl1 HC0 EF0
      have ETK0 : ∀ q : Int, takenIn q ⟨sr, sc, st, sp, cl, su⟩ = ((st == 1 || st == 2) && decide (q ≤ cl)) := fun q => rfl
      have HC := hide HC0
      have HI := hide hil
      clear HC0
      by_cases h0 : st = 0
      · subst h0
        have EF := hide (show freeN l (i + 1) = freeN l i + 1 from by rw [EF0]; simp)
        have S2 := hide (show Has wr sb (soldV fun q => takenN l (i + 1) q) 33 from by
          rw [soldV_congr (g := fun q => takenN l i q) (fun q hq => by rw [(unhide TS) q, ETK0]; simp)]
          exact unhide S1)
        clear EF0 ETK0 S1
        go_wp2
        exact ⟨⟨i + 1, rfl, unhide HI, by rw [unhide EF], S2, M1⟩, by simp [intOf]; have := unhide HI; omega⟩
      · have b0 : (st == 0) = false := by simpa using h0
        have EF := hide (show freeN l (i + 1) = freeN l i from by rw [EF0, if_neg h0]; simp)
        by_cases h12 : st = 1 ∨ st = 2
        · rcases h12 with rfl | rfl
          · have ETK := hide (show ∀ q : Int, takenIn q ⟨sr, sc, _, sp, cl, su⟩ = decide (q ≤ cl) from fun q => by rw [ETK0]; simp)
            clear EF0 ETK0
            go_wp2_with fail
            go_loopw [10] (fun s10 wx => ∃ j : Nat, s10 = .int .i64 (j : Int) ∧ (j : Int) ≤ cl + 1 ∧ Hid (Has wx sb (soldV fun q => takenN l i q + (if q < j then 1 else 0)) 33) ∧ Hid (Mod (fun k => k = sb) W1 wx)) (fun s10 _ => 5 - (intOf s10).toNat)
            case atStart => exact ⟨0, rfl, by have := unhide HC; omega, by simpa using S1, M1⟩
            case round =>
              obtain ⟨j, rfl, hj, S2, M2⟩ := hrel
              have R2 := hide ((unhide HR).mod (unhide M2) (unhide NG))
              have hcl2 := (unhide CLF) _ (unhide R2)
              have glt2 := (unhide R2).lt
              by_cases hjc : (j : Int) ≤ cl
              · have hj4 : (j : Int) < 4 := by have := unhide HC; omega
                have hj0 : (0 : Int) ≤ (j : Int) := by omega
                have hjn : j < 4 := by omega
                have bj : wr.cell? ⟨sb, j, none⟩ = some (.int .i64 (takenN l i j)) := by
                  rw [(unhide S2).cell, soldV_at _ j hjn]
                  simp
                have bz := (unhide S2).frozen
                have bl := (unhide S2).lt
                have hwj : IntKind.i64.wrap ((j : Int) + 1) = ((j + 1 : Nat) : Int) := by rw [wrap_id _ (by omega) (by omega)]; rfl
                have hwt : IntKind.i64.wrap (takenN l i j + 1) = takenN l i j + 1 := by have := (unhide HSM) i j; exact wrap_id _ (by omega) (by omega)
                have NS := hide (show Has (wr.setCell ⟨sb, j, none⟩ (.int .i64 (takenN l i j + 1))) sb (soldV fun q => takenN l i q + (if q < j + 1 then 1 else 0)) 33 from by
                  have := (unhide S2).set j (.int .i64 (takenN l i j + 1))
                  rw [soldV_set _ j hjn] at this
                  rw [soldV_congr (g := fun q => if q = j then takenN l i j + 1 else takenN l i q + (if q < j then 1 else 0)) (fun q hq => by
                    by_cases e : q = j
                    · subst e; simp
                    · by_cases e2 : q < j
                      · simp [e, e2]; omega
                      · simp [e, e2]; omega)]
                  exact this)
                have NM := hide ((unhide M2).at j (.int .i64 (takenN l i j + 1)))
                clear S2 M2
                go_wp2
                exact ⟨⟨j + 1, rfl, by omega, NS, NM⟩, by simp [intOf]; omega⟩
              · have hend : Hid (Has wr sb (soldV fun q => takenN l (i + 1) q) 33) := hide (by
                  rw [soldV_congr (g := fun q => takenN l i q + (if q < j then 1 else 0)) (fun q hq => by
                    rw [(unhide TS) q, (unhide ETK) q]
                    have e : (j : Int) = cl + 1 := by omega
                    by_cases e2 : q < j
                    · rw [if_pos e2, if_pos (by simp; omega)]
                    · rw [if_neg e2, if_neg (by simp; omega)])]
                  exact unhide S2)
                clear S2
                go_wp2
                exact ⟨⟨i + 1, rfl, unhide HI, by rw [unhide EF], hend, M2⟩, by simp [intOf]; have := unhide HI; omega⟩
          · have ETK := hide (show ∀ q : Int, takenIn q ⟨sr, sc, _, sp, cl, su⟩ = decide (q ≤ cl) from fun q => by rw [ETK0]; simp)
            clear EF0 ETK0
            go_wp2_with fail
            go_loopw [10] (fun s10 wx => ∃ j : Nat, s10 = .int .i64 (j : Int) ∧ (j : Int) ≤ cl + 1 ∧ Hid (Has wx sb (soldV fun q => takenN l i q + (if q < j then 1 else 0)) 33) ∧ Hid (Mod (fun k => k = sb) W1 wx)) (fun s10 _ => 5 - (intOf s10).toNat)
            case atStart => exact ⟨0, rfl, by have := unhide HC; omega, by simpa using S1, M1⟩
            case round =>
              obtain ⟨j, rfl, hj, S2, M2⟩ := hrel
              have R2 := hide ((unhide HR).mod (unhide M2) (unhide NG))
              have hcl2 := (unhide CLF) _ (unhide R2)
              have glt2 := (unhide R2).lt
              by_cases hjc : (j : Int) ≤ cl
              · have hj4 : (j : Int) < 4 := by have := unhide HC; omega
                have hj0 : (0 : Int) ≤ (j : Int) := by omega
                have hjn : j < 4 := by omega
                have bj : wr.cell? ⟨sb, j, none⟩ = some (.int .i64 (takenN l i j)) := by
                  rw [(unhide S2).cell, soldV_at _ j hjn]
                  simp
                have bz := (unhide S2).frozen
                have bl := (unhide S2).lt
                have hwj : IntKind.i64.wrap ((j : Int) + 1) = ((j + 1 : Nat) : Int) := by rw [wrap_id _ (by omega) (by omega)]; rfl
                have hwt : IntKind.i64.wrap (takenN l i j + 1) = takenN l i j + 1 := by have := (unhide HSM) i j; exact wrap_id _ (by omega) (by omega)
                have NS := hide (show Has (wr.setCell ⟨sb, j, none⟩ (.int .i64 (takenN l i j + 1))) sb (soldV fun q => takenN l i q + (if q < j + 1 then 1 else 0)) 33 from by
                  have := (unhide S2).set j (.int .i64 (takenN l i j + 1))
                  rw [soldV_set _ j hjn] at this
                  rw [soldV_congr (g := fun q => if q = j then takenN l i j + 1 else takenN l i q + (if q < j then 1 else 0)) (fun q hq => by
                    by_cases e : q = j
                    · subst e; simp
                    · by_cases e2 : q < j
                      · simp [e, e2]; omega
                      · simp [e, e2]; omega)]
                  exact this)
                have NM := hide ((unhide M2).at j (.int .i64 (takenN l i j + 1)))
                clear S2 M2
                go_wp2
                exact ⟨⟨j + 1, rfl, by omega, NS, NM⟩, by simp [intOf]; omega⟩
              · have hend : Hid (Has wr sb (soldV fun q => takenN l (i + 1) q) 33) := hide (by
                  rw [soldV_congr (g := fun q => takenN l i q + (if q < j then 1 else 0)) (fun q hq => by
                    rw [(unhide TS) q, (unhide ETK) q]
                    have e : (j : Int) = cl + 1 := by omega
                    by_cases e2 : q < j
                    · rw [if_pos e2, if_pos (by simp; omega)]
                    · rw [if_neg e2, if_neg (by simp; omega)])]
                  exact unhide S2)
                clear S2
                go_wp2
                exact ⟨⟨i + 1, rfl, unhide HI, by rw [unhide EF], hend, M2⟩, by simp [intOf]; have := unhide HI; omega⟩
        · have b1 : (st == 1) = false := by simp; omega
          have b2 : (st == 2) = false := by simp; omega
          have S2 := hide (show Has wr sb (soldV fun q => takenN l (i + 1) q) 33 from by
            rw [soldV_congr (g := fun q => takenN l i q) (fun q hq => by rw [(unhide TS) q, ETK0, b1, b2]; simp)]
            exact unhide S1)
          clear EF0 ETK0 S1
          go_wp2
          exact ⟨⟨i + 1, rfl, unhide HI, by rw [unhide EF], S2, M1⟩, by simp [intOf]; have := unhide HI; omega⟩
    · have hi1 : ¬ (i : Int) < (l.length : Int) := by omega
      have e : i = l.length := by omega
      subst e
      have LB := hide ((unhide HB))
      have B2 := hide ((unhide M1).has (unhide HB) (unhide NL))
      have hk0 : (k : Int) < 4 := by omega
      clear LB
      go_wp2_with fail
      go_loopw [11, 12] (fun s11 s12 wx => ∃ j : Nat, s12 = .int .i64 (j : Int) ∧ j ≤ k + 1 ∧ s11 = .int .i64 (leastN p l j) ∧ Hid (Mod No wr wx)) (fun _ s12 _ => 5 - (intOf s12).toNat)
      case atStart => exact ⟨0, rfl, by omega, rfl, hide (Mod.refl _ _)⟩
      case round =>
        obtain ⟨j, rfl, hj, rfl, M3⟩ := hrel
        by_cases hjk : j ≤ k
        · have hjk1 : (j : Int) ≤ (k : Int) := by omega
          have hj0 : (0 : Int) ≤ (j : Int) := by omega
          have hj4 : (j : Int) < 4 := by omega
          have hjn : j < 4 := by omega
          have S3 := (unhide M3).has (unhide S1) (fun x => x)
          have B3 := (unhide M3).has (unhide B2) (fun x => x)
          have c1 := S3.cell j
          rw [soldV_at _ j hjn] at c1
          have c2 := B3.cell j
          rw [show (#[.int .i64 (p.lim 0), .int .i64 (p.lim 1), .int .i64 (p.lim 2), .int .i64 (p.lim 3)] : Array Value)[j]? = some (.int .i64 (p.lim j)) from soldV_at p.lim j hjn] at c2
          have l1 := S3.lt
          have l2 := B3.lt
          have hwj : IntKind.i64.wrap ((j : Int) + 1) = ((j + 1 : Nat) : Int) := by rw [wrap_id _ (by omega) (by omega)]; rfl
          have hws : IntKind.i64.wrap (p.lim j - takenN l l.length j) = p.lim j - takenN l l.length j := by
            have h1 := (unhide HSM) l.length j
            have h2 := (unhide HLIM) j
            exact wrap_id _ (by omega) (by omega)
          have NX := hide (show leastN p l (j + 1) = min (leastN p l j) (p.lim j - takenN l l.length j) from rfl)
          have MD := hide fun n => (unhide M3).drewN n
          have MD1 := hide (unhide M3).drew
          clear S3 B3 M3
          go_wp2_with fail
          go_quiet (fail)
          go_wp2
          exact ⟨⟨j + 1, rfl, by omega, by rw [unhide NX], (by first | exact hide ((unhide MD) _) | exact MD1)⟩, by simp [intOf]; omega⟩
        · have hjk1 : ¬ (j : Int) ≤ (k : Int) := by omega
          have e : j = k + 1 := by omega
          subst e
          rw [leastN_eq]
          have MF := hide (((unhide MA).trans' (S := No) (unhide M1) (fun q hq hlq => by subst hq; have := unhide NW; omega)).trans (unhide M3))
          clear S1 M1 M3 B2
          go_wp2
          go_ret
          exact ⟨rfl, unhide MF⟩
end Go.Proofs.Ytlcbemcamdafjaa
