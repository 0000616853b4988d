import Derived.Test.YthhibagcpjeihaaGPg6ToOver
import Derived.Test.YthhibagcpjeihaaGMaps2ToPut
import Derived.Deep.DeepCutAuto
import Derived.Test.YthhibagcpjeihaaGSav1ToOpen
import Derived.Handy
import Derived.Test.YthhibagcpjeihaaGModelToMaps
/- What is left of a class, counted anew. -/
namespace Go.Proofs.Ythhibagcpjeihaa
open Go.RowKit
open M
set_option linter.unusedVariables false
set_option linter.unusedSimpArgs false
set_option maxRecDepth 100000
set_option maxHeartbeats 4000000
attribute [local go_sem ↓] run_min2 run_max2

def soldV (f : Nat → Int) : Array Value := #[.int .i64 (f 0), .int .i64 (f 1), .int .i64 (f 2), .int .i64 (f 3)]

theorem soldV_at (f : Nat → Int) (j : Nat) (h : j < 4) : (soldV f)[j]? = some (.int .i64 (f j)) := by
  have : j = 0 ∨ j = 1 ∨ j = 2 ∨ j = 3 := by omega
  rcases this with rfl | rfl | rfl | rfl <;> rfl

theorem soldV_set (f : Nat → Int) (j : Nat) (h : j < 4) (x : Int) : (soldV f).setIfInBounds j (.int .i64 x) = soldV (fun q => if q = j then x else f q) := by
  have : j = 0 ∨ j = 1 ∨ j = 2 ∨ j = 3 := by omega
  rcases this with rfl | rfl | rfl | rfl <;> rfl

theorem soldV_congr {f g : Nat → Int} (h : ∀ q, q < 4 → f q = g q) : soldV f = soldV g := by
  unfold soldV
  rw [h 0 (by omega), h 1 (by omega), h 2 (by omega), h 3 (by omega)]

/-- Taken in this class or a dearer one, among the first. -/
def takenN (l : List Sea) (i q : Nat) : Int := ((l.take i).countP (takenIn (q : Int)) : Nat)
def freeN (l : List Sea) (i : Nat) : Int := ((l.take i).countP (fun s => s.st == 0) : Nat)

theorem takenN_succ (l : List Sea) (i q : Nat) (h : i < l.length) : takenN l (i + 1) q = takenN l i q + (if takenIn (q : Int) l[i] then 1 else 0) := taken_step (q : Int) l i h
theorem freeN_succ (l : List Sea) (i : Nat) (h : i < l.length) : freeN l (i + 1) = freeN l i + (if l[i].st = 0 then 1 else 0) := by
  unfold freeN
  rw [take_succ l i h, List.countP_append]
  by_cases h0 : l[i].st = 0 <;> simp [h0]

theorem takenN_small (l : List Sea) (i q : Nat) (h : l.length ≤ 1000) : 0 ≤ takenN l i q ∧ takenN l i q ≤ 1000 := by
  unfold takenN
  have : (l.take i).countP (takenIn (q : Int)) ≤ (l.take i).length := List.countP_le_length
  rw [List.length_take] at this
  omega
theorem freeN_small (l : List Sea) (i : Nat) (h : l.length ≤ 1000) : 0 ≤ freeN l i ∧ freeN l i ≤ 1000 := by
  unfold freeN
  have : (l.take i).countP (fun s => s.st == 0) ≤ (l.take i).length := List.countP_le_length
  rw [List.length_take] at this
  omega

/-- The least so far. -/
def leastN (p : Pla) (l : List Sea) : Nat → Int
  | 0 => freeN l l.length
  | j + 1 => min (leastN p l j) (p.lim j - takenN l l.length j)

theorem leastN_eq (p : Pla) (l : List Sea) : ∀ c, leastN p l (c + 1) = leastTo p l c
  | 0 => by
    show min (freeN l l.length) (p.lim 0 - takenN l l.length 0) = min (nFree l : Int) (p.lim 0 - nFrom 0 l)
    unfold freeN takenN
    rw [List.take_length]
    rfl
  | c + 1 => by
    show min (leastN p l (c + 1)) (p.lim (c + 1) - takenN l l.length (c + 1)) = min (leastTo p l c) (p.lim (c + 1) - nFrom ((c : Int) + 1) l)
    rw [leastN_eq p l c]
    unfold takenN
    rw [List.take_length]
    rfl

theorem least_walk (g cap : Nat) (p : Pla) (l : List Sea) (k : Nat) (hk : k < 4) (w : World) (hr : RowS w g cap l) (hl : l.length ≤ 1000) (hlim : ∀ j, 0 ≤ p.lim j ∧ p.lim j ≤ 200)
    (hcl : ∀ i (h : i < l.length), 0 ≤ l[i].cl ∧ l[i].cl ≤ 3) :
    Calls Try.prog 46 #[.slice (some ⟨g, 0, none⟩) l.length cap, .agg #[.int .i64 (p.lim 0), .int .i64 (p.lim 1), .int .i64 (p.lim 2), .int .i64 (p.lim 3)], .int .i64 (k : Int)] w fun e w' => e = .returned (.int .i64 (min (max (leastTo p l k) 0) 9)) ∧ Mod No w w' := by
  have mA : Mod No w ((w.alloc (.cells #[.int .i64 (p.lim 0), .int .i64 (p.lim 1), .int .i64 (p.lim 2), .int .i64 (p.lim 3)] 33)).alloc (.cells #[.int .i64 0, .int .i64 0, .int .i64 0, .int .i64 0] 33)) := ((Mod.refl _ w).alloc _).alloc _
  have HR := hide (hr.mod mA (fun x => x))
  have HB := hide ((Has.new w #[.int .i64 (p.lim 0), .int .i64 (p.lim 1), .int .i64 (p.lim 2), .int .i64 (p.lim 3)] 33).alloc (.cells #[.int .i64 0, .int .i64 0, .int .i64 0, .int .i64 0] 33))
  have nS := Has.new (w.alloc (.cells #[.int .i64 (p.lim 0), .int .i64 (p.lim 1), .int .i64 (p.lim 2), .int .i64 (p.lim 3)] 33)) #[.int .i64 0, .int .i64 0, .int .i64 0, .int .i64 0] 33
  rw [World.size_alloc] at nS
  have HSB := hide nS
  have MA := hide mA
  have HCL := hide hcl
  have HLIM := hide hlim
  have hsm := fun i q => takenN_small l i q hl
  have HSM := hide hsm
  have HFS := hide fun i => freeN_small l i hl
  have HGB := hide (show g < w.heap.size from hr.lt)
  clear hr hcl hlim mA nS hsm
  go_enter Try.func46, Try.ntmps46
  go_upto_region 3 with fail
  have NG := hide (show ¬ g = w.heap.size + 1 from by have := unhide HGB; omega)
  have NL := hide (show ¬ w.heap.size = w.heap.size + 1 from by omega)
  have S0 := hide (show Has ((w.alloc (.cells #[.int .i64 (p.lim 0), .int .i64 (p.lim 1), .int .i64 (p.lim 2), .int .i64 (p.lim 3)] 33)).alloc (.cells #[.int .i64 0, .int .i64 0, .int .i64 0, .int .i64 0] 33)) (w.heap.size + 1) (soldV fun q => takenN l 0 q) 33 from unhide HSB)
  generalize (w.alloc (.cells #[.int .i64 (p.lim 0), .int .i64 (p.lim 1), .int .i64 (p.lim 2), .int .i64 (p.lim 3)] 33)).alloc (.cells #[.int .i64 0, .int .i64 0, .int .i64 0, .int .i64 0] 33) = W1 at *
  have NW := hide (show w.heap.size ≤ w.heap.size + 1 from by omega)
  generalize w.heap.size + 1 = sb at *
  generalize hlb : w.heap.size = lb at *
  clear HSB HGB
  go_wp2_with fail
  go_loopw [7, 9] (fun s7 s9 wr => ∃ i : Nat, s9 = .int .i64 (i : Int) ∧ i ≤ l.length ∧ s7 = .int .i64 (freeN l i) ∧ Hid (Has wr sb (soldV fun q => takenN l i q) 33) ∧ Hid (Mod (fun k => k = sb) W1 wr)) (fun _ s9 _ => l.length - (intOf s9).toNat)
  case atStart => exact ⟨0, rfl, by omega, rfl, S0, hide (Mod.refl _ _)⟩
  case round =>
    obtain ⟨i, rfl, hi, rfl, S1, M1⟩ := hrel
    by_cases hil : i < l.length
    · have hi1 : (i : Int) < (l.length : Int) := by omega
      have hi0 : (0 : Int) ≤ (i : Int) := by omega
      have hwi : IntKind.i64.wrap ((i : Int) + 1) = ((i + 1 : Nat) : Int) := by rw [wrap_id _ (by omega) (by omega)]; rfl
      have hwf : IntKind.i64.wrap (freeN l i + 1) = freeN l i + 1 := by have := (unhide HFS) i; exact wrap_id _ (by omega) (by omega)
      have R1 := hide ((unhide HR).mod (unhide M1) (unhide NG))
      have hst := (unhide R1).st i hil
      have hcl1 := (unhide R1).cl i hil
      have glt := (unhide R1).lt
      have HC0 := (unhide HCL) i hil
      have TS := hide fun q => takenN_succ l i q hil
      have EF0 := freeN_succ l i hil
      have CLF := hide fun (W' : World) (h : RowS W' g cap l) => h.cl i hil
      generalize l[i] = sx at *
      obtain ⟨sr, sc, st, sp, cl, su⟩ := sx
      simp only at hst hcl1 HC0 EF0
      have ETK0 : ∀ q : Int, takenIn q ⟨sr, sc, st, sp, cl, su⟩ = ((st == 1 || st == 2) && decide (q ≤ cl)) := fun q => rfl
      have HC := hide HC0
      have HI := hide hil
      clear HC0
      by_cases h0 : st = 0
      · subst h0
        have EF := hide (show freeN l (i + 1) = freeN l i + 1 from by rw [EF0]; simp)
        have S2 := hide (show Has wr sb (soldV fun q => takenN l (i + 1) q) 33 from by
          rw [soldV_congr (g := fun q => takenN l i q) (fun q hq => by rw [(unhide TS) q, ETK0]; simp)]
          exact unhide S1)
        clear EF0 ETK0 S1
        go_wp2
        exact ⟨⟨i + 1, rfl, unhide HI, by rw [unhide EF], S2, M1⟩, by simp [intOf]; have := unhide HI; omega⟩
      · have b0 : (st == 0) = false := by simpa using h0
        have EF := hide (show freeN l (i + 1) = freeN l i from by rw [EF0, if_neg h0]; simp)
        by_cases h12 : st = 1 ∨ st = 2
        · rcases h12 with rfl | rfl
          · have ETK := hide (show ∀ q : Int, takenIn q ⟨sr, sc, _, sp, cl, su⟩ = decide (q ≤ cl) from fun q => by rw [ETK0]; simp)
            clear EF0 ETK0
            go_wp2_with fail
            go_loopw [10] (fun s10 wx => ∃ j : Nat, s10 = .int .i64 (j : Int) ∧ (j : Int) ≤ cl + 1 ∧ Hid (Has wx sb (soldV fun q => takenN l i q + (if q < j then 1 else 0)) 33) ∧ Hid (Mod (fun k => k = sb) W1 wx)) (fun s10 _ => 5 - (intOf s10).toNat)
            case atStart => exact ⟨0, rfl, by have := unhide HC; omega, by simpa using S1, M1⟩
            case round =>
              obtain ⟨j, rfl, hj, S2, M2⟩ := hrel
              have R2 := hide ((unhide HR).mod (unhide M2) (unhide NG))
              have hcl2 := (unhide CLF) _ (unhide R2)
              have glt2 := (unhide R2).lt
              by_cases hjc : (j : Int) ≤ cl
              · have hj4 : (j : Int) < 4 := by have := unhide HC; omega
                have hj0 : (0 : Int) ≤ (j : Int) := by omega
                have hjn : j < 4 := by omega
                have bj : wr.cell? ⟨sb, j, none⟩ = some (.int .i64 (takenN l i j)) := by
                  rw [(unhide S2).cell, soldV_at _ j hjn]
                  simp
                have bz := (unhide S2).frozen
                have bl := (unhide S2).lt
                have hwj : IntKind.i64.wrap ((j : Int) + 1) = ((j + 1 : Nat) : Int) := by rw [wrap_id _ (by omega) (by omega)]; rfl
                have hwt : IntKind.i64.wrap (takenN l i j + 1) = takenN l i j + 1 := by have := (unhide HSM) i j; exact wrap_id _ (by omega) (by omega)
                have NS := hide (show Has (wr.setCell ⟨sb, j, none⟩ (.int .i64 (takenN l i j + 1))) sb (soldV fun q => takenN l i q + (if q < j + 1 then 1 else 0)) 33 from by
                  have := (unhide S2).set j (.int .i64 (takenN l i j + 1))
                  rw [soldV_set _ j hjn] at this
                  rw [soldV_congr (g := fun q => if q = j then takenN l i j + 1 else takenN l i q + (if q < j then 1 else 0)) (fun q hq => by
                    by_cases e : q = j
                    · subst e; simp
                    · by_cases e2 : q < j
                      · simp [e, e2]; omega
                      · simp [e, e2]; omega)]
                  exact this)
                have NM := hide ((unhide M2).at j (.int .i64 (takenN l i j + 1)))
                clear S2 M2
                go_wp2
                exact ⟨⟨j + 1, rfl, by omega, NS, NM⟩, by simp [intOf]; omega⟩
              · have hend : Hid (Has wr sb (soldV fun q => takenN l (i + 1) q) 33) := hide (by
                  rw [soldV_congr (g := fun q => takenN l i q + (if q < j then 1 else 0)) (fun q hq => by
                    rw [(unhide TS) q, (unhide ETK) q]
                    have e : (j : Int) = cl + 1 := by omega
                    by_cases e2 : q < j
                    · rw [if_pos e2, if_pos (by simp; omega)]
                    · rw [if_neg e2, if_neg (by simp; omega)])]
                  exact unhide S2)
                clear S2
                go_wp2
                exact ⟨⟨i + 1, rfl, unhide HI, by rw [unhide EF], hend, M2⟩, by simp [intOf]; have := unhide HI; omega⟩
          · have ETK := hide (show ∀ q : Int, takenIn q ⟨sr, sc, _, sp, cl, su⟩ = decide (q ≤ cl) from fun q => by rw [ETK0]; simp)
            clear EF0 ETK0
            go_wp2_with fail
            go_loopw [10] (fun s10 wx => ∃ j : Nat, s10 = .int .i64 (j : Int) ∧ (j : Int) ≤ cl + 1 ∧ Hid (Has wx sb (soldV fun q => takenN l i q + (if q < j then 1 else 0)) 33) ∧ Hid (Mod (fun k => k = sb) W1 wx)) (fun s10 _ => 5 - (intOf s10).toNat)
            case atStart => exact ⟨0, rfl, by have := unhide HC; omega, by simpa using S1, M1⟩
            case round =>
              obtain ⟨j, rfl, hj, S2, M2⟩ := hrel
              have R2 := hide ((unhide HR).mod (unhide M2) (unhide NG))
              have hcl2 := (unhide CLF) _ (unhide R2)
              have glt2 := (unhide R2).lt
              by_cases hjc : (j : Int) ≤ cl
              · have hj4 : (j : Int) < 4 := by have := unhide HC; omega
                have hj0 : (0 : Int) ≤ (j : Int) := by omega
                have hjn : j < 4 := by omega
                have bj : wr.cell? ⟨sb, j, none⟩ = some (.int .i64 (takenN l i j)) := by
                  rw [(unhide S2).cell, soldV_at _ j hjn]
                  simp
                have bz := (unhide S2).frozen
                have bl := (unhide S2).lt
                have hwj : IntKind.i64.wrap ((j : Int) + 1) = ((j + 1 : Nat) : Int) := by rw [wrap_id _ (by omega) (by omega)]; rfl
                have hwt : IntKind.i64.wrap (takenN l i j + 1) = takenN l i j + 1 := by have := (unhide HSM) i j; exact wrap_id _ (by omega) (by omega)
                have NS := hide (show Has (wr.setCell ⟨sb, j, none⟩ (.int .i64 (takenN l i j + 1))) sb (soldV fun q => takenN l i q + (if q < j + 1 then 1 else 0)) 33 from by
                  have := (unhide S2).set j (.int .i64 (takenN l i j + 1))
                  rw [soldV_set _ j hjn] at this
                  rw [soldV_congr (g := fun q => if q = j then takenN l i j + 1 else takenN l i q + (if q < j then 1 else 0)) (fun q hq => by
                    by_cases e : q = j
                    · subst e; simp
                    · by_cases e2 : q < j
                      · simp [e, e2]; omega
                      · simp [e, e2]; omega)]
                  exact this)
                have NM := hide ((unhide M2).at j (.int .i64 (takenN l i j + 1)))
                clear S2 M2
                go_wp2
                exact ⟨⟨j + 1, rfl, by omega, NS, NM⟩, by simp [intOf]; omega⟩
              · have hend : Hid (Has wr sb (soldV fun q => takenN l (i + 1) q) 33) := hide (by
                  rw [soldV_congr (g := fun q => takenN l i q + (if q < j then 1 else 0)) (fun q hq => by
                    rw [(unhide TS) q, (unhide ETK) q]
                    have e : (j : Int) = cl + 1 := by omega
                    by_cases e2 : q < j
                    · rw [if_pos e2, if_pos (by simp; omega)]
                    · rw [if_neg e2, if_neg (by simp; omega)])]
                  exact unhide S2)
                clear S2
                go_wp2
                exact ⟨⟨i + 1, rfl, unhide HI, by rw [unhide EF], hend, M2⟩, by simp [intOf]; have := unhide HI; omega⟩
        · have b1 : (st == 1) = false := by simp; omega
          have b2 : (st == 2) = false := by simp; omega
          have S2 := hide (show Has wr sb (soldV fun q => takenN l (i + 1) q) 33 from by
            rw [soldV_congr (g := fun q => takenN l i q) (fun q hq => by rw [(unhide TS) q, ETK0, b1, b2]; simp)]
            exact unhide S1)
          clear EF0 ETK0 S1
          go_wp2
          exact ⟨⟨i + 1, rfl, unhide HI, by rw [unhide EF], S2, M1⟩, by simp [intOf]; have := unhide HI; omega⟩
    · have hi1 : ¬ (i : Int) < (l.length : Int) := by omega
      have e : i = l.length := by omega
      subst e
      have LB := hide ((unhide HB))
      have B2 := hide ((unhide M1).has (unhide HB) (unhide NL))
      have hk0 : (k : Int) < 4 := by omega
      clear LB
      go_wp2_with fail
      go_loopw [11, 12] (fun s11 s12 wx => ∃ j : Nat, s12 = .int .i64 (j : Int) ∧ j ≤ k + 1 ∧ s11 = .int .i64 (leastN p l j) ∧ Hid (Mod No wr wx)) (fun _ s12 _ => 5 - (intOf s12).toNat)
      case atStart => exact ⟨0, rfl, by omega, rfl, hide (Mod.refl _ _)⟩
      case round =>
        obtain ⟨j, rfl, hj, rfl, M3⟩ := hrel
        by_cases hjk : j ≤ k
        · have hjk1 : (j : Int) ≤ (k : Int) := by omega
          have hj0 : (0 : Int) ≤ (j : Int) := by omega
          have hj4 : (j : Int) < 4 := by omega
          have hjn : j < 4 := by omega
          have S3 := (unhide M3).has (unhide S1) (fun x => x)
          have B3 := (unhide M3).has (unhide B2) (fun x => x)
          have c1 := S3.cell j
          rw [soldV_at _ j hjn] at c1
          have c2 := B3.cell j
          rw [show (#[.int .i64 (p.lim 0), .int .i64 (p.lim 1), .int .i64 (p.lim 2), .int .i64 (p.lim 3)] : Array Value)[j]? = some (.int .i64 (p.lim j)) from soldV_at p.lim j hjn] at c2
          have l1 := S3.lt
          have l2 := B3.lt
          have hwj : IntKind.i64.wrap ((j : Int) + 1) = ((j + 1 : Nat) : Int) := by rw [wrap_id _ (by omega) (by omega)]; rfl
          have hws : IntKind.i64.wrap (p.lim j - takenN l l.length j) = p.lim j - takenN l l.length j := by
            have h1 := (unhide HSM) l.length j
            have h2 := (unhide HLIM) j
            exact wrap_id _ (by omega) (by omega)
          have NX := hide (show leastN p l (j + 1) = min (leastN p l j) (p.lim j - takenN l l.length j) from rfl)
          have MD := hide fun n => (unhide M3).drewN n
          have MD1 := hide (unhide M3).drew
          clear S3 B3 M3
          go_wp2_with fail
          go_quiet (fail)
          go_wp2
          exact ⟨⟨j + 1, rfl, by omega, by rw [unhide NX], (by first | exact hide ((unhide MD) _) | exact MD1)⟩, by simp [intOf]; omega⟩
        · have hjk1 : ¬ (j : Int) ≤ (k : Int) := by omega
          have e : j = k + 1 := by omega
          subst e
          rw [leastN_eq]
          have MF := hide (((unhide MA).trans' (S := No) (unhide M1) (fun q hq hlq => by subst hq; have := unhide NW; omega)).trans (unhide M3))
          clear S1 M1 M3 B2
          go_wp2
          go_ret
          exact ⟨rfl, unhide MF⟩
end Go.Proofs.Ythhibagcpjeihaa
/- What is told of a flight is what counting its seats tells. -/
namespace Go.Proofs.Ythhibagcpjeihaa
open Go.RowKit
open M
set_option linter.unusedVariables false
set_option linter.unusedSimpArgs false
set_option maxRecDepth 100000
set_option maxHeartbeats 4000000

/-- Seats of a state, seats sold of a class, among the first. -/
def stN (l : List Sea) (i q : Nat) : Int := ((l.take i).countP (fun s => s.st == (q : Int)) : Nat)
def clN (l : List Sea) (i q : Nat) : Int := ((l.take i).countP (fun s => s.sold && s.cl == (q : Int)) : Nat)

theorem countN_succ (f : Sea → Bool) (l : List Sea) (i : Nat) (h : i < l.length) : (((l.take (i + 1)).countP f : Nat) : Int) = ((l.take i).countP f : Nat) + (if f l[i] = true then 1 else 0) := by
  rw [take_succ l i h, List.countP_append]
  cases hf : f l[i] <;> simp [hf]
theorem countN_small (f : Sea → Bool) (l : List Sea) (i : Nat) (h : l.length ≤ 1000) : (0 : Int) ≤ ((l.take i).countP f : Nat) ∧ (((l.take i).countP f : Nat) : Int) ≤ 1000 := by
  have : (l.take i).countP f ≤ (l.take i).length := List.countP_le_length
  rw [List.length_take] at this
  omega

theorem stN_all (p : Pla) (l : List Sea) (q : Nat) : stN l l.length q = cA p l q + cB p l q := by
  unfold stN cA cB nAt
  rw [List.take_length]
  simp only [beq_true, beq_false]
  induction l with
  | nil => rfl
  | cons s l ih =>
    simp only [List.countP_cons]
    cases h1 : decide (s.row ≤ p.front) <;> cases h2 : (s.st == (q : Int)) <;> simp [h1, h2] <;> omega

theorem clN_all (l : List Sea) (q : Nat) : clN l l.length q = cS l q := by
  unfold clN cS nSold
  rw [List.take_length]

/-- What stands while the seats are counted. -/
structure CouI (W1 wr : World) (ab db : Nat) (l : List Sea) (i : Nat) : Prop where
  all : Has wr ab (soldV fun q => stN l i q) 33
  sold : Has wr db (soldV fun q => clN l i q) 33
  mod : Mod (fun k => k = ab ∨ k = db) W1 wr

theorem CouI.next {W1 wr wx : World} {ab db i : Nat} {l : List Sea} (h : CouI W1 wr ab db l i) (hm : Mod No wr wx) (hi : i < l.length) (hne : ab ≠ db) (sn cn : Nat) (hs : l[i].st = (sn : Int)) (hc : l[i].cl = (cn : Int)) (hsn : sn < 4) (hcn : cn < 4) :
    (l[i].sold = false → CouI W1 (wx.setCell ⟨ab, sn, none⟩ (.int .i64 (stN l i sn + 1))) ab db l (i + 1)) ∧
    (l[i].sold = true → CouI W1 ((wx.setCell ⟨ab, sn, none⟩ (.int .i64 (stN l i sn + 1))).setCell ⟨db, cn, none⟩ (.int .i64 (clN l i cn + 1))) ab db l (i + 1)) := by
  have a := hm.has h.all (fun x => x)
  have d := hm.has h.sold (fun x => x)
  have m : Mod (fun k => k = ab ∨ k = db) W1 wx := h.mod.trans (hm.mono (fun _ _ x => x.elim))
  have e1 : (soldV fun q => stN l i q).setIfInBounds sn (.int .i64 (stN l i sn + 1)) = soldV fun q => stN l (i + 1) q := by
    rw [soldV_set _ sn hsn]
    refine soldV_congr fun q hq => ?_
    unfold stN
    rw [countN_succ _ l i hi, hs]
    by_cases e : q = sn
    · subst e; simp
    · have : ¬ ((sn : Int) = (q : Int)) := by omega
      simp [e, this]
  have e2 : l[i].sold = false → soldV (fun q => clN l i q) = soldV fun q => clN l (i + 1) q := fun hf => by
    refine soldV_congr fun q hq => ?_
    unfold clN
    rw [countN_succ _ l i hi, hf]
    simp
  have e3 : l[i].sold = true → (soldV fun q => clN l i q).setIfInBounds cn (.int .i64 (clN l i cn + 1)) = soldV fun q => clN l (i + 1) q := fun hf => by
    rw [soldV_set _ cn hcn]
    refine soldV_congr fun q hq => ?_
    unfold clN
    rw [countN_succ _ l i hi, hf, hc]
    by_cases e : q = cn
    · subst e; simp
    · have : ¬ ((cn : Int) = (q : Int)) := by omega
      simp [e, this]
  have m1 : Mod (fun k => k = ab) wx (wx.setCell ⟨ab, sn, none⟩ (.int .i64 (stN l i sn + 1))) := (Mod.refl _ wx).at sn _
  have a1 := a.set sn (.int .i64 (stN l i sn + 1))
  rw [e1] at a1
  have d1 := m1.has d (fun e => hne e.symm)
  have mm1 : Mod (fun k => k = ab ∨ k = db) W1 (wx.setCell ⟨ab, sn, none⟩ (.int .i64 (stN l i sn + 1))) := m.trans (m1.mono (fun _ _ x => .inl x))
  refine ⟨fun hf => ⟨a1, by rw [← e2 hf]; exact d1, mm1⟩, fun hf => ?_⟩
  have m2 : Mod (fun k => k = db) (wx.setCell ⟨ab, sn, none⟩ (.int .i64 (stN l i sn + 1))) ((wx.setCell ⟨ab, sn, none⟩ (.int .i64 (stN l i sn + 1))).setCell ⟨db, cn, none⟩ (.int .i64 (clN l i cn + 1))) := (Mod.refl _ _).at cn _
  have d2 := d1.set cn (.int .i64 (clN l i cn + 1))
  rw [e3 hf] at d2
  exact ⟨m2.has a1 hne, d2, mm1.trans (m2.mono (fun _ _ x => .inr x))⟩
end Go.Proofs.Ythhibagcpjeihaa
/- A keeper on a tape that does not fail, with room for so many changes more. -/
namespace Go.Proofs.Ythhibagcpjeihaa
open Go.RowKit
open M
set_option linter.unusedVariables false
set_option linter.unusedSimpArgs false
set_option maxRecDepth 100000

/-- A command that is done may be spelt. -/
theorem doK_cfit {now : Int} {fl : Nat → Option (Pla × List Sea)} {c : Cmd} (hn : 0 ≤ now ∧ now ≤ 4611686018427387000) (hwf : ∀ n p l, n < 21 → fl n = some (p, l) → Wf p l) (h : (doK now fl c).1 = 0) : CFit now (entOf now c) := by
  unfold doK at h
  by_cases hbad : c.kind < 1 ∨ c.kind > 9
  · rw [if_pos hbad] at h; exact absurd h (by simp)
  rw [if_neg hbad] at h
  by_cases h8 : c.kind = 8
  · rw [if_pos h8] at h
    by_cases ht : 1 ≤ c.time ∧ c.time ≤ 100
    · exact fit_pass h8 ht hn
    · rw [if_neg ht] at h; exact absurd h (by simp)
  rw [if_neg h8] at h
  by_cases hf : 1 ≤ c.flight ∧ c.flight ≤ 20
  case neg => rw [if_pos hf] at h; exact absurd h (by simp)
  rw [if_neg (by simpa using hf)] at h
  cases hfl : fl c.flight.toNat with
  | none =>
    rw [hfl] at h
    simp only at h
    by_cases k1 : c.kind = 1
    · rw [if_pos k1] at h
      by_cases hs : c.pla.sized = true ∧ c.pla.limited = true
      · exact fit_start k1 hf hs.1 hs.2
      · rw [if_neg hs] at h; exact absurd h (by simp)
    · rw [if_neg k1] at h; exact absurd h (by simp)
  | some x =>
    obtain ⟨p, l⟩ := x
    rw [hfl] at h
    simp only at h
    by_cases k1 : c.kind = 1
    · rw [if_pos k1] at h; exact absurd h (by simp)
    rw [if_neg k1] at h
    by_cases hz : seatErr p l c now = 0
    · exact fit_seat (by omega) hf (hwf _ p l (by omega) hfl) hn hz
    · rw [if_neg hz] at h; exact absurd h hz

/-- A record is laid on a tape that does not fail. -/
theorem layP_ok {T : TP} {i : Nat} {r : List Int} (hi : i < 2) (hf : T.fuse < 0) (hr : (T.used : Int) + r.length ≤ T.room) : (layP T i r).1 = 0 ∧ (layP T i r).2.fuse = T.fuse ∧ (layP T i r).2.room = T.room ∧ (layP T i r).2.used = T.used + r.length := by
  have hb : burnt T.fuse = T.fuse := by unfold burnt; rw [if_neg (by omega)]
  have ha : appendP T i r = (true, T.put i (T.b i ++ r) (T.last i) T.fuse) := by
    unfold appendP
    rw [if_neg (by omega), hb]
  have hs : writeP T i r = (true, (T.put i (T.b i ++ r) (T.last i) T.fuse).put i (T.b i ++ r) (T.b i ++ r).length T.fuse) := by
    unfold writeP
    rw [ha, if_pos rfl]
    unfold syncP
    rw [if_neg (by show ¬ T.fuse = 0; omega)]
    have e1 : (T.put i (T.b i ++ r) (T.last i) T.fuse).b i = T.b i ++ r := by simp [TP.put]
    simp only [e1]
    show (true, _) = (true, _)
    rw [show burnt (T.put i (T.b i ++ r) (T.last i) T.fuse).fuse = T.fuse from hb]
  unfold layP
  rw [if_neg (by omega), hs, if_pos rfl]
  refine ⟨rfl, rfl, rfl, ?_⟩
  have : i = 0 ∨ i = 1 := by omega
  rcases this with rfl | rfl <;> simp [TP.used, TP.put] <;> omega

/-- A keeper on such a tape. -/
structure KeepM (w : World) (ow : Nat → Nat) (kb : Nat) (now : Int) (fl : Nat → Option (Pla × List Sea)) (m : Nat) : Prop where
  ex : ∃ pt K, KeepT w ow kb now pt fl K ∧ K.live = true ∧ K.torn = false ∧ K.file < 2 ∧ K.T.fuse < 0 ∧ (K.T.used : Int) + 60 * m ≤ K.T.room ∧ K.T.room ≤ 17592186044416

structure KeptM (w w' : World) (ow : Nat → Nat) (kb : Nat) (now : Int) (fl : Nat → Option (Pla × List Sea)) (m : Nat) : Prop where
  keep : ∃ ow', KeepM w' ow' kb now fl m ∧ ∀ k, k < w.heap.size → ow' k = ow k
  mod : Mod (fun k => ow k ≠ 0) w w'
  fol : ∀ i, i < 8 → w'.cell? ⟨kb, 22 + i, none⟩ = w.cell? ⟨kb, 22 + i, none⟩

theorem KeepM.toH {w : World} {ow : Nat → Nat} {kb : Nat} {now : Int} {fl : Nat → Option (Pla × List Sea)} {m : Nat} (h : KeepM w ow kb now fl m) : KeepH w ow kb now fl := by
  obtain ⟨pt, K, h1, _⟩ := h
  exact ⟨pt, h1.keep⟩
theorem KeepM.mod {w w' : World} {ow : Nat → Nat} {kb : Nat} {now : Int} {fl : Nat → Option (Pla × List Sea)} {m : Nat} {S : Nat → Prop} (h : KeepM w ow kb now fl m) (hm : Mod S w w') (hs : ∀ k, ow k ≠ 0 → ¬ S k) : KeepM w' ow kb now fl m := by
  obtain ⟨pt, K, h1, h2⟩ := h
  exact ⟨pt, K, h1.mod hm hs, h2⟩
theorem KeepM.less {w : World} {ow : Nat → Nat} {kb : Nat} {now : Int} {fl : Nat → Option (Pla × List Sea)} {m n : Nat} (h : KeepM w ow kb now fl m) (hn : n ≤ m) : KeepM w ow kb now fl n := by
  obtain ⟨pt, K, h1, h2, h3, h4, h5, h6, h7⟩ := h
  exact ⟨pt, K, h1, h2, h3, h4, h5, by omega, h7⟩
theorem KeepM.wf {w : World} {ow : Nat → Nat} {kb : Nat} {now : Int} {fl : Nat → Option (Pla × List Sea)} {m : Nat} (h : KeepM w ow kb now fl m) {n : Nat} (hn : n < 21) {p : Pla} {l : List Sea} (hf : fl n = some (p, l)) : Wf p l := h.toH.wf hn hf
theorem KeepM.old {w : World} {ow : Nat → Nat} {kb : Nat} {now : Int} {fl : Nat → Option (Pla × List Sea)} {m : Nat} (h : KeepM w ow kb now fl m) : ∀ k, ow k ≠ 0 → k < w.heap.size := by
  obtain ⟨pt, K, h1, _⟩ := h
  exact h1.keep.old

theorem KeepM.mine {w : World} {ow : Nat → Nat} {kb : Nat} {now : Int} {fl : Nat → Option (Pla × List Sea)} {m : Nat} (h : KeepM w ow kb now fl m) : ow kb = 1 := by
  obtain ⟨pt, K, h1, _⟩ := h
  exact h1.keep.mine

theorem do_m {w : World} {ow : Nat → Nat} {kb : Nat} {now : Int} {fl : Nat → Option (Pla × List Sea)} {m : Nat} (h : KeepM w ow kb now fl (m + 1)) (hn : 0 ≤ now ∧ now ≤ 4611686018427387000) (c : Cmd) :
    Calls Try.prog 26 #[.pointer (some ⟨kb, 0, none⟩), .agg (cmdCells c)] w fun e w' => e = .returned (.int .i64 (doK now fl c).1) ∧ KeptM w w' ow kb (doK now fl c).2.1 (doK now fl c).2.2 m := by
  obtain ⟨pt, K, h1, h2, h3, h4, h5, h6, h7⟩ := h
  have hlen : (K.T.b K.file).length + 42 ≤ 17592186044416 := by
    have : (K.T.b K.file).length ≤ K.T.used := by
      have : K.file = 0 ∨ K.file = 1 := by omega
      unfold TP.used
      rcases this with e | e <;> rw [e] <;> omega
    omega
  refine (do_t h1 hn h3 h4 hlen c).mono ?_
  rintro e w' ⟨he, ⟨⟨ow', pt', q1, q2, q3⟩, q4⟩⟩
  have hfol := fol_same h1.keep.has q1.keep.has q3
  by_cases hz : (doK now fl c).1 = 0
  · have hfit := doK_cfit hn (fun n p l hn' hf => (h1.keep.here n p l hn' hf).elim fun b hb => hb.2.1) hz
    have hl := rec1_len hfit
    obtain ⟨l1, l2, l3, l4⟩ := layP_ok (i := K.file) (r := recB now [entOf now c]) h4 h5 (by omega)
    have hsv : saveK K (wholeK now fl) (recB now [entOf now c]) = (0, { K with T := (layP K.T K.file (recB now [entOf now c])).2, live := true }) := by
      unfold saveK layK
      rw [if_neg (by rw [h3]; simp), if_neg (by rw [h2]; simp), l1]
      rfl
    have hd : doT now fl K c = (0, (doK now fl c).2.1, (doK now fl c).2.2, { K with T := (layP K.T K.file (recB now [entOf now c])).2, live := true }) := by
      unfold doT
      rw [if_neg (by simpa using hz), hsv, if_pos rfl]
    rw [hd] at he q1
    rw [hz]
    exact ⟨he, ⟨ow', ⟨pt', _, q1, rfl, h3, h4, by show (layP K.T K.file (recB now [entOf now c])).2.fuse < 0; omega, by show (((layP K.T K.file (recB now [entOf now c])).2.used : Nat) : Int) + 60 * m ≤ (layP K.T K.file (recB now [entOf now c])).2.room; omega, by show (layP K.T K.file (recB now [entOf now c])).2.room ≤ _; omega⟩, q2⟩, q4, hfol⟩
  · have hd : doT now fl K c = ((doK now fl c).1, now, fl, K) := by
      unfold doT
      rw [if_pos hz]
    rw [hd] at he q1
    have h2e : (doK now fl c).2 = (now, fl) := by
      have := hz
      unfold doK at this ⊢
      repeat' split
      all_goals first | rfl | (exfalso; simp_all; done)
    rw [h2e]
    exact ⟨he, ⟨ow', ⟨pt', K, q1, h2, h3, h4, h5, by omega, h7⟩, q2⟩, q4, hfol⟩
end Go.Proofs.Ythhibagcpjeihaa
/- A keeper with one flight is begun. -/
namespace Go.Proofs.Ythhibagcpjeihaa
open Go.RowKit
open Go.ChangeMaps (setBlock)
open M
set_option linter.unusedVariables false
set_option linter.unusedSimpArgs false
set_option maxRecDepth 100000
set_option maxHeartbeats 2000000

def p0 : Pla := ⟨4, 3, 2, 10, 8, 5, 1, 1⟩
def addC : Cmd := ⟨1, 1, 0, 0, 0, 0, 0, 0, 0, p0⟩
def fl0 : Nat → Option (Pla × List Sea) := fun j => if j = 1 then some (p0, emptySeats p0) else none

theorem doK_begun : doK 0 noFl addC = (0, 0, fl0) := by
  unfold doK
  rw [if_neg (by decide), if_neg (by decide), if_neg (by decide)]
  simp only [noFl]
  rw [if_pos (by decide), if_pos (by decide)]
  rfl
theorem left_begun0 : leftK fl0 1 0 = (9, 0) := by decide +kernel
theorem left_begun2 : leftK fl0 1 2 = (5, 0) := by decide +kernel

/-- So many changes are left, behind so many. -/
def lft (i : Nat) : Nat := 17000000000 - i
theorem lft_succ {i : Nat} (h : i < 17000000000) : lft i = lft (i + 1) + 1 := by unfold lft; omega

def tape0 : Array Value := (⟨⟨.slice none 0 0, [], 0⟩, ⟨.slice none 0 0, [], 0⟩, ⟨.slice none 0 0, [], 0⟩, ⟨.slice none 0 0, [], 0⟩, 1099511627776, -1⟩ : TTape).cells

theorem begun_any (w : World) :
    Calls Try.prog 14 #[.pointer (some ⟨w.heap.size, 0, none⟩)] (w.alloc (.cells tape0 103)) fun e w' => ∃ kb, e = .returned (.tuple #[.pointer (some ⟨kb, 0, none⟩), .bool true]) ∧
      (∃ ow, KeepM w' ow kb 0 fl0 (lft 0) ∧ ∀ k, k < w.heap.size → ow k = 0) ∧ Mod No w w' ∧ w.heap.size ≤ kb ∧ ∀ i, i < 8 → w'.cell? ⟨kb, 22 + i, none⟩ = some (.map none) := by
  have ht : TapeH (w.alloc (.cells tape0 103)) (fun k => k = w.heap.size) w.heap.size ⟨fun _ => [], fun _ => 0, 1099511627776, -1⟩ := tape_new w 1099511627776
  have hs0 : (w.alloc (.cells tape0 103)).heap.size = w.heap.size + 1 := by simp
  have HO := hide (open_nil ht (fun k e => by rw [hs0]; omega) rfl rfl (by show ¬ (1099511627776 : Int) < 200; omega))
  have M0 := hide ((Mod.refl No w).alloc (.cells tape0 103))
  have S0 := hide hs0
  clear ht hs0
  go_enter Try.func14, Try.ntmps14
  go_wp2_with fail
  refine (unhide HO).mono ?_
  rintro e w1 ⟨kb, rfl, hx⟩
  have hne : w.heap.size ≠ kb := by have := hx.new; have := unhide S0; omega
  have hk1 := hx.keep (fun k e => by have := unhide S0; omega) (fun k => if k = kb then 1 else if k = w.heap.size then 30 else 0) (if_pos rfl) (fun k e => by rw [if_neg (by rw [e]; exact hne), if_pos e]) (fun k hk => by
    by_cases e1 : k = kb
    · exact .inl e1
    · rw [if_neg e1] at hk
      by_cases e2 : k = w.heap.size
      · exact .inr e2
      · rw [if_neg e2] at hk; exact absurd rfl hk)
  have K0 := hide (show KeepM w1 (fun k => if k = kb then 1 else if k = w.heap.size then 30 else 0) kb 0 noFl (lft 0 + 1) from ⟨_, _, hk1, rfl, rfl, Nat.zero_lt_succ _, by show (-1 : Int) < 0; decide, by show ((0 : Nat) : Int) + 60 * (lft 0 + 1 : Nat) ≤ 1099511627776; decide, by show (1099511627776 : Int) ≤ 17592186044416; decide⟩)
  have M1 := hide ((unhide M0).trans' hx.mod (fun k (e : k = w.heap.size) hl => by omega))
  have C1 := hide (show ∀ i, i < 8 → w1.cell? ⟨kb, 22 + i, none⟩ = some (.map none) from fun i hi => by
    rw [hx.has.cell, keep_far _ _ i hi]
    unfold ptS
    rw [if_neg (by omega)])
  have N1 := hide (show w.heap.size ≤ kb by have := hx.new; have := unhide S0; omega)
  have l0 := hx.has.lt
  clear hx hk1 HO hne
  go_wp2_with fail
  have HD : Calls Try.prog 26 #[.pointer (some ⟨kb, 0, none⟩), .agg #[.int .i64 1, .int .i64 1, .int .i64 0, .int .i64 0, .int .i64 0, .int .i64 0, .int .i64 0, .int .i64 0, .int .i64 0, .int .i64 4, .int .i64 3, .int .i64 2, .int .i64 10, .int .i64 8, .int .i64 5, .int .i64 1]] (w1.alloc (.cells #[.int .i64 4, .int .i64 3, .int .i64 2, .int .i64 10, .int .i64 8, .int .i64 5, .int .i64 1] 35)) fun e w' => e = .returned (.int .i64 0) ∧ KeptM (w1.alloc (.cells #[.int .i64 4, .int .i64 3, .int .i64 2, .int .i64 10, .int .i64 8, .int .i64 5, .int .i64 1] 35)) w' (fun k => if k = kb then 1 else if k = w.heap.size then 30 else 0) kb 0 fl0 (lft 0) := by
    have := do_m ((unhide K0).mod ((Mod.refl No _).alloc (.cells #[.int .i64 4, .int .i64 3, .int .i64 2, .int .i64 10, .int .i64 8, .int .i64 5, .int .i64 1] 35)) (fun _ _ x => x)) (by omega) addC
    rw [doK_begun] at this
    exact this
  refine HD.mono ?_
  rintro e w2 ⟨rfl, ⟨ow, k2, ho⟩, m2, f2⟩
  have C2 := hide (show ∀ i, i < 8 → w2.cell? ⟨kb, 22 + i, none⟩ = some (.map none) from fun i hi => by
    rw [f2 i hi]
    exact mod_c0 ((Mod.refl No w1).alloc _) ((unhide C1) i hi))
  clear f2
  have H0 : ∀ W, Mod No w2 W → Calls Try.prog 25 #[.pointer (some ⟨kb, 0, none⟩), .int .i64 1, .int .i64 0] W fun e w' => e = .returned (.tuple #[.int .i64 9, .int .i64 0]) ∧ Mod No W w' := fun W hW => by
    have := left_any (k2.mod hW (fun _ _ x => x)).toH 1 0
    rw [left_begun0] at this
    exact this
  have H2 : ∀ W, Mod No w2 W → Calls Try.prog 25 #[.pointer (some ⟨kb, 0, none⟩), .int .i64 1, .int .i64 2] W fun e w' => e = .returned (.tuple #[.int .i64 5, .int .i64 0]) ∧ Mod No W w' := fun W hW => by
    have := left_any (k2.mod hW (fun _ _ x => x)).toH 1 2
    rw [left_begun2] at this
    exact this
  have K2 := hide k2
  have OW := hide ho
  have M2 := hide (((unhide M1).alloc (.cells #[.int .i64 4, .int .i64 3, .int .i64 2, .int .i64 10, .int .i64 8, .int .i64 5, .int .i64 1] 35)).trans' m2 (fun i hi hl => by
    have hi : (if i = kb then 1 else if i = w.heap.size then 30 else 0) ≠ 0 := hi
    have := unhide N1
    rw [if_neg (by omega), if_neg (by omega)] at hi
    exact absurd rfl hi))
  have HH0 := hide H0
  have HH2 := hide H2
  have SW := hide (unhide M1).size
  clear H0 H2 k2 ho m2 HD K0
  go_wp2_with fail
  refine ((unhide HH0) _ (Mod.refl _ _)).mono ?_
  rintro e w3 ⟨rfl, m3⟩
  have M3 := hide m3
  clear m3
  go_wp2_with fail
  refine ((unhide HH2) _ (unhide M3)).mono ?_
  rintro e w4 ⟨rfl, m4⟩
  have M4 := hide ((unhide M3).trans m4)
  clear m4
  go_wp2
  go_ret2
  refine ⟨kb, rfl, ⟨ow, (unhide K2).mod (unhide M4) (fun _ _ x => x), fun k hk => ?_⟩, (unhide M2).trans (unhide M4), unhide N1, fun i hi => mod_c0 (unhide M4) ((unhide C2) i hi)⟩
  rw [(unhide OW) k (by have := unhide SW; simp; omega)]
  have := unhide N1
  rw [if_neg (by omega), if_neg (by omega)]

theorem first_any (w : World) : Calls Try.prog 16 #[] w fun e w' => ∃ cs, cs.size = 84 ∧ e = .returned (.pointer (some ⟨w.heap.size, 0, none⟩)) ∧ Has w' w.heap.size cs 104 ∧ Mod No w w' := by
  go_enter Try.func16, Try.ntmps16
  go_wp2
  go_ret
  exact ⟨_, rfl, rfl, Has.new w _ _, (Mod.refl No w).alloc _⟩
end Go.Proofs.Ythhibagcpjeihaa
/- A command is done, and the limits are kept in mind. -/
namespace Go.Proofs.Ythhibagcpjeihaa
open Go.RowKit
open Go.ChangeMaps (setBlock)
open M
set_option linter.unusedVariables false
set_option linter.unusedSimpArgs false
set_option maxRecDepth 100000
set_option maxHeartbeats 2000000

structure DoesOk (w w' : World) (ow : Nat → Nat) (kb lb : Nat) (now : Int) (fl : Nat → Option (Pla × List Sea)) (m : Nat) : Prop where
  keep : ∃ ow', KeepM w' ow' kb now fl m ∧ ∀ k, k < w.heap.size → ow' k = ow k
  lim : ∃ cs, cs.size = 84 ∧ Has w' lb cs 104
  mod : Mod (fun k => ow k ≠ 0 ∨ k = lb) w w'

theorem doK_add {now : Int} {fl : Nat → Option (Pla × List Sea)} {c : Cmd} (h : (doK now fl c).1 = 0) (hk : c.kind = 1) : 1 ≤ c.flight ∧ c.flight ≤ 20 := by
  unfold doK at h
  rw [if_neg (by omega), if_neg (by omega)] at h
  by_cases hf : 1 ≤ c.flight ∧ c.flight ≤ 20
  · exact hf
  · rw [if_pos hf] at h
    exact absurd h (by simp)

theorem does_any {w : World} {ow : Nat → Nat} {kb lb : Nat} {now : Int} {fl : Nat → Option (Pla × List Sea)} {m : Nat} (h : KeepM w ow kb now fl (m + 1)) (hn : 0 ≤ now ∧ now ≤ 4611686018427387000) (c : Cmd) (cs : Array Value) (hs : cs.size = 84) (hb : Has w lb cs 104) (hol : ow lb = 0) :
    Calls Try.prog 18 #[.pointer (some ⟨kb, 0, none⟩), .agg (cmdCells c), .pointer (some ⟨lb, 0, none⟩)] w fun e w' =>
      e = .returned (.int .i64 (doK now fl c).1) ∧ DoesOk w w' ow kb lb (doK now fl c).2.1 (doK now fl c).2.2 m := by
  have hlb := hb.lt
  have HD := hide (do_m (h.mod ((Mod.refl No w).alloc (.cells (cmdCells c) 37)) (fun _ _ x => x)) hn c)
  have HB := hide (hb.alloc (.cells (cmdCells c) 37))
  have HC := hide (Has.new w (cmdCells c) 37)
  have M0 := hide ((Mod.refl No w).alloc (.cells (cmdCells c) 37))
  have HO := hide (show ow w.heap.size = 0 from by
    by_cases e : ow w.heap.size = 0
    · exact e
    · have := h.old _ e; omega)
  have HA := hide fun (q : (doK now fl c).1 = 0) (r : c.kind = 1) => doK_add q r
  generalize doK now fl c = D at *
  obtain ⟨r, now', fl'⟩ := D
  simp only at *
  clear h hb
  unfold cmdCells at *
  go_enter Try.func18, Try.ntmps18
  go_wp2_with fail
  refine (unhide HD).mono ?_
  rintro e w2 ⟨rfl, ⟨ow', k2, ho⟩, m2⟩
  have b2 := m2.has (unhide HB) (by simp [hol])
  have c2 := m2.has (unhide HC) (by simp [unhide HO])
  have cc := c2.cell
  have M2 := hide (((unhide M0).mono (S' := fun k => ow k ≠ 0) (fun _ _ x => x.elim)).trans m2)
  have K2 := hide k2
  have HO2 := hide (fun k hk => ho k hk)
  have B2 := hide b2
  have lc2 := c2.lt
  have lb2 := b2.lt
  clear k2 ho m2 b2 c2 HD HB HC M0
  have R0 : DoesOk w w2 ow kb lb now' fl' m := ⟨⟨ow', unhide K2, fun k hk => (unhide HO2) k (by simp; omega)⟩, ⟨cs, hs, unhide B2⟩, (unhide M2).mono (fun _ _ x => .inl x)⟩
  have R0 := hide R0
  by_cases h0 : r = 0
  case neg =>
    clear K2 HO2 B2 M2 HA
    have e0 : (r == 0) = false := by simp [h0]
    go_wp2
    go_ret
    exact ⟨rfl, unhide R0⟩
  by_cases h1 : c.kind = 1
  case neg =>
    clear K2 HO2 B2 M2 HA
    have e1 : (c.kind == 1) = false := by simp [h1]
    subst h0
    go_wp2
    go_ret
    exact ⟨rfl, unhide R0⟩
  obtain ⟨f1, f2⟩ := (unhide HA) h0 h1
  obtain ⟨n, hfn⟩ : ∃ n : Nat, c.flight = (n : Int) := ⟨c.flight.toNat, by omega⟩
  subst h0
  have e1 : (c.kind == 1) = true := by simp [h1]
  rw [hfn] at cc f1 f2
  have i21 : (n : Int) < 21 := by omega
  have i0 : (0 : Int) ≤ n := by omega
  have fz := (unhide B2).frozen
  obtain ⟨v0, g0⟩ : ∃ v, w2.cell? ⟨lb, n * 4, none⟩ = some v := ⟨_, by rw [(unhide B2).cell, Array.getElem?_eq_getElem (by omega)]⟩
  obtain ⟨v1, g1⟩ : ∃ v, w2.cell? ⟨lb, n * 4 + 1, none⟩ = some v := ⟨_, by rw [(unhide B2).cell, Array.getElem?_eq_getElem (by omega)]⟩
  obtain ⟨v2, g2⟩ : ∃ v, w2.cell? ⟨lb, n * 4 + 2, none⟩ = some v := ⟨_, by rw [(unhide B2).cell, Array.getElem?_eq_getElem (by omega)]⟩
  obtain ⟨v3, g3⟩ : ∃ v, w2.cell? ⟨lb, n * 4 + 3, none⟩ = some v := ⟨_, by rw [(unhide B2).cell, Array.getElem?_eq_getElem (by omega)]⟩
  have hp : ∀ o, (fun k => ow k ≠ 0 ∨ k = lb) (⟨lb, o, none⟩ : Addr).block ∨ w.heap.size ≤ (⟨lb, o, none⟩ : Addr).block := fun o => .inl (.inr rfl)
  have hq : ∀ o, (fun k => k = lb) (⟨lb, o, none⟩ : Addr).block ∨ w2.heap.size ≤ (⟨lb, o, none⟩ : Addr).block := fun o => .inl rfl
  have ol : ow' lb = 0 := by rw [(unhide HO2) lb (by simp; omega)]; exact hol
  have R1 := hide (show DoesOk w ((((w2.setCell ⟨lb, n * 4, none⟩ (.int .i64 c.pla.l0)).setCell ⟨lb, n * 4 + 1, none⟩ (.int .i64 c.pla.l1)).setCell ⟨lb, n * 4 + 2, none⟩ (.int .i64 c.pla.l2)).setCell ⟨lb, n * 4 + 3, none⟩ (.int .i64 c.pla.l3)).drew ow kb lb now' fl' m from
    ⟨⟨ow', (unhide K2).mod (((((Mod.refl (fun k => k = lb) w2).setCell (hq _) _).setCell (hq _) _).setCell (hq _) _).setCell (hq _) _).drew (fun k hk e => by subst e; exact hk ol), fun k hk => (unhide HO2) k (by simp; omega)⟩,
     ⟨_, by simpa using hs, ((((((unhide B2).set (n * 4) _).set (n * 4 + 1) _).set (n * 4 + 2) _).set (n * 4 + 3) _)).drew⟩,
     (((((((unhide M2).mono (fun _ _ x => .inl x)).setCell (hp _) _).setCell (hp _) _).setCell (hp _) _).setCell (hp _) _)).drew⟩)
  clear K2 HO2 B2 M2 HA R0
  go_wp2_with fail
  go_region
  all_goals go_wp2
  all_goals go_ret
  all_goals exact ⟨rfl, unhide R1⟩
end Go.Proofs.Ythhibagcpjeihaa
