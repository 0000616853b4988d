import Derived.Test.YtlcbemcamdafjaaCbackTame6Args
import Derived.Test.YtlcbemcamdafjaaCbackBack1Tame1
/- Whatever script comes in, each of its steps can be tamed. -/
namespace Go.Proofs.Ytlcbemcamdafjaa
open Go.RowKit
open M
set_option linter.unusedVariables false
set_option maxRecDepth 100000

theorem Ints.cmd {cs : Array Value} (h : Ints cs 16) (hs : cs.size = 16) : ∃ c : Cmd, cs = cmdCells c := by
  obtain ⟨z0, z1, z2, z3, z4, z5, z6, z7, z8, z9, z10, z11, z12, z13, z14, z15, rfl⟩ := h.lits hs
  exact ⟨⟨z0, z1, z2, z3, z4, z5, z6, z7, z8, ⟨z9, z10, z11, z12, z13, z14, z15, 0⟩⟩, rfl⟩

theorem tamed_step (S : Array Value) (hs : S.size = 21) (hi : ∀ i, i < 18 → ∀ v, S[i]? = some v → I64 v) (w : World) :
    Calls Try.prog 15 #[.agg S] w fun e w' => ∃ c : Cmd, e = .returned (.agg (cmdCells c)) ∧ Mod No w w' := by
  have hx : ∀ i, i < 18 → ∃ x : Int, S[i]? = some (.int .i64 x) ∧ -9223372036854775808 ≤ x ∧ x ≤ 9223372036854775807 := fun i h => by
    have e : S[i]? = some (S[i]'(by omega)) := Array.getElem?_eq_getElem (by omega)
    obtain ⟨x, hx, hr⟩ := hi i h _ e
    exact ⟨x, by rw [e, hx], hr⟩
  obtain ⟨x0, q0, r0⟩ := hx 0 (by omega)
  obtain ⟨x1, q1, r1⟩ := hx 1 (by omega)
  obtain ⟨x2, q2, r2⟩ := hx 2 (by omega)
  obtain ⟨x3, q3, r3⟩ := hx 3 (by omega)
  obtain ⟨x4, q4, r4⟩ := hx 4 (by omega)
  obtain ⟨x5, q5, r5⟩ := hx 5 (by omega)
  obtain ⟨x6, q6, r6⟩ := hx 6 (by omega)
  obtain ⟨x7, q7, r7⟩ := hx 7 (by omega)
  obtain ⟨x8, q8, r8⟩ := hx 8 (by omega)
  obtain ⟨x9, q9, r9⟩ := hx 9 (by omega)
  obtain ⟨x10, q10, r10⟩ := hx 10 (by omega)
  obtain ⟨x11, q11, r11⟩ := hx 11 (by omega)
  obtain ⟨x12, q12, r12⟩ := hx 12 (by omega)
  obtain ⟨x13, q13, r13⟩ := hx 13 (by omega)
  obtain ⟨x14, q14, r14⟩ := hx 14 (by omega)
  obtain ⟨x15, q15, r15⟩ := hx 15 (by omega)
  obtain ⟨k, qk, rk⟩ := hx 16 (by omega)
  obtain ⟨fu, qf, rf⟩ := hx 17 (by omega)
  obtain ⟨v18, q18⟩ : ∃ v, S[18]? = some v := ⟨_, Array.getElem?_eq_getElem (by omega)⟩
  obtain ⟨v19, q19⟩ : ∃ v, S[19]? = some v := ⟨_, Array.getElem?_eq_getElem (by omega)⟩
  obtain ⟨v20, q20⟩ : ∃ v, S[20]? = some v := ⟨_, Array.getElem?_eq_getElem (by omega)⟩
  have hS : S = #[.int .i64 x0, .int .i64 x1, .int .i64 x2, .int .i64 x3, .int .i64 x4, .int .i64 x5, .int .i64 x6, .int .i64 x7, .int .i64 x8, .int .i64 x9, .int .i64 x10, .int .i64 x11, .int .i64 x12, .int .i64 x13, .int .i64 x14, .int .i64 x15, .int .i64 k, .int .i64 fu, v18, v19, v20] := by
    refine Array.ext (by rw [hs]; rfl) (fun i h1 h2 => ?_)
    have : i = 0 ∨ i = 1 ∨ i = 2 ∨ i = 3 ∨ i = 4 ∨ i = 5 ∨ i = 6 ∨ i = 7 ∨ i = 8 ∨ i = 9 ∨ i = 10 ∨ i = 11 ∨ i = 12 ∨ i = 13 ∨ i = 14 ∨ i = 15 ∨ i = 16 ∨ i = 17 ∨ i = 18 ∨ i = 19 ∨ i = 20 := by omega
    rcases this with rfl | rfl | rfl | rfl | rfl | rfl | rfl | rfl | rfl | rfl | rfl | rfl | rfl | rfl | rfl | rfl | rfl | rfl | rfl | rfl | rfl
    · rw [Array.getElem?_eq_getElem h1] at q0; exact Option.some.inj q0
    · rw [Array.getElem?_eq_getElem h1] at q1; exact Option.some.inj q1
    · rw [Array.getElem?_eq_getElem h1] at q2; exact Option.some.inj q2
    · rw [Array.getElem?_eq_getElem h1] at q3; exact Option.some.inj q3
    · rw [Array.getElem?_eq_getElem h1] at q4; exact Option.some.inj q4
    · rw [Array.getElem?_eq_getElem h1] at q5; exact Option.some.inj q5
    · rw [Array.getElem?_eq_getElem h1] at q6; exact Option.some.inj q6
    · rw [Array.getElem?_eq_getElem h1] at q7; exact Option.some.inj q7
    · rw [Array.getElem?_eq_getElem h1] at q8; exact Option.some.inj q8
    · rw [Array.getElem?_eq_getElem h1] at q9; exact Option.some.inj q9
    · rw [Array.getElem?_eq_getElem h1] at q10; exact Option.some.inj q10
    · rw [Array.getElem?_eq_getElem h1] at q11; exact Option.some.inj q11
    · rw [Array.getElem?_eq_getElem h1] at q12; exact Option.some.inj q12
    · rw [Array.getElem?_eq_getElem h1] at q13; exact Option.some.inj q13
    · rw [Array.getElem?_eq_getElem h1] at q14; exact Option.some.inj q14
    · rw [Array.getElem?_eq_getElem h1] at q15; exact Option.some.inj q15
    · rw [Array.getElem?_eq_getElem h1] at qk; exact Option.some.inj qk
    · rw [Array.getElem?_eq_getElem h1] at qf; exact Option.some.inj qf
    · rw [Array.getElem?_eq_getElem h1] at q18; exact Option.some.inj q18
    · rw [Array.getElem?_eq_getElem h1] at q19; exact Option.some.inj q19
    · rw [Array.getElem?_eq_getElem h1] at q20; exact Option.some.inj q20
  clear hi hx hs
  subst hS
  refine (tamed_any x0 x1 x2 x3 x4 x5 x6 x7 x8 x9 x10 x11 x12 x13 x14 x15 k fu _ _ _ rk (fun i hi => ?_) w).mono ?_
  · have : i = 0 ∨ i = 1 ∨ i = 2 ∨ i = 3 ∨ i = 4 ∨ i = 5 ∨ i = 6 ∨ i = 7 ∨ i = 8 ∨ i = 9 ∨ i = 10 ∨ i = 11 ∨ i = 12 ∨ i = 13 ∨ i = 14 ∨ i = 15 := by omega
    rcases this with rfl | rfl | rfl | rfl | rfl | rfl | rfl | rfl | rfl | rfl | rfl | rfl | rfl | rfl | rfl | rfl
    · exact ⟨_, rfl, r0⟩
    · exact ⟨_, rfl, r1⟩
    · exact ⟨_, rfl, r2⟩
    · exact ⟨_, rfl, r3⟩
    · exact ⟨_, rfl, r4⟩
    · exact ⟨_, rfl, r5⟩
    · exact ⟨_, rfl, r6⟩
    · exact ⟨_, rfl, r7⟩
    · exact ⟨_, rfl, r8⟩
    · exact ⟨_, rfl, r9⟩
    · exact ⟨_, rfl, r10⟩
    · exact ⟨_, rfl, r11⟩
    · exact ⟨_, rfl, r12⟩
    · exact ⟨_, rfl, r13⟩
    · exact ⟨_, rfl, r14⟩
    · exact ⟨_, rfl, r15⟩
  · rintro e w' ⟨cs, rfl, h1, h2, h3⟩
    obtain ⟨c, rfl⟩ := h2.cmd h1
    exact ⟨c, rfl, h3⟩

section
variable {H : Type} {enc : TypeId × Value → H} {w : World} {spare : Nat → Bool} {held : Bool}
/-- A slice of steps that is read as data is a script. -/
theorem one_cell {v x : Value} (hv : v.cells.toList = [x]) (hs : ∃ a len cap, v = .slice a len cap) : v = x := by
  obtain ⟨a, len, cap, rfl⟩ := hs
  simpa [Value.cells] using hv

theorem open_script {v : Value} {d : DataW H} {ps : List MemPlace} (hs : ∃ a len cap, v = .slice a len cap) (h : DataW.Trod enc Try.prog w 0 spare held 23 v d ps) :
    ∃ a n cap, v = .slice a n cap ∧ Script w a n ∧ (d = .nil ∧ n = 0 ∨ ∃ es sp, d = .slice es sp ∧ es.length = n) := by
  obtain ⟨fuel, h⟩ := h
  rcases DataW.trod_slice Try.underlying23 h with ⟨hv, hx⟩ | ⟨a, len, cap, elems, rest, n, _, hv, hx, hb, hl, hm, hlen, hel, hsp, hns⟩
  · refine ⟨none, 0, 0, ?_, fun i hi => absurd hi (Nat.not_lt_zero _), .inl ⟨congrArg Prod.fst hx, rfl⟩⟩
    exact one_cell hv hs
  · refine ⟨some a, len, cap, one_cell hv hs, fun i hi => ?_, .inr ⟨_, _, congrArg Prod.fst hx, by simpa using hlen⟩⟩
    have key := hel i hi
    rw [List.getElem?_eq_getElem (by omega), cells47] at key
    obtain ⟨cs, h1, h2⟩ := Option.bind_eq_some_iff.1 key
    obtain ⟨_, hlen2, hc⟩ := World.cells?_some h1
    obtain ⟨h3, h4⟩ := step_ints h2
    obtain ⟨b, off, sp⟩ := a
    have hspot : sp = none := by
      have key0 := hel 0 (by omega)
      rw [List.getElem?_eq_getElem (by omega), cells47] at key0
      obtain ⟨cs0, k1, k2⟩ := Option.bind_eq_some_iff.1 key0
      obtain ⟨_, l0, c0⟩ := World.cells?_some k1
      have h0 := c0 0 (by omega)
      rw [List.getElem?_eq_getElem (by omega)] at h0
      have e0 : ((⟨b, off, sp⟩ : Addr).add (0 * 21)).add 0 = ⟨b, off, sp⟩ := by simp [Addr.add]
      rw [e0] at h0
      unfold World.cell? at h0
      cases sp with
      | none => rfl
      | some q =>
        exfalso
        simp at h0
        split at h0 <;> simp at h0
    subst hspot
    refine ⟨b, off, cs.toArray, rfl, by simpa using h3, fun j v hj => ?_, fun W => tamed_step _ (by simpa using h3) (fun j hj v hv => h4 j hj v (by simpa using hv)) W⟩
    have hj' : cs[j]? = some v := by simpa using hj
    have hjl := (List.getElem?_eq_some_iff.1 hj').1
    have := hc j (by omega)
    rw [Addr.add_mid, Addr.add_mid, hj'] at this
    exact this
end
end Go.Proofs.Ytlcbemcamdafjaa
