import Derived.Test.YtlcbemcamdafjaaGreatCdoesLaw5ArgsG
/- A script of calls that is handed in: what its cells hold. -/
namespace Go.Proofs.YtlcbemcamdafjaaGreat
open Go.RowKit
set_option linter.unusedVariables false
set_option linter.unusedSimpArgs false
set_option maxRecDepth 100000

/-- A step of a script: of its cells the first are numbers. -/
structure OpS (S : Array Value) : Prop where
  size : S.size = 25
  ints : ∀ i, i < 23 → ∀ v, S[i]? = some v → I64 v
  c23 : ∀ v, S[23]? = some v → v.oneCell' = true
  c24 : ∀ v, S[24]? = some v → v.oneCell' = true

/-- A script in memory. -/
def Ops (w : World) (a : Option Addr) (n : Nat) : Prop := ∀ i, i < n → ∃ b off S, a = some ⟨b, off, none⟩ ∧ OpS S ∧ w.rangeAt b (off + i * 25) S.toList

theorem mod_cell0 {w w' : World} (h : Mod No w w') {a : Addr} {v : Value} (hc : w.cell? a = some v) : w'.cell? a = some v := by
  have hl := World.block_lt_of_cell? w a hc
  unfold World.cell? at hc ⊢
  rw [h.block _ hl (fun x => x)]
  exact hc
theorem mod_range0 {w w' : World} (h : Mod No w w') {b o : Nat} {l : List Value} (hr : w.rangeAt b o l) : w'.rangeAt b o l := fun j v hv => mod_cell0 h (hr j v hv)
theorem Ops.mod {w w' : World} {a : Option Addr} {n : Nat} (h : Ops w a n) (hm : Mod No w w') : Ops w' a n := fun i hi => by
  obtain ⟨b, off, S, h1, h2, h3⟩ := h i hi
  exact ⟨b, off, S, h1, h2, mod_range0 hm h3⟩

theorem OpS.one {S : Array Value} (h : OpS S) : ∀ (i : Nat) (v : Value), S[i]? = some v → v.oneCell' = true := fun i v hv => by
  have hi : i < 25 := by
    have := (Array.getElem?_eq_some_iff.1 hv).1
    rw [h.size] at this
    exact this
  by_cases h1 : i < 23
  · obtain ⟨x, rfl, _⟩ := h.ints i h1 v hv
    rfl
  · by_cases h2 : i = 23
    · subst h2; exact h.c23 v hv
    · obtain rfl : i = 24 := by omega
      exact h.c24 v hv
theorem OpS.all {S : Array Value} (h : OpS S) : S.all (·.oneCell') = true := by
  rw [Array.all_eq_true]
  intro i hi
  exact h.one i _ (Array.getElem?_eq_getElem hi)

theorem OpS.lits {S : Array Value} (h : OpS S) : ∃ (x0 x1 x2 x3 x4 x5 x6 x7 x8 x9 x10 x11 x12 x13 x14 x15 x16 x17 x18 x19 x20 x21 x22 : Int) (v23 v24 : Value),
    S = #[.int .i64 x0, .int .i64 x1, .int .i64 x2, .int .i64 x3, .int .i64 x4, .int .i64 x5, .int .i64 x6, .int .i64 x7, .int .i64 x8, .int .i64 x9, .int .i64 x10, .int .i64 x11, .int .i64 x12, .int .i64 x13, .int .i64 x14, .int .i64 x15, .int .i64 x16, .int .i64 x17, .int .i64 x18, .int .i64 x19, .int .i64 x20, .int .i64 x21, .int .i64 x22, v23, v24] ∧
    (-9223372036854775808 ≤ x1 ∧ x1 ≤ 9223372036854775807) ∧ (-9223372036854775808 ≤ x12 ∧ x12 ≤ 9223372036854775807) := by
  have hs := h.size
  have hx : ∀ i, i < 23 → ∃ x : Int, S[i]? = some (.int .i64 x) ∧ -9223372036854775808 ≤ x ∧ x ≤ 9223372036854775807 := fun i hi => by
    have e : S[i]? = some (S[i]'(by omega)) := Array.getElem?_eq_getElem (by omega)
    obtain ⟨x, hx, hr⟩ := h.ints i hi _ e
    exact ⟨x, by rw [e, hx], hr⟩
  have hv : ∀ i, i < 25 → ∃ v, S[i]? = some v := fun i hi => ⟨_, Array.getElem?_eq_getElem (by omega)⟩
  obtain ⟨x0, q0, r0⟩ := hx 0 (by omega)
  obtain ⟨x1, q1, r1⟩ := hx 1 (by omega)
  obtain ⟨x2, q2, r2⟩ := hx 2 (by omega)
  obtain ⟨x3, q3, r3⟩ := hx 3 (by omega)
  obtain ⟨x4, q4, r4⟩ := hx 4 (by omega)
  obtain ⟨x5, q5, r5⟩ := hx 5 (by omega)
  obtain ⟨x6, q6, r6⟩ := hx 6 (by omega)
  obtain ⟨x7, q7, r7⟩ := hx 7 (by omega)
  obtain ⟨x8, q8, r8⟩ := hx 8 (by omega)
  obtain ⟨x9, q9, r9⟩ := hx 9 (by omega)
  obtain ⟨x10, q10, r10⟩ := hx 10 (by omega)
  obtain ⟨x11, q11, r11⟩ := hx 11 (by omega)
  obtain ⟨x12, q12, r12⟩ := hx 12 (by omega)
  obtain ⟨x13, q13, r13⟩ := hx 13 (by omega)
  obtain ⟨x14, q14, r14⟩ := hx 14 (by omega)
  obtain ⟨x15, q15, r15⟩ := hx 15 (by omega)
  obtain ⟨x16, q16, r16⟩ := hx 16 (by omega)
  obtain ⟨x17, q17, r17⟩ := hx 17 (by omega)
  obtain ⟨x18, q18, r18⟩ := hx 18 (by omega)
  obtain ⟨x19, q19, r19⟩ := hx 19 (by omega)
  obtain ⟨x20, q20, r20⟩ := hx 20 (by omega)
  obtain ⟨x21, q21, r21⟩ := hx 21 (by omega)
  obtain ⟨x22, q22, r22⟩ := hx 22 (by omega)
  obtain ⟨v23, q23⟩ := hv 23 (by omega)
  obtain ⟨v24, q24⟩ := hv 24 (by omega)
  refine ⟨x0, x1, x2, x3, x4, x5, x6, x7, x8, x9, x10, x11, x12, x13, x14, x15, x16, x17, x18, x19, x20, x21, x22, v23, v24, ?_, r1, r12⟩
  refine Array.ext (by rw [hs]; rfl) (fun i h1 h2 => ?_)
  have hi : i < 25 := by omega
  rw [hs] at h1
  have : i = 0 ∨ i = 1 ∨ i = 2 ∨ i = 3 ∨ i = 4 ∨ i = 5 ∨ i = 6 ∨ i = 7 ∨ i = 8 ∨ i = 9 ∨ i = 10 ∨ i = 11 ∨ i = 12 ∨ i = 13 ∨ i = 14 ∨ i = 15 ∨ i = 16 ∨ i = 17 ∨ i = 18 ∨ i = 19 ∨ i = 20 ∨ i = 21 ∨ i = 22 ∨ i = 23 ∨ i = 24 := by omega
  rcases this with rfl | rfl | rfl | rfl | rfl | rfl | rfl | rfl | rfl | rfl | rfl | rfl | rfl | rfl | rfl | rfl | rfl | rfl | rfl | rfl | rfl | rfl | rfl | rfl | rfl
  · rw [Array.getElem?_eq_getElem (by omega)] at q0; exact Option.some.inj q0
  · rw [Array.getElem?_eq_getElem (by omega)] at q1; exact Option.some.inj q1
  · rw [Array.getElem?_eq_getElem (by omega)] at q2; exact Option.some.inj q2
  · rw [Array.getElem?_eq_getElem (by omega)] at q3; exact Option.some.inj q3
  · rw [Array.getElem?_eq_getElem (by omega)] at q4; exact Option.some.inj q4
  · rw [Array.getElem?_eq_getElem (by omega)] at q5; exact Option.some.inj q5
  · rw [Array.getElem?_eq_getElem (by omega)] at q6; exact Option.some.inj q6
  · rw [Array.getElem?_eq_getElem (by omega)] at q7; exact Option.some.inj q7
  · rw [Array.getElem?_eq_getElem (by omega)] at q8; exact Option.some.inj q8
  · rw [Array.getElem?_eq_getElem (by omega)] at q9; exact Option.some.inj q9
  · rw [Array.getElem?_eq_getElem (by omega)] at q10; exact Option.some.inj q10
  · rw [Array.getElem?_eq_getElem (by omega)] at q11; exact Option.some.inj q11
  · rw [Array.getElem?_eq_getElem (by omega)] at q12; exact Option.some.inj q12
  · rw [Array.getElem?_eq_getElem (by omega)] at q13; exact Option.some.inj q13
  · rw [Array.getElem?_eq_getElem (by omega)] at q14; exact Option.some.inj q14
  · rw [Array.getElem?_eq_getElem (by omega)] at q15; exact Option.some.inj q15
  · rw [Array.getElem?_eq_getElem (by omega)] at q16; exact Option.some.inj q16
  · rw [Array.getElem?_eq_getElem (by omega)] at q17; exact Option.some.inj q17
  · rw [Array.getElem?_eq_getElem (by omega)] at q18; exact Option.some.inj q18
  · rw [Array.getElem?_eq_getElem (by omega)] at q19; exact Option.some.inj q19
  · rw [Array.getElem?_eq_getElem (by omega)] at q20; exact Option.some.inj q20
  · rw [Array.getElem?_eq_getElem (by omega)] at q21; exact Option.some.inj q21
  · rw [Array.getElem?_eq_getElem (by omega)] at q22; exact Option.some.inj q22
  · rw [Array.getElem?_eq_getElem (by omega)] at q23; exact Option.some.inj q23
  · rw [Array.getElem?_eq_getElem (by omega)] at q24; exact Option.some.inj q24

section
variable {H : Type} {enc : TypeId × Value → H} {w : World} {base : Nat} {spare : Nat → Bool} {held : Bool}

theorem allI43 : AllI enc w base spare held 43 3 := allI_struct Tryz.underlying43 3 (by kernel_rfl) fun i hi => by
  have : i = 0 ∨ i = 1 ∨ i = 2 := by omega
  rcases this with rfl | rfl | rfl
  · exact ⟨0, _, 2, rfl, by decide, by decide, allI30⟩
  · exact ⟨0, _, 2, rfl, by decide, by decide, allI30⟩
  · exact ⟨1, _, 1, rfl, by decide, by decide, allI3⟩

theorem cellsOp : Tryz.prog.cellsOf 45 = 25 := by kernel_rfl
theorem op_ints {fuel : Nat} {cs : List Value} {x : DataW H × List MemPlace} (h : DataW.trod enc Tryz.prog w base spare held fuel 45 cs = some x) : cs.length = 25 ∧ ∀ i, i < 23 → ∀ v, cs[i]? = some v → I64 v := by
  have cov := fun (i : Nat) (hi : i < 23) => show ∃ (j : Nat) (f : Field) (k : Nat), (#[⟨ "Kind", 3, 0, false, "", "", 0⟩, ⟨ "A", 3, 1, false, "", "", 8⟩, ⟨ "B", 3, 2, false, "", "", 16⟩, ⟨ "C", 3, 3, false, "", "", 24⟩, ⟨ "Do", 41, 4, false, "", "", 32⟩, ⟨ "From", 43, 20, false, "", "", 160⟩, ⟨ "Keep", 25, 23, false, "", "", 184⟩, ⟨ "Spoil", 5, 24, false, "", "", 208⟩] : Array Field)[j]? = some f ∧ f.offset ≤ i ∧ i < f.offset + k ∧ AllI enc w base spare held f.type k from by
    by_cases h : i < 4
    · have : i = 0 ∨ i = 1 ∨ i = 2 ∨ i = 3 := by omega
      rcases this with rfl | rfl | rfl | rfl
      · exact ⟨0, _, 1, rfl, by decide, by decide, allI3⟩
      · exact ⟨1, _, 1, rfl, by decide, by decide, allI3⟩
      · exact ⟨2, _, 1, rfl, by decide, by decide, allI3⟩
      · exact ⟨3, _, 1, rfl, by decide, by decide, allI3⟩
    · by_cases h' : i < 20
      · exact ⟨4, _, 16, rfl, (by show 4 ≤ i; omega), (by show i < 4 + 16; omega), allI44⟩
      · exact ⟨5, _, 3, rfl, (by show 20 ≤ i; omega), (by show i < 20 + 3; omega), allI43⟩
  refine ⟨?_, fun i hi => (ints_struct Tryz.underlying45 h i (cov i hi)).2⟩
  have := (ints_struct Tryz.underlying45 h 0 (cov 0 (by omega))).1
  rw [cellsOp] at this
  exact this
theorem op_last {fuel : Nat} {cs : List Value} {x : DataW H × List MemPlace} (h : DataW.trod enc Tryz.prog w base spare held fuel 45 cs = some x) : (∀ v, cs[23]? = some v → v.oneCell' = true) ∧ ∀ v, cs[24]? = some v → v.oneCell' = true := by
  obtain ⟨xs, n, _, _, hl, hx, hf⟩ := DataW.trod_struct Tryz.underlying45 h
  have hsz : xs.length = 8 := hx
  have k6 := hf 6 _ rfl
  have k7 := hf 7 _ rfl
  rw [List.getElem?_eq_getElem (by omega)] at k6 k7
  have e6 : Tryz.prog.cellsOf 25 = 1 := by kernel_rfl
  have e7 : Tryz.prog.cellsOf 5 = 1 := by kernel_rfl
  constructor
  · intro v hv
    have hd : ((cs.drop 23).take 1) = [v] := by
      have h23 : 23 < cs.length := (List.getElem?_eq_some_iff.1 hv).1
      rw [List.drop_eq_getElem_cons h23]
      rw [List.getElem?_eq_getElem h23] at hv
      simp [Option.some.inj hv]
    have k6 : DataW.trod enc Tryz.prog w base spare held n 25 ((cs.drop 23).take (Tryz.prog.cellsOf 25)) = some (xs[6]) := k6
    rw [e6, hd] at k6
    rcases DataW.trod_slice Tryz.underlying25 k6 with ⟨hv, _⟩ | ⟨a, len, cap, elems, rest, n', _, hv, _⟩
    · simp [Value.cells] at hv
      rw [hv]; rfl
    · simp [Value.cells] at hv
      rw [hv]; rfl
  · intro v hv
    have hd : ((cs.drop 24).take 1) = [v] := by
      have h24 : 24 < cs.length := (List.getElem?_eq_some_iff.1 hv).1
      rw [List.drop_eq_getElem_cons h24]
      rw [List.getElem?_eq_getElem h24] at hv
      simp [Option.some.inj hv]
    have k7 : DataW.trod enc Tryz.prog w base spare held n 5 ((cs.drop 24).take (Tryz.prog.cellsOf 5)) = some (xs[7]) := k7
    rw [e7, hd] at k7
    obtain ⟨m, hm, _, _⟩ := DataW.trod_int Tryz.underlying5 k7
    simp at hm
    rw [hm]; rfl
end

section
variable {H : Type} {enc : TypeId × Value → H} {w : World} {spare : Nat → Bool} {held : Bool}
theorem one_cell0 {v x : Value} (hv : v.cells.toList = [x]) (hs : ∃ a len cap, v = .slice a len cap) : v = x := by
  obtain ⟨a, len, cap, rfl⟩ := hs
  simpa [Value.cells] using hv

theorem open_ops {v : Value} {d : DataW H} {ps : List MemPlace} (hs : ∃ a len cap, v = .slice a len cap) (h : DataW.Trod enc Tryz.prog w 0 spare held 22 v d ps) :
    ∃ a n cap, v = .slice a n cap ∧ Ops w a n ∧ (d = .nil ∧ n = 0 ∨ ∃ es sp, d = .slice es sp ∧ es.length = n) := by
  obtain ⟨fuel, h⟩ := h
  rcases DataW.trod_slice Tryz.underlying22 h with ⟨hv, hx⟩ | ⟨a, len, cap, elems, rest, n, _, hv, hx, hb, hl, hm, hlen, hel, hsp, hns⟩
  · refine ⟨none, 0, 0, ?_, fun i hi => absurd hi (Nat.not_lt_zero _), .inl ⟨congrArg Prod.fst hx, rfl⟩⟩
    exact one_cell0 hv hs
  · refine ⟨some a, len, cap, one_cell0 hv hs, fun i hi => ?_, .inr ⟨_, _, congrArg Prod.fst hx, by simpa using hlen⟩⟩
    have key := hel i hi
    rw [List.getElem?_eq_getElem (by omega), cellsOp] at key
    obtain ⟨cs, h1, h2⟩ := Option.bind_eq_some_iff.1 key
    obtain ⟨_, hlen2, hc⟩ := World.cells?_some h1
    obtain ⟨h3, h4⟩ := op_ints h2
    obtain ⟨h5, h6⟩ := op_last h2
    obtain ⟨b, off, sp⟩ := a
    have hspot : sp = none := by
      have key0 := hel 0 (by omega)
      rw [List.getElem?_eq_getElem (by omega), cellsOp] at key0
      obtain ⟨cs0, k1, k2⟩ := Option.bind_eq_some_iff.1 key0
      obtain ⟨_, l0, c0⟩ := World.cells?_some k1
      have h0 := c0 0 (by omega)
      rw [List.getElem?_eq_getElem (by omega)] at h0
      have e0 : ((⟨b, off, sp⟩ : Addr).add (0 * 25)).add 0 = ⟨b, off, sp⟩ := by simp [Addr.add]
      rw [e0] at h0
      unfold World.cell? at h0
      cases sp with
      | none => rfl
      | some q =>
        exfalso
        simp at h0
        split at h0 <;> simp at h0
    subst hspot
    refine ⟨b, off, cs.toArray, rfl, ⟨by simpa using h3, fun j hj v hv => h4 j hj v (by simpa using hv), fun v hv => h5 v (by simpa using hv), fun v hv => h6 v (by simpa using hv)⟩, fun j v hj => ?_⟩
    have hj' : cs[j]? = some v := by simpa using hj
    have hjl := (List.getElem?_eq_some_iff.1 hj').1
    have := hc j (by omega)
    rw [Addr.add_mid, Addr.add_mid, hj'] at this
    exact this
end
end Go.Proofs.YtlcbemcamdafjaaGreat
