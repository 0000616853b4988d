import Derived.Test.YtlcbemcamdafjaaCbackBackM
import Derived.Test.YtlcbemcamdafjaaCbackSwap1Tape2
import Derived.Test.YtlcbemcamdafjaaCbackBaseMaps
/- Steps, one behind the other: what stays so. -/
namespace Go.Proofs.Ytlcbemcamdafjaa
open Go.RowKit
open M
set_option linter.unusedVariables false
set_option linter.unusedSimpArgs false
set_option maxRecDepth 100000

theorem doK_keeps {now : Int} {fl : Nat → Option (Pla × List Sea)} {p : Pla} {l : List Sea} (h : fl 1 = some (p, l)) (c : Cmd) :
    (∃ p' l', (doK now fl c).2.2 1 = some (p', l')) ∧ now ≤ (doK now fl c).2.1 ∧ (doK now fl c).2.1 ≤ now + 100 := by
  unfold doK
  split
  · exact ⟨⟨p, l, h⟩, by simp, by simp; omega⟩
  split
  · split
    · exact ⟨⟨tickP (now + c.time) p l, tickSeats (now + c.time) l, by simp [h, tickF]⟩, by simp; omega, by simp; omega⟩
    · exact ⟨⟨p, l, h⟩, by simp, by simp; omega⟩
  split
  · exact ⟨⟨p, l, h⟩, by simp, by simp; omega⟩
  rename_i hf
  have hf : 1 ≤ c.flight ∧ c.flight ≤ 20 := by simpa using hf
  cases hfl : fl c.flight.toNat with
  | none =>
    simp only
    have hne : (1 : Nat) ≠ c.flight.toNat := by intro e; rw [← e, h] at hfl; cases hfl
    split
    · split
      · exact ⟨⟨p, l, by simp [hne, h]⟩, by simp, by simp; omega⟩
      · exact ⟨⟨p, l, h⟩, by simp, by simp; omega⟩
    · exact ⟨⟨p, l, h⟩, by simp, by simp; omega⟩
  | some x =>
    simp only
    split
    · exact ⟨⟨p, l, h⟩, by simp, by simp; omega⟩
    · split
      · by_cases e : (1 : Nat) = c.flight.toNat
        · rw [← e, h] at hfl
          cases hfl
          exact ⟨⟨planNew p c, seatNew p l c, by simp [← e]⟩, by simp, by simp; omega⟩
        · exact ⟨⟨p, l, by simp [e, h]⟩, by simp, by simp; omega⟩
      · exact ⟨⟨p, l, h⟩, by simp, by simp; omega⟩

/-- What stays so while steps are done: from the world w on, whose last block is the box of a place. -/
structure BackI (w wr : World) (kb lb : Nat) (i : Nat) : Prop where
  keep : ∃ ow now fl p l, KeepH wr ow kb now fl ∧ fl 1 = some (p, l) ∧ 0 ≤ now ∧ now ≤ 100 * (i : Int) ∧ ow lb = 0 ∧ ∀ k, k < w.heap.size → ow k = 0
  lim : ∃ cs : Array Value, cs.size = 84 ∧ Has wr lb cs 97
  mod : Mod No w wr
  lbn : w.heap.size ≤ lb

theorem BackI.step {w wr : World} {kb lb i : Nat} (h : BackI w wr kb lb i) (hi : i ≤ 1099511627776) (W : World) (hW : Mod No wr W) (c : Cmd) :
    Calls Try.prog 16 #[.pointer (some ⟨kb, 0, none⟩), .agg (cmdCells c), .pointer (some ⟨lb, 0, none⟩)] W fun e w' => (∃ x, e = .returned (.int .i64 x)) ∧ BackI w w' kb lb (i + 1) := by
  obtain ⟨ow, now, fl, p, l, k1, k2, k3, k4, k5, k6⟩ := h.keep
  obtain ⟨cs, s1, s2⟩ := h.lim
  refine (does_any (k1.mod hW (fun _ _ x => x)) ⟨k3, by omega⟩ c cs s1 (hW.has s2 (fun x => x)) k5).mono ?_
  rintro e w' ⟨rfl, ⟨ow', q1, q2⟩, ⟨cs', t1, t2⟩, hm⟩
  obtain ⟨⟨p', l', e1⟩, e2, e3⟩ := doK_keeps (now := now) k2 c
  have sz : w.heap.size ≤ W.heap.size := Nat.le_trans h.mod.size hW.size
  have slb : lb < W.heap.size := Nat.lt_of_lt_of_le s2.lt hW.size
  refine ⟨⟨_, rfl⟩, ⟨ow', _, _, p', l', q1, e1, by omega, by omega, by rw [q2 lb slb]; exact k5, fun k hk => by rw [q2 k (by omega)]; exact k6 k hk⟩, ⟨cs', t1, t2⟩, ?_, h.lbn⟩
  refine (h.mod.trans hW).trans' hm (fun j hj hl => ?_)
  rcases hj with hj | hj
  · exact hj (k6 j hl)
  · have := h.lbn
    omega

theorem BackI.start {w W w' : World} {ow : Nat → Nat} {kb : Nat} (h : KeepH W ow kb 0 fl0) (ho : ∀ k, k < w.heap.size → ow k = 0) (hW : Mod No w W) (hm : Mod No W w') (cs : Array Value) (hs : cs.size = 84) (hb : Has w' W.heap.size cs 97) : BackI w w' kb W.heap.size 0 := by
  refine ⟨⟨ow, 0, fl0, _, _, h.mod hm (fun _ _ x => x), rfl, by omega, by simp, ?_, ho⟩, ⟨cs, hs, hb⟩, hW.trans hm, hW.size⟩
  obtain ⟨pt, hx⟩ := h
  by_cases e : ow W.heap.size = 0
  · exact e
  · have := hx.old _ e; omega

/-- A script in memory: each of its steps can be tamed. -/
def Script (w : World) (a : Option Addr) (n : Nat) : Prop :=
  ∀ i, i < n → ∃ b off S, a = some ⟨b, off, none⟩ ∧ S.size = 21 ∧ w.rangeAt b (off + i * 21) S.toList ∧ ∀ W, Calls Try.prog 15 #[.agg S] W fun e w' => ∃ c : Cmd, e = .returned (.agg (cmdCells c)) ∧ Mod No W w'

theorem Mod.cell {w w' : World} (h : Mod No w w') {a : Addr} {v : Value} (hc : w.cell? a = some v) : w'.cell? a = some v := by
  have hl := World.block_lt_of_cell? w a hc
  unfold World.cell? at hc ⊢
  rw [h.block _ hl (fun x => x)]
  exact hc

theorem Mod.range {w w' : World} (h : Mod No w w') {b o : Nat} {l : List Value} (hr : w.rangeAt b o l) : w'.rangeAt b o l := fun j v hv => h.cell (hr j v hv)

theorem Script.mod {w w' : World} {a : Option Addr} {n : Nat} (h : Script w a n) (hm : Mod No w w') : Script w' a n := fun i hi => by
  obtain ⟨b, off, S, h1, h2, h3, h4⟩ := h i hi
  exact ⟨b, off, S, h1, h2, hm.range h3, h4⟩
end Go.Proofs.Ytlcbemcamdafjaa
/- A raw number is brought to one of n things. -/
namespace Go.Proofs.Ytlcbemcamdafjaa
open Go.RowKit
set_option linter.unusedVariables false
set_option maxRecDepth 100000
set_option maxHeartbeats 2000000

theorem wrap_fit (x : Int) (h : -9223372036854775808 ≤ x) (h' : x ≤ 9223372036854775807) : IntKind.i64.wrap x = x := by
  simp [IntKind.wrap, IntKind.signed, IntKind.bits]
  omega

theorem wrap_low (x : Int) : -9223372036854775808 ≤ IntKind.i64.wrap x ∧ IntKind.i64.wrap x ≤ 9223372036854775807 := by
  simp [IntKind.wrap, IntKind.signed, IntKind.bits]
  omega

/-- Which of n things a raw number speaks of. -/
def pickN (c n : Int) : Int := if c < 0 then (-(c + 1)) % n else c % n
theorem pickN_range (c n : Int) (hn : 0 < n) : 0 ≤ pickN c n ∧ pickN c n < n := by
  unfold pickN
  split
  · exact ⟨Int.emod_nonneg _ (by omega), Int.emod_lt_of_pos _ hn⟩
  · exact ⟨Int.emod_nonneg _ (by omega), Int.emod_lt_of_pos _ hn⟩

theorem pick_any (c n : Int) (hc : -9223372036854775808 ≤ c ∧ c ≤ 9223372036854775807) (hn : 0 < n ∧ n ≤ 100000) (w : World) :
    Calls Try.prog 21 #[.int .i64 c, .int .i64 n] w fun e w' => e = .returned (.int .i64 (pickN c n)) ∧ w' = w := by
  unfold pickN
  have hz : n ≠ 0 := by omega
  by_cases h : c < 0
  · have h1 : IntKind.i64.wrap (c + 1) = c + 1 := wrap_fit _ (by omega) (by omega)
    have h2 : IntKind.i64.wrap (-(c + 1)) = -(c + 1) := wrap_fit _ (by omega) (by omega)
    go_enter Try.func21, Try.ntmps21
    go_wp2
    go_ret
    refine ⟨?_, rfl⟩
    rw [← Int.tmod_eq_emod_of_nonneg (by omega), Int.neg_tmod]
    rfl
  · go_enter Try.func21, Try.ntmps21
    go_wp2
    go_ret
    exact ⟨rfl, rfl⟩
end Go.Proofs.Ytlcbemcamdafjaa
