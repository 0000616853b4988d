import Derived.Test.YtlcbemcamdafjaaCfoldedFld1
import Derived.Test.YtlcbemcamdafjaaCfoldedPaged3
/- Who folds all bulletins: what holds at every moment. -/
namespace Go.Proofs.Ytlcbemcamdafjaa
open Go.RowKit
open Go.ChangeMaps (setBlock)
open M
set_option linter.unusedVariables false
set_option linter.unusedSimpArgs false
set_option maxRecDepth 100000

def tabB (g : Nat → Bool) : Array Value := #[.bool (g 0), .bool (g 1), .bool (g 2), .bool (g 3), .bool (g 4), .bool (g 5), .bool (g 6), .bool (g 7)]
theorem tabB_get (g : Nat → Bool) (v : Nat) (hv : v < 8) : (tabB g)[v]? = some (.bool (g v)) := by
  have : v = 0 ∨ v = 1 ∨ v = 2 ∨ v = 3 ∨ v = 4 ∨ v = 5 ∨ v = 6 ∨ v = 7 := by omega
  rcases this with h | h | h | h | h | h | h | h <;> (subst h; rfl)
theorem tabB_set (g : Nat → Bool) (v : Nat) (x : Bool) (hv : v < 8) : (tabB g).setIfInBounds v (.bool x) = tabB (fun j => if j = v then x else g j) := by
  have : v = 0 ∨ v = 1 ∨ v = 2 ∨ v = 3 ∨ v = 4 ∨ v = 5 ∨ v = 6 ∨ v = 7 := by omega
  rcases this with h | h | h | h | h | h | h | h <;> (subst h; rfl)

theorem doK_zero {fl : Nat → Option (Pla × List Sea)} (now : Int) (c : Cmd) (n : Nat) (h : (doK now fl c).2.2 n = none) : fl n = none := by
  unfold doK at h
  by_cases k0 : c.kind < 1 ∨ c.kind > 9
  · rw [if_pos k0] at h; exact h
  rw [if_neg k0] at h
  by_cases k8 : c.kind = 8
  · rw [if_pos k8] at h
    by_cases ht : 1 ≤ c.time ∧ c.time ≤ 100
    · rw [if_pos ht] at h; simpa using h
    · rw [if_neg ht] at h; exact h
  rw [if_neg k8] at h
  by_cases hfl : ¬ (1 ≤ c.flight ∧ c.flight ≤ 20)
  · rw [if_pos hfl] at h; exact h
  rw [if_neg hfl] at h
  cases hc : fl c.flight.toNat with
  | none =>
    rw [hc] at h
    simp only at h
    by_cases k1 : c.kind = 1
    · rw [if_pos k1] at h
      by_cases hq : c.pla.sized = true ∧ c.pla.limited = true
      · rw [if_pos hq] at h
        simp only at h
        by_cases e : n = c.flight.toNat
        · rw [if_pos e] at h; cases h
        · rw [if_neg e] at h; exact h
      · rw [if_neg hq] at h; exact h
    · rw [if_neg k1] at h; exact h
  | some x =>
    rw [hc] at h
    simp only at h
    by_cases k1 : c.kind = 1
    · rw [if_pos k1] at h; exact h
    rw [if_neg k1] at h
    by_cases he : seatErr x.1 x.2 c now = 0
    · rw [if_pos he] at h
      simp only at h
      by_cases e : n = c.flight.toNat
      · rw [if_pos e] at h; cases h
      · rw [if_neg e] at h; exact h
    · rw [if_neg he] at h; exact h
theorem doK_zero' {fl : Nat → Option (Pla × List Sea)} (now : Int) (c : Cmd) (h : fl 0 = none) : (doK now fl c).2.2 0 = none := by
  unfold doK
  by_cases k0 : c.kind < 1 ∨ c.kind > 9
  · rw [if_pos k0]; exact h
  rw [if_neg k0]
  by_cases k8 : c.kind = 8
  · rw [if_pos k8]
    by_cases ht : 1 ≤ c.time ∧ c.time ≤ 100
    · rw [if_pos ht]; simp [h]
    · rw [if_neg ht]; exact h
  rw [if_neg k8]
  by_cases hfl : ¬ (1 ≤ c.flight ∧ c.flight ≤ 20)
  · rw [if_pos hfl]; exact h
  rw [if_neg hfl]
  have h0 : (0 : Nat) ≠ c.flight.toNat := by omega
  cases hc : fl c.flight.toNat with
  | none =>
    simp only
    by_cases k1 : c.kind = 1
    · rw [if_pos k1]
      by_cases hq : c.pla.sized = true ∧ c.pla.limited = true
      · rw [if_pos hq]; simp only; rw [if_neg h0]; exact h
      · rw [if_neg hq]; exact h
    · rw [if_neg k1]; exact h
  | some x =>
    simp only
    by_cases k1 : c.kind = 1
    · rw [if_pos k1]; exact h
    rw [if_neg k1]
    by_cases he : seatErr x.1 x.2 c now = 0
    · rw [if_pos he]; simp only; rw [if_neg h0]; exact h
    · rw [if_neg he]; exact h

/-- What holds at every moment: the keeper and its followers; what was told, and what is known of it. -/
structure FldG (w wr : World) (ow om : Nat → Nat) (kb lb nb gb : Nat) (i : Nat) (now : Int) (fl : Nat → Option (Pla × List Sea)) (tl : Nat → Option (List FEnt)) (kt : Nat → List FEnt) (bt : Nat → Bool) : Prop where
  keep : KeepH wr ow kb now fl
  fol : FolX wr ow om kb tl
  own : ∀ b, (b = lb ∨ b = nb ∨ b = gb ∨ b < w.heap.size) → ow b = 0 ∧ om b = 0
  apart : lb ≠ nb ∧ lb ≠ gb ∧ nb ≠ gb
  lim : ∃ cs : Array Value, cs.size = 84 ∧ Has wr lb cs 97
  kno : ∃ K, Has wr nb (tab K 672) 70 ∧ ∀ v, v < 8 → ∀ j, j < 84 → K (v * 84 + j) = tb (kt v) (j / 4 : Nat) (j % 4 : Nat)
  beg : Has wr gb (tabB bt) 71
  zero : fl 0 = none
  one : ∃ p l, fl 1 = some (p, l)
  abs : ∀ v, v < 8 → ∀ n : Nat, n < 21 → fl n = none → ∀ c : Nat, c < 4 → tb ((tl v).getD []) n c = -1
  now0 : 0 ≤ now
  now1 : now ≤ 100 * (i : Int)
  mod : Mod No w wr
  new : w.heap.size ≤ lb ∧ w.heap.size ≤ nb ∧ w.heap.size ≤ gb

theorem FldG.still {w wr w2 : World} {ow om : Nat → Nat} {kb lb nb gb i : Nat} {now : Int} {fl : Nat → Option (Pla × List Sea)} {tl : Nat → Option (List FEnt)} {kt : Nat → List FEnt} {bt : Nat → Bool} (h : FldG w wr ow om kb lb nb gb i now fl tl kt bt) (hm : Mod No wr w2) : FldG w w2 ow om kb lb nb gb i now fl tl kt bt := by
  obtain ⟨cs, s1, s2⟩ := h.lim
  obtain ⟨K, k1, k2⟩ := h.kno
  exact ⟨h.keep.mod hm (fun _ _ x => x), h.fol.still hm, h.own, h.apart, ⟨cs, s1, hm.has s2 (fun x => x)⟩, ⟨K, hm.has k1 (fun x => x), k2⟩, hm.has h.beg (fun x => x), h.zero, h.one, h.abs, h.now0, h.now1, h.mod.trans hm, h.new⟩

theorem FldG.lts {w wr : World} {ow om : Nat → Nat} {kb lb nb gb i : Nat} {now : Int} {fl : Nat → Option (Pla × List Sea)} {tl : Nat → Option (List FEnt)} {kt : Nat → List FEnt} {bt : Nat → Bool} (h : FldG w wr ow om kb lb nb gb i now fl tl kt bt) :
    lb < wr.heap.size ∧ nb < wr.heap.size ∧ gb < wr.heap.size ∧ kb < wr.heap.size ∧ ow kb = 1 := by
  obtain ⟨cs, s1, s2⟩ := h.lim
  obtain ⟨K, k1, k2⟩ := h.kno
  obtain ⟨pt, hx⟩ := h.keep
  exact ⟨s2.lt, k1.lt, h.beg.lt, hx.has.lt, hx.mine⟩

theorem FldG.step {w W : World} {ow om : Nat → Nat} {kb lb nb gb i : Nat} {now : Int} {fl : Nat → Option (Pla × List Sea)} {tl : Nat → Option (List FEnt)} {kt : Nat → List FEnt} {bt : Nat → Bool} (h : FldG w W ow om kb lb nb gb i now fl tl kt bt) (hi : i ≤ 1099511627776 + 10) (c : Cmd) :
    Calls Try.prog 16 #[.pointer (some ⟨kb, 0, none⟩), .agg (cmdCells c), .pointer (some ⟨lb, 0, none⟩)] W fun e w' => e = .returned (.int .i64 (doK now fl c).1) ∧
      ∃ ow', FldG w w' ow' om kb lb nb gb (i + 1) (doK now fl c).2.1 (doK now fl c).2.2 tl kt bt := by
  obtain ⟨cs, s1, s2⟩ := h.lim
  obtain ⟨K, q1, q2⟩ := h.kno
  have k3 := h.now0
  have k4 := h.now1
  obtain ⟨l1, l2, l3, l4, l5⟩ := h.lts
  refine (doesF_any h.keep h.fol ⟨k3, by omega⟩ c cs s1 s2 (h.own lb (.inl rfl)).1 (h.own lb (.inl rfl)).2).mono ?_
  rintro e w' ⟨rfl, ⟨ow', r1, r2, r3⟩, ⟨cs', t1, t2⟩, hm⟩
  obtain ⟨p, l, h1⟩ := h.one
  obtain ⟨⟨p', l', e1⟩, e2, e3⟩ := doK_keeps (now := now) h1 c
  have sz : w.heap.size ≤ W.heap.size := h.mod.size
  have out : ∀ b, (b = nb ∨ b = gb ∨ b < w.heap.size) → ¬ (ow b ≠ 0 ∨ b = lb) := fun b hb e => by
    rcases e with e | e
    · exact e (h.own b (.inr hb)).1
    · subst e
      have := h.apart
      have := h.new
      rcases hb with hb | hb | hb <;> omega
  refine ⟨rfl, ow', r1, r2, fun b hb => ⟨?_, (h.own b hb).2⟩, h.apart, ⟨cs', t1, t2⟩, ⟨K, hm.has q1 (out nb (.inl rfl)), q2⟩, hm.has h.beg (out gb (.inr (.inl rfl))), doK_zero' now c h.zero, ⟨p', l', e1⟩, fun v hv n hn hf => h.abs v hv n hn (doK_zero now c n hf), by omega, by omega, ?_, h.new⟩
  · rw [r3 b (by rcases hb with hb | hb | hb | hb <;> omega)]
    exact (h.own b hb).1
  · exact h.mod.trans' hm (fun k hk hl => absurd hk (out k (.inr (.inr hl))))

/-- A follower has asked: what he is told now. -/
theorem FldG.follow {w W : World} {ow om : Nat → Nat} {kb lb nb gb i : Nat} {now : Int} {fl : Nat → Option (Pla × List Sea)} {tl : Nat → Option (List FEnt)} {kt : Nat → List FEnt} {bt : Nat → Bool} (h : FldG w W ow om kb lb nb gb i now fl tl kt bt) (v : Nat) (hv : v < 8) (most : Int) (hmost : 1 ≤ most ∧ most ≤ 50) :
    Calls Try.prog 26 #[.pointer (some ⟨kb, 0, none⟩), .int .i64 v, .int .i64 most] W fun e w' => ∃ vv clock om',
      e = .returned (.tuple #[bullV (tl v).isNone vv (tells most ⟨[], false, (tl v).getD [], clock⟩ (itemsK fl 21)).more, .int .i64 0]) ∧
      FldG w w' ow om' kb lb nb gb i now fl (fun j => if j = v then some (tells most ⟨[], false, (tl v).getD [], clock⟩ (itemsK fl 21)).es else tl j) kt bt ∧
      w'.ownsRow 0 78 3 vv (tells most ⟨[], false, (tl v).getD [], clock⟩ (itemsK fl 21)).news.length ((tells most ⟨[], false, (tl v).getD [], clock⟩ (itemsK fl 21)).news.flatMap nwL) ∧
      (∀ k, vv.ownBlock = some k → W.heap.size ≤ k) ∧ FolOk ((tl v).getD []) := by
  obtain ⟨cs, s1, s2⟩ := h.lim
  obtain ⟨K, q1, q2⟩ := h.kno
  obtain ⟨l1, l2, l3, l4, l5⟩ := h.lts
  refine (follow_any h.keep h.fol v hv most hmost).mono ?_
  rintro e w' ⟨vv, clock, rfl, hx⟩
  have hok : FolOk ((tl v).getD []) := by
    cases ht : tl v with
    | none => exact FolOk.nil
    | some es => obtain ⟨m, ck, _, _, _, a⟩ := h.fol.is v hv es ht; exact a
  obtain ⟨om', f1, f2⟩ := hx.fol
  have sz : w.heap.size ≤ W.heap.size := h.mod.size
  have out : ∀ b, (b = lb ∨ b = nb ∨ b = gb ∨ b < w.heap.size) → ¬ (b = kb ∨ om b ≠ 0) := fun b hb e => by
    rcases e with e | e
    · subst e; have := (h.own b hb).1; omega
    · exact e (h.own b hb).2
  refine ⟨vv, clock, om', rfl, ⟨hx.keep, f1, fun b hb => ⟨(h.own b hb).1, ?_⟩, h.apart, ⟨cs, s1, hx.mod.has s2 (out lb (.inl rfl))⟩, ⟨K, hx.mod.has q1 (out nb (.inr (.inl rfl))), q2⟩, hx.mod.has h.beg (out gb (.inr (.inr (.inl rfl)))), h.zero, h.one, fun u hu n hn hf c hc => ?_, h.now0, h.now1, h.mod.trans' hx.mod (fun k hk hl => absurd hk (out k (.inr (.inr (.inr hl))))), h.new⟩, hx.row, hx.own, hok⟩
  · rw [f2 b (by rcases hb with hb | hb | hb | hb <;> omega)]
    exact (h.own b hb).2
  · by_cases e : u = v
    · simp only [if_pos e, Option.getD_some]
      rw [tells_absent hok n hf]
      exact h.abs v hv n hn hf c hc
    · simp only [if_neg e]
      exact h.abs u hu n hn hf c hc
end Go.Proofs.Ytlcbemcamdafjaa
/- What holds of a bulletin; what is known when its news are laid over what was known. -/
namespace Go.Proofs.Ytlcbemcamdafjaa
open Go.RowKit
open Go.ChangeMaps (setBlock)
open M
set_option linter.unusedVariables false
set_option linter.unusedSimpArgs false
set_option maxRecDepth 100000

structure TelF (most : Int) (es0 : List FEnt) (clock : Nat) (fl : Nat → Option (Pla × List Sea)) (T : Tel) : Prop where
  isp : (T.es, T.clock) = puts es0 clock T.news
  new : ∀ j (hj : j < T.news.length), T.news[j].l ≠ tb (puts es0 clock (T.news.take j)).1 T.news[j].n T.news[j].c
  key : ∀ x ∈ T.news, 1 ≤ x.n ∧ x.n ≤ 20 ∧ 0 ≤ x.c ∧ x.c < 4
  len : (T.news.length : Int) ≤ most
  more : T.more = true → (T.news.length : Int) = most
  dec : diffs T.es (itemsK fl 21) + T.news.length ≤ diffs es0 (itemsK fl 21)
  all : T.more = false → ∀ j, j < 84 → tb T.es (j / 4 : Nat) (j % 4 : Nat) = leftT fl j
  ok : FolOk es0

theorem telF_of {most : Int} {es0 : List FEnt} {fl : Nat → Option (Pla × List Sea)} (clock : Nat) (hm : 1 ≤ most) (hok : FolOk es0) (h0 : fl 0 = none) (habs : ∀ n : Nat, n < 21 → fl n = none → ∀ c : Nat, c < 4 → tb es0 n c = -1) :
    TelF most es0 clock fl (tells most ⟨[], false, es0, clock⟩ (itemsK fl 21)) := by
  have hq : TelQ most es0 clock (itemsK fl 21) (tells most ⟨[], false, es0, clock⟩ (itemsK fl 21)) :=
    telQ_all _ _ ⟨rfl, fun j hj => absurd hj (Nat.not_lt_zero _), fun x hx => by simp at hx, fun h => by cases h⟩ (by simp; omega) (fun x hx => hx)
  refine ⟨hq.isp, hq.new, fun x hx => ?_, tells_len _ _ (by simp; omega), hq.more, ?_, fun hmo j hj => tells_left (s := ⟨[], false, es0, clock⟩) hok h0 habs hmo j hj, hok⟩
  · obtain ⟨n, y, c, h1, h2, h3, rfl⟩ := mem_itemsK (hq.mem x hx)
    have hn : n ≠ 0 := fun e => by rw [e, h0] at h2; cases h2
    simp only
    omega
  · have := diffs_tells (most := most) (itemsK_apart fl 21) (itemsK_ok fl) (itemsK fl 21) ⟨[], false, es0, clock⟩ hok (fun x hx => hx)
    simpa using this

theorem FldG.began {w wr : World} {ow om : Nat → Nat} {kb lb nb gb i : Nat} {now : Int} {fl : Nat → Option (Pla × List Sea)} {tl : Nat → Option (List FEnt)} {kt : Nat → List FEnt} {bt : Nat → Bool} (h : FldG w wr ow om kb lb nb gb i now fl tl kt bt) (u : Nat) (hu : u < 8) :
    FldG w (wr.setCell ⟨gb, u, none⟩ (.bool true)) ow om kb lb nb gb i now fl tl kt (fun v => if v = u then true else bt v) := by
  obtain ⟨cs, s1, s2⟩ := h.lim
  obtain ⟨K, k1, k2⟩ := h.kno
  obtain ⟨l1, l2, l3, l4, l5⟩ := h.lts
  have ho := h.own gb (.inr (.inr (.inl rfl)))
  have ha := h.apart
  have hm : Mod (fun k => k = gb) wr (wr.setCell ⟨gb, u, none⟩ (.bool true)) := (Mod.refl _ wr).at u _
  have hb := h.beg.set u (.bool true)
  rw [tabB_set _ _ _ hu] at hb
  exact ⟨h.keep.mod hm (fun k hk e => by subst e; exact hk ho.1), h.fol.mod hm (fun e => by have e' : kb = gb := e; rw [e'] at l5; omega) (fun k hk e => by subst e; exact hk ho.2), h.own, h.apart, ⟨cs, s1, hm.has s2 (by omega)⟩, ⟨K, hm.has k1 (by omega), k2⟩, hb, h.zero, h.one, h.abs, h.now0, h.now1,
    h.mod.trans' hm (fun k hk hl => by have := h.new; omega), h.new⟩

theorem FldG.know {w wr : World} {ow om : Nat → Nat} {kb lb nb gb i : Nat} {now : Int} {fl : Nat → Option (Pla × List Sea)} {tl : Nat → Option (List FEnt)} {kt : Nat → List FEnt} {bt : Nat → Bool} (h : FldG w wr ow om kb lb nb gb i now fl tl kt bt) (u : Nat) (hu : u < 8) (n c : Nat) (hn : n < 21) (hc : c < 4) (l : Int) (kt' : Nat → List FEnt)
    (h1 : ∀ v, v ≠ u → kt' v = kt v) (h2 : ∀ (a b : Nat), tb (kt' u) a b = if a = n ∧ b = c then l else tb (kt u) a b) :
    FldG w (wr.setCell ⟨nb, u * 84 + n * 4 + c, none⟩ (.int .i64 l)) ow om kb lb nb gb i now fl tl kt' bt := by
  obtain ⟨cs, s1, s2⟩ := h.lim
  obtain ⟨K, k1, k2⟩ := h.kno
  obtain ⟨l1, l2, l3, l4, l5⟩ := h.lts
  have ho := h.own nb (.inr (.inl rfl))
  have ha := h.apart
  have hm : Mod (fun k => k = nb) wr (wr.setCell ⟨nb, u * 84 + n * 4 + c, none⟩ (.int .i64 l)) := (Mod.refl _ wr).at _ _
  have hb := k1.set (u * 84 + n * 4 + c) (.int .i64 l)
  rw [tab_set] at hb
  refine ⟨h.keep.mod hm (fun k hk e => by subst e; exact hk ho.1), h.fol.mod hm (fun e => by have e' : kb = nb := e; rw [e'] at l5; omega) (fun k hk e => by subst e; exact hk ho.2), h.own, h.apart, ⟨cs, s1, hm.has s2 (by omega)⟩, ⟨_, hb, fun v hv j hj => ?_⟩, hm.has h.beg (by omega), h.zero, h.one, h.abs, h.now0, h.now1,
    h.mod.trans' hm (fun k hk hl => by have := h.new; omega), h.new⟩
  by_cases e : v = u
  · subst e
    rw [h2, k2 v hv j hj]
    by_cases e2 : j / 4 = n ∧ j % 4 = c
    · rw [if_pos e2, if_pos (by omega)]
    · rw [if_neg e2, if_neg (by omega)]
  · rw [if_neg (by omega), h1 v e, k2 v hv j hj]

/-- What is known of a class of a flight. -/
theorem FldG.cell {w wr : World} {ow om : Nat → Nat} {kb lb nb gb i : Nat} {now : Int} {fl : Nat → Option (Pla × List Sea)} {tl : Nat → Option (List FEnt)} {kt : Nat → List FEnt} {bt : Nat → Bool} (h : FldG w wr ow om kb lb nb gb i now fl tl kt bt) (u : Nat) (hu : u < 8) (n c : Nat) (hn : n < 21) (hc : c < 4) :
    wr.cell? ⟨nb, u * 84 + n * 4 + c, none⟩ = some (.int .i64 (tb (kt u) n c)) := by
  obtain ⟨K, k1, k2⟩ := h.kno
  have := k2 u hu (n * 4 + c) (by omega)
  rw [show (n * 4 + c) / 4 = n by omega, show (n * 4 + c) % 4 = c by omega] at this
  rw [k1.cell, tab_get _ _ _ (by omega), Nat.add_assoc, this]
theorem FldG.froz {w wr : World} {ow om : Nat → Nat} {kb lb nb gb i : Nat} {now : Int} {fl : Nat → Option (Pla × List Sea)} {tl : Nat → Option (List FEnt)} {kt : Nat → List FEnt} {bt : Nat → Bool} (h : FldG w wr ow om kb lb nb gb i now fl tl kt bt) :
    (∀ o, wr.frozen? ⟨nb, o, none⟩ = false) ∧ (∀ o, wr.frozen? ⟨gb, o, none⟩ = false) ∧ nb < wr.heap.size ∧ gb < wr.heap.size := by
  obtain ⟨K, k1, k2⟩ := h.kno
  exact ⟨k1.frozen, h.beg.frozen, k1.lt, h.beg.lt⟩
/-- All that is known of what one follower was told, as one value. -/
theorem FldG.part {w wr : World} {ow om : Nat → Nat} {kb lb nb gb i : Nat} {now : Int} {fl : Nat → Option (Pla × List Sea)} {tl : Nat → Option (List FEnt)} {kt : Nat → List FEnt} {bt : Nat → Bool} (h : FldG w wr ow om kb lb nb gb i now fl tl kt bt) (u : Nat) (hu : u < 8) (hk : ∀ j, j < 84 → tb (kt u) (j / 4 : Nat) (j % 4 : Nat) = leftT fl j) :
    wr.rangeAt nb (u * 84) (tab (leftT fl) 84).toList := by
  obtain ⟨K, k1, k2⟩ := h.kno
  refine k1.range _ _ (fun j v hv => ?_)
  have hj : j < 84 := by
    have := (List.getElem?_eq_some_iff.1 hv).1
    simpa [tab_size] using this
  rw [Array.getElem?_toList, tab_get _ _ _ hj] at hv
  rw [tab_get _ _ _ (by omega), k2 u hu j hj, hk j hj]
  exact hv

theorem flat3 : ∀ (l : List Nw) (j t : Nat) (hj : j < l.length) (ht : t < 3), (l.flatMap nwL)[j * 3 + t]? = (nwL l[j])[t]?
  | x :: l, 0, t, _, ht => by
    rw [List.flatMap_cons, Nat.zero_mul, Nat.zero_add, List.getElem?_append_left (by simpa [nwL] using ht)]
    rfl
  | x :: l, j + 1, t, hj, ht => by
    rw [List.flatMap_cons, List.getElem?_append_right (by simp [nwL]; omega)]
    have := flat3 l j t (by simpa using hj) ht
    rw [show (j + 1) * 3 + t - (nwL x).length = j * 3 + t by simp [nwL]; omega, this]
    rfl

/-- One news, as it lies in memory. -/
theorem news_cells {w : World} {a : Option Addr} {len cap : Nat} {l : List Nw} (h : w.ownsRow 0 78 3 (.slice a len cap) l.length (l.flatMap nwL)) (j : Nat) (hj : j < l.length) :
    ∃ g, a = some ⟨g, 0, none⟩ ∧ w.cell? ⟨g, j * 3, none⟩ = some (.int .i64 l[j].n) ∧ w.cell? ⟨g, j * 3 + 1, none⟩ = some (.int .i64 l[j].c) ∧ w.cell? ⟨g, j * 3 + 2, none⟩ = some (.int .i64 l[j].l) := by
  rcases h.2 with ⟨h1, h2⟩ | ⟨g, cp, cur, hv, hr⟩
  · omega
  · injection hv with e1 e2 e3
    have hc := fun t (ht : t < 3) v (hv : (nwL l[j])[t]? = some v) => h.cells (by rw [e1]; rfl) (j * 3 + t) v (by rw [flat3 l j t hj ht]; exact hv)
    refine ⟨g, e1, ?_, ?_, ?_⟩
    · have := hc 0 (by omega) _ rfl
      rw [Addr.add_mid] at this
      simpa using this
    · have := hc 1 (by omega) _ rfl
      rw [Addr.add_mid, Nat.zero_add] at this
      exact this
    · have := hc 2 (by omega) _ rfl
      rw [Addr.add_mid, Nat.zero_add] at this
      exact this

/-- What is known behind the first j news. -/
def ktj (u : Nat) (es0 : List FEnt) (clock : Nat) (news : List Nw) (kt : Nat → List FEnt) (j : Nat) : Nat → List FEnt := fun v => if v = u then (puts es0 clock (news.take j)).1 else kt v
theorem ktj_zero {u : Nat} {es0 : List FEnt} {clock : Nat} {news : List Nw} {kt : Nat → List FEnt} (h : kt u = es0) : ktj u es0 clock news kt 0 = kt := by
  funext v
  unfold ktj
  by_cases e : v = u
  · rw [if_pos e, e, h]; rfl
  · rw [if_neg e]
theorem take_more {α : Type} (l : List α) (j : Nat) (hj : j < l.length) : l.take (j + 1) = l.take j ++ [l[j]] := by
  rw [List.take_add_one, List.getElem?_eq_getElem hj]
  rfl

theorem FldG.learn {w wr : World} {ow om : Nat → Nat} {kb lb nb gb i clock : Nat} {now most : Int} {es0 : List FEnt} {T : Tel} {fl : Nat → Option (Pla × List Sea)} {tl : Nat → Option (List FEnt)} {kt : Nat → List FEnt} {bt : Nat → Bool} (u j n c : Nat) (hT : TelF most es0 clock fl T)
    (h : FldG w wr ow om kb lb nb gb i now fl tl (ktj u es0 clock T.news kt j) bt) (hu : u < 8) (hj : j < T.news.length) (hn : T.news[j].n = n) (hc : T.news[j].c = c) :
    FldG w (wr.setCell ⟨nb, u * 84 + n * 4 + c, none⟩ (.int .i64 T.news[j].l)) ow om kb lb nb gb i now fl tl (ktj u es0 clock T.news kt (j + 1)) bt ∧
      tb ((ktj u es0 clock T.news kt j) u) n c ≠ T.news[j].l ∧ n < 21 ∧ c < 4 ∧ 1 ≤ n := by
  have hk := hT.key T.news[j] (List.getElem_mem hj)
  rw [hn, hc] at hk
  refine ⟨h.know u hu n c (by omega) (by omega) _ _ (fun v hv => by simp only [ktj, if_neg hv]) (fun a b => ?_), ?_, by omega, by omega, by omega⟩
  · simp only [ktj, if_pos]
    rw [take_more _ _ hj, puts_tb hT.ok (fun x hx => ?_), hn, hc]
    · by_cases e : (a : Int) = n ∧ (b : Int) = c
      · rw [if_pos e, if_pos (by omega)]
      · rw [if_neg e, if_neg (by omega)]
    · have := hT.key x (List.mem_of_mem_take hx)
      exact ⟨by omega, by omega, by omega, by omega⟩
  · simp only [ktj, if_pos]
    have := hT.new j hj
    rw [hn, hc] at this
    exact fun e => this e.symm

/-- Behind all news all that was told is known. -/
theorem ktj_all {u clock : Nat} {most : Int} {es0 : List FEnt} {T : Tel} {fl : Nat → Option (Pla × List Sea)} {tl : Nat → Option (List FEnt)} (hT : TelF most es0 clock fl T) :
    ktj u es0 clock T.news (fun v => (tl v).getD []) T.news.length = fun v => ((fun j => if j = u then some T.es else tl j) v).getD [] := by
  funext v
  unfold ktj
  by_cases e : v = u
  · simp only [if_pos e, List.take_length, Option.getD_some]
    have := hT.isp
    rw [← this]
  · simp only [if_neg e]
theorem bt_all {u : Nat} {es : List FEnt} {tl : Nat → Option (List FEnt)} : (fun v => if v = u then true else (tl v).isSome) = fun v => ((fun j => if j = u then some es else tl j) v).isSome := by
  funext v
  by_cases e : v = u
  · simp only [if_pos e, Option.isSome_some]
  · simp only [if_neg e]
end Go.Proofs.Ytlcbemcamdafjaa
