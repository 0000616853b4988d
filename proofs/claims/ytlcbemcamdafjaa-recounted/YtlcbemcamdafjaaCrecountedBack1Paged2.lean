import Derived.Test.YtlcbemcamdafjaaCrecountedBackM
import Derived.Test.YtlcbemcamdafjaaCrecountedTape2Append
import Derived.Test.YtlcbemcamdafjaaCrecountedFits2Does2
/- Steps, one behind the other: what stays so. -/
namespace Go.Proofs.Ytlcbemcamdafjaa
open Go.RowKit
open M
set_option linter.unusedVariables false
set_option linter.unusedSimpArgs false
set_option maxRecDepth 100000

theorem doK_keeps {now : Int} {fl : Nat → Option (Pla × List Sea)} {p : Pla} {l : List Sea} (h : fl 1 = some (p, l)) (c : Cmd) :
    (∃ p' l', (doK now fl c).2.2 1 = some (p', l')) ∧ now ≤ (doK now fl c).2.1 ∧ (doK now fl c).2.1 ≤ now + 100 := by
  unfold doK
  split
  · exact ⟨⟨p, l, h⟩, by simp, by simp; omega⟩
  split
  · split
    · exact ⟨⟨tickP (now + c.time) p l, tickSeats (now + c.time) l, by simp [h, tickF]⟩, by simp; omega, by simp; omega⟩
    · exact ⟨⟨p, l, h⟩, by simp, by simp; omega⟩
  split
  · exact ⟨⟨p, l, h⟩, by simp, by simp; omega⟩
  rename_i hf
  have hf : 1 ≤ c.flight ∧ c.flight ≤ 20 := by simpa using hf
  cases hfl : fl c.flight.toNat with
  | none =>
    simp only
    have hne : (1 : Nat) ≠ c.flight.toNat := by intro e; rw [← e, h] at hfl; cases hfl
    split
    · split
      · exact ⟨⟨p, l, by simp [hne, h]⟩, by simp, by simp; omega⟩
      · exact ⟨⟨p, l, h⟩, by simp, by simp; omega⟩
    · exact ⟨⟨p, l, h⟩, by simp, by simp; omega⟩
  | some x =>
    simp only
    split
    · exact ⟨⟨p, l, h⟩, by simp, by simp; omega⟩
    · split
      · by_cases e : (1 : Nat) = c.flight.toNat
        · rw [← e, h] at hfl
          cases hfl
          exact ⟨⟨planNew p c, seatNew p l c, by simp [← e]⟩, by simp, by simp; omega⟩
        · exact ⟨⟨p, l, by simp [e, h]⟩, by simp, by simp; omega⟩
      · exact ⟨⟨p, l, h⟩, by simp, by simp; omega⟩

/-- What stays so while steps are done: from the world w on, whose last block is the box of a place. -/
structure BackI (w wr : World) (kb lb : Nat) (i : Nat) : Prop where
  keep : ∃ ow now fl p l, KeepH wr ow kb now fl ∧ fl 1 = some (p, l) ∧ 0 ≤ now ∧ now ≤ 100 * (i : Int) ∧ ow lb = 0 ∧ ∀ k, k < w.heap.size → ow k = 0
  lim : ∃ cs : Array Value, cs.size = 84 ∧ Has wr lb cs 97
  mod : Mod No w wr
  lbn : w.heap.size ≤ lb

theorem BackI.step {w wr : World} {kb lb i : Nat} (h : BackI w wr kb lb i) (hi : i ≤ 1099511627776) (W : World) (hW : Mod No wr W) (c : Cmd) :
    Calls Try.prog 16 #[.pointer (some ⟨kb, 0, none⟩), .agg (cmdCells c), .pointer (some ⟨lb, 0, none⟩)] W fun e w' => (∃ x, e = .returned (.int .i64 x)) ∧ BackI w w' kb lb (i + 1) := by
  obtain ⟨ow, now, fl, p, l, k1, k2, k3, k4, k5, k6⟩ := h.keep
  obtain ⟨cs, s1, s2⟩ := h.lim
  refine (does_any (k1.mod hW (fun _ _ x => x)) ⟨k3, by omega⟩ c cs s1 (hW.has s2 (fun x => x)) k5).mono ?_
  rintro e w' ⟨rfl, ⟨ow', q1, q2⟩, ⟨cs', t1, t2⟩, hm⟩
  obtain ⟨⟨p', l', e1⟩, e2, e3⟩ := doK_keeps (now := now) k2 c
  have sz : w.heap.size ≤ W.heap.size := Nat.le_trans h.mod.size hW.size
  have slb : lb < W.heap.size := Nat.lt_of_lt_of_le s2.lt hW.size
  refine ⟨⟨_, rfl⟩, ⟨ow', _, _, p', l', q1, e1, by omega, by omega, by rw [q2 lb slb]; exact k5, fun k hk => by rw [q2 k (by omega)]; exact k6 k hk⟩, ⟨cs', t1, t2⟩, ?_, h.lbn⟩
  refine (h.mod.trans hW).trans' hm (fun j hj hl => ?_)
  rcases hj with hj | hj
  · exact hj (k6 j hl)
  · have := h.lbn
    omega

theorem BackI.start {w W w' : World} {ow : Nat → Nat} {kb : Nat} (h : KeepH W ow kb 0 fl0) (ho : ∀ k, k < w.heap.size → ow k = 0) (hW : Mod No w W) (hm : Mod No W w') (cs : Array Value) (hs : cs.size = 84) (hb : Has w' W.heap.size cs 97) : BackI w w' kb W.heap.size 0 := by
  refine ⟨⟨ow, 0, fl0, _, _, h.mod hm (fun _ _ x => x), rfl, by omega, by simp, ?_, ho⟩, ⟨cs, hs, hb⟩, hW.trans hm, hW.size⟩
  obtain ⟨pt, hx⟩ := h
  by_cases e : ow W.heap.size = 0
  · exact e
  · have := hx.old _ e; omega

/-- A script in memory: each of its steps can be tamed. -/
def Script (w : World) (a : Option Addr) (n : Nat) : Prop :=
  ∀ i, i < n → ∃ b off S, a = some ⟨b, off, none⟩ ∧ S.size = 21 ∧ w.rangeAt b (off + i * 21) S.toList ∧ ∀ W, Calls Try.prog 15 #[.agg S] W fun e w' => ∃ c : Cmd, e = .returned (.agg (cmdCells c)) ∧ Mod No W w'

theorem Mod.cell {w w' : World} (h : Mod No w w') {a : Addr} {v : Value} (hc : w.cell? a = some v) : w'.cell? a = some v := by
  have hl := World.block_lt_of_cell? w a hc
  unfold World.cell? at hc ⊢
  rw [h.block _ hl (fun x => x)]
  exact hc

theorem Mod.range {w w' : World} (h : Mod No w w') {b o : Nat} {l : List Value} (hr : w.rangeAt b o l) : w'.rangeAt b o l := fun j v hv => h.cell (hr j v hv)

theorem Script.mod {w w' : World} {a : Option Addr} {n : Nat} (h : Script w a n) (hm : Mod No w w') : Script w' a n := fun i hi => by
  obtain ⟨b, off, S, h1, h2, h3, h4⟩ := h i hi
  exact ⟨b, off, S, h1, h2, hm.range h3, h4⟩
end Go.Proofs.Ytlcbemcamdafjaa
/- Pages among steps: what stays so. -/
namespace Go.Proofs.Ytlcbemcamdafjaa
open Go.RowKit
open M
set_option linter.unusedVariables false
set_option linter.unusedSimpArgs false
set_option maxRecDepth 100000
set_option maxHeartbeats 2000000

structure PagX (w wr : World) (kb lb : Nat) (i : Nat) (now : Int) (fl : Nat → Option (Pla × List Sea)) (p : Pla) (l : List Sea) : Prop where
  keep : ∃ ow, KeepH wr ow kb now fl ∧ ow lb = 0 ∧ ∀ k, k < w.heap.size → ow k = 0
  one : fl 1 = some (p, l)
  fit : FitK fl
  lim : ∃ cs : Array Value, cs.size = 84 ∧ Has wr lb cs 97 ∧ LimR cs fl
  now0 : 0 ≤ now
  now1 : now ≤ 100 * (i : Int)
  mod : Mod No w wr
  lbn : w.heap.size ≤ lb

theorem PagX.still {w wr w2 : World} {kb lb i : Nat} {now : Int} {fl : Nat → Option (Pla × List Sea)} {p : Pla} {l : List Sea} (h : PagX w wr kb lb i now fl p l) (hm : Mod No wr w2) : PagX w w2 kb lb i now fl p l := by
  obtain ⟨ow, k1, k2, k3⟩ := h.keep
  obtain ⟨cs, s1, s2, s3⟩ := h.lim
  exact ⟨⟨ow, k1.mod hm (fun _ _ x => x), k2, k3⟩, h.one, h.fit, ⟨cs, s1, hm.has s2 (fun x => x), s3⟩, h.now0, h.now1, h.mod.trans hm, h.lbn⟩

theorem FitK.on {w : World} {ow : Nat → Nat} {kb : Nat} {now : Int} {fl : Nat → Option (Pla × List Sea)} {c : Cmd} (h : FitK fl) (hk : KeepH w ow kb (doK now fl c).2.1 (doK now fl c).2.2) : FitK (doK now fl c).2.2 :=
  fun n hn p l hp => ⟨hk.wf hn hp, doK_fit now c h n hn p l hp⟩

theorem PagX.step {w W : World} {kb lb i : Nat} {now : Int} {fl : Nat → Option (Pla × List Sea)} {p : Pla} {l : List Sea} (h : PagX w W kb lb i now fl p l) (hi : i ≤ 1099511627776 + 10) (c : Cmd) :
    Calls Try.prog 16 #[.pointer (some ⟨kb, 0, none⟩), .agg (cmdCells c), .pointer (some ⟨lb, 0, none⟩)] W fun e w' => e = .returned (.int .i64 (doK now fl c).1) ∧ ∃ p' l', PagX w w' kb lb (i + 1) (doK now fl c).2.1 (doK now fl c).2.2 p' l' := by
  obtain ⟨ow, k1, k5, k6⟩ := h.keep
  obtain ⟨cs, s1, s2, s3⟩ := h.lim
  have k3 := h.now0
  have k4 := h.now1
  refine (doesL_any k1 ⟨k3, by omega⟩ c cs s1 s2 k5).mono ?_
  rintro e w' ⟨rfl, ⟨ow', q1, q2⟩, ⟨cs', t1, t2, t3⟩, hm⟩
  obtain ⟨⟨p', l', e1⟩, e2, e3⟩ := doK_keeps (now := now) h.one c
  have sz : w.heap.size ≤ W.heap.size := h.mod.size
  have slb : lb < W.heap.size := s2.lt
  refine ⟨rfl, p', l', ⟨ow', q1, by rw [q2 lb slb]; exact k5, fun k hk => by rw [q2 k (by omega)]; exact k6 k hk⟩, e1, h.fit.on q1, ⟨cs', t1, t2, t3 s3⟩, by omega, by omega, ?_, h.lbn⟩
  refine h.mod.trans' hm (fun j hj hl => ?_)
  rcases hj with hj | hj
  · exact hj (k6 j hl)
  · have := h.lbn
    omega

theorem fitK0 : FitK fl0 := by
  intro n hn p l h
  unfold fl0 at h
  by_cases e : n = 1
  · rw [if_pos e] at h
    injection h with h
    injection h with e1 e2
    subst e1 e2
    exact ⟨empty_wf (by decide) (by decide), fit_empty (p := p0) (by decide) p0 (fun _ => rfl)⟩
  · rw [if_neg e] at h
    exact absurd h (by simp)

theorem firstL_any (w : World) : Calls Try.prog 14 #[] w fun e w' => ∃ cs, cs.size = 84 ∧ LimR cs fl0 ∧ e = .returned (.pointer (some ⟨w.heap.size, 0, none⟩)) ∧ Has w' w.heap.size cs 97 ∧ Mod No w w' := by
  go_enter Try.func14, Try.ntmps14
  go_wp2
  go_ret
  refine ⟨_, rfl, ?_, rfl, Has.new w _ _, (Mod.refl No w).alloc _⟩
  intro n hn p l h k hk
  unfold fl0 at h
  by_cases e : n = 1
  · rw [if_pos e] at h
    injection h with h
    injection h with e1 e2
    subst e e1 e2
    have : k = 0 ∨ k = 1 ∨ k = 2 ∨ k = 3 := by omega
    rcases this with rfl | rfl | rfl | rfl <;> rfl
  · rw [if_neg e] at h
    exact absurd h (by simp)

theorem PagX.start {w W w' : World} {ow : Nat → Nat} {kb : Nat} (h : KeepH W ow kb 0 fl0) (ho : ∀ k, k < w.heap.size → ow k = 0) (hW : Mod No w W) (hm : Mod No W w') (cs : Array Value) (hs : cs.size = 84) (hL : LimR cs fl0) (hb : Has w' W.heap.size cs 97) : PagX w w' kb W.heap.size 0 0 fl0 p0 (emptySeats p0) := by
  refine ⟨⟨ow, h.mod hm (fun _ _ x => x), ?_, ho⟩, rfl, fitK0, ⟨cs, hs, hb, hL⟩, by omega, by simp, hW.trans hm, hW.size⟩
  obtain ⟨pt, hx⟩ := h
  by_cases e : ow W.heap.size = 0
  · exact e
  · have := hx.old _ e; omega

theorem wrap_mod (x : Int) : IntKind.i64.wrap x % 18446744073709551616 = x % 18446744073709551616 := by
  simp only [IntKind.wrap]
  first | omega | (split <;> omega) | (simp [IntKind.bits, IntKind.signed]; omega)

theorem nx_ne (e : Int) : nx e ≠ e := by
  intro h
  have := wrap_mod (e + 1)
  unfold nx at h
  omega

theorem nx2_ne (e : Int) : nx (nx e) ≠ e := by
  intro h
  have h1 := wrap_mod (e + 1)
  have h2 := wrap_mod (nx e + 1)
  unfold nx at h h2
  omega

/-- A row that was told lies in a block of its own. -/
theorem rowS_told {w : World} {a : Option Addr} {c : Nat} {l : List Sea} (h : w.ownsRow 0 61 6 (.slice a l.length c) l.length (l.flatMap seaL)) (hpos : 0 < l.length) : ∃ g, a = some ⟨g, 0, none⟩ ∧ RowS w g c l := by
  have h' := h
  obtain ⟨h0, h1 | ⟨g', cap', cur, hv, hb, hg, hn, hm, hsz, ht⟩⟩ := h
  · have := h1.2
    simp at this
    omega
  · injection hv with e1 e2 e3
    subst e1
    exact ⟨g', rfl, (rowS_of h').2⟩
end Go.Proofs.Ytlcbemcamdafjaa
/- Pages among steps: what the last page answers. -/
namespace Go.Proofs.Ytlcbemcamdafjaa
open Go.RowKit
open M
set_option linter.unusedVariables false
set_option linter.unusedSimpArgs false
set_option maxRecDepth 100000
set_option maxHeartbeats 2000000

theorem seatsK_one {fl : Nat → Option (Pla × List Sea)} {p : Pla} {l : List Sea} (h : fl 1 = some (p, l)) (r c e s : Int) : seatsK fl 1 r c e s = pageK p l r c e s := by
  unfold seatsK
  rw [if_neg (by omega), show (1 : Int).toNat = 1 from rfl, h]

/-- A command to a seat of the first flight. -/
def seatC (k r c : Int) : Cmd := ⟨k, 1, r, c, 0, 0, 0, 0, 0, ⟨0, 0, 0, 0, 0, 0, 0, 0⟩⟩

theorem doK_one {fl : Nat → Option (Pla × List Sea)} {p : Pla} {l : List Sea} (h : fl 1 = some (p, l)) (now : Int) (c : Cmd) (hk : 2 ≤ c.kind ∧ c.kind ≤ 7) (hf : c.flight = 1) :
    doK now fl c = if seatErr p l c now = 0 then (0, now, fun j => if j = 1 then some (planNew p c, seatNew p l c) else fl j) else (seatErr p l c now, now, fl) := by
  unfold doK
  rw [if_neg (by omega), if_neg (by omega), if_neg (by omega), hf, show (1 : Int).toNat = 1 from rfl, h]
  simp only
  rw [if_neg (by omega)]

theorem doK_seatC {fl : Nat → Option (Pla × List Sea)} {p : Pla} {l : List Sea} (h : fl 1 = some (p, l)) (now k r c : Int) (hk : k = 6 ∨ k = 7) :
    ((doK now fl (seatC k r c)).1 = 0 ∧ (∃ l', (doK now fl (seatC k r c)).2.2 1 = some (p.next, l'))) ∨ ((doK now fl (seatC k r c)).1 ≠ 0 ∧ (doK now fl (seatC k r c)).2.2 1 = some (p, l)) := by
  have h0 : (seatC k r c).kind = k := rfl
  have h9 : ¬ (seatC k r c).kind = 9 := by omega
  rw [doK_one h now (seatC k r c) (by omega) rfl]
  by_cases he : seatErr p l (seatC k r c) now = 0
  · rw [if_pos he]
    refine .inl ⟨rfl, seatNew p l (seatC k r c), ?_⟩
    · show (if (1 : Nat) = 1 then some (planNew p (seatC k r c), seatNew p l (seatC k r c)) else fl 1) = _
      rw [if_pos rfl]
      unfold planNew
      rw [if_neg h9]
  · rw [if_neg he]
    exact .inr ⟨he, h⟩

theorem page_old {p q : Pla} {l : List Sea} (r c : Int) (hr : r ≠ 0) (h : q.ep ≠ p.ep) : (pageK q l r c p.ep 5).err = 13 := by
  have hb : behindK q r c p.ep = (0, 13) := by
    unfold behindK
    rw [if_neg (fun x => hr x.1), if_pos (fun e => h e.symm)]
  unfold pageK
  rw [if_neg (by omega), hb, if_pos (by simp)]

theorem page_same {p : Pla} {l : List Sea} (hwf : Wf p l) (hpos : 0 < l.length) : (pageK p l l[0].row l[0].col p.ep 5).err = 0 := by
  have := pageK_cur hwf 1 5 (by omega) (by omega)
  rw [curAt_succ p l 0 hpos] at this
  have h5 : ((5 : Nat) : Int) = 5 := rfl
  rw [h5] at this
  simp only at this
  rw [this]

theorem one_seat {p : Pla} {l : List Sea} (hwf : Wf p l) : 0 < l.length := by
  have hB := hwf.bounds
  have hl := hwf.len
  simp only at hB hl
  have : 0 < p.rows * p.cols := Int.mul_pos (by omega) (by omega)
  omega

/-- The first page of one seat. -/
theorem page_one {p : Pla} {l : List Sea} (hwf : Wf p l) (hpos : 0 < l.length) : ∃ more, pageK p l 0 0 0 1 = ⟨[l[0]], l[0].row, l[0].col, p.ep, more, 0⟩ := by
  have := pageK_cur hwf 0 1 (by omega) (by omega)
  have h0 : curAt p l 0 = (0, 0, 0) := rfl
  have h1 : ((1 : Nat) : Int) = 1 := rfl
  rw [h0, h1] at this
  simp only [List.drop_zero] at this
  have ht : l.take 1 = [l[0]] := by
    rw [take_succ l 0 hpos]
    rfl
  rw [ht] at this
  exact ⟨_, this⟩

/-- What the last page answers: stale, if one of the two commands was done. -/
theorem page_end {fl : Nat → Option (Pla × List Sea)} {p : Pla} {l : List Sea} (hwf : Wf p l) (h : fl 1 = some (p, l)) (hpos : 0 < l.length) (now : Int) :
    let D1 := doK now fl (seatC 6 l[0].row l[0].col)
    let D2 := doK D1.2.1 D1.2.2 (seatC 7 l[0].row l[0].col)
    (seatsK D2.2.2 1 l[0].row l[0].col p.ep 5).err = (if D1.1 = 0 ∨ D2.1 = 0 then 13 else 0) ∧ ∃ p2 l2, D2.2.2 1 = some (p2, l2) ∧ ∀ k, p2.lim k = p.lim k := by
  intro D1 D2
  have hr : l[0].row ≠ 0 := by
    have := hwf.place 0 hpos
    simp at this
    omega
  have hlim : ∀ (a : Pla) k, a.next.lim k = a.lim k := fun a k => by
    cases k with | zero => rfl | succ k => cases k with | zero => rfl | succ k => cases k <;> rfl
  rcases doK_seatC h now 6 l[0].row l[0].col (.inl rfl) with ⟨a1, l1, a2⟩ | ⟨a1, a2⟩
  · rcases doK_seatC a2 D1.2.1 7 l[0].row l[0].col (.inr rfl) with ⟨b1, l2, b2⟩ | ⟨b1, b2⟩
    · rw [seatsK_one b2, if_pos (.inl a1), page_old _ _ hr (nx2_ne p.ep)]
      exact ⟨rfl, _, _, b2, fun k => by rw [hlim, hlim]⟩
    · rw [seatsK_one b2, if_pos (.inl a1), page_old _ _ hr (nx_ne p.ep)]
      exact ⟨rfl, _, _, b2, fun k => by rw [hlim]⟩
  · rcases doK_seatC a2 D1.2.1 7 l[0].row l[0].col (.inr rfl) with ⟨b1, l2, b2⟩ | ⟨b1, b2⟩
    · rw [seatsK_one b2, if_pos (.inr b1), page_old _ _ hr (nx_ne p.ep)]
      exact ⟨rfl, _, _, b2, fun k => by rw [hlim]⟩
    · rw [seatsK_one b2, if_neg (by rintro (x | x); exact a1 x; exact b1 x), page_same hwf hpos]
      exact ⟨rfl, _, _, b2, fun k => rfl⟩

theorem rows_up {p : Pla} {l : List Sea} (hwf : Wf p l) : ∀ i (h : i + 1 < l.length), l[i].row < l[i + 1].row ∨ (l[i].row = l[i + 1].row ∧ l[i].col < l[i + 1].col) := by
  intro i h
  have a := hwf.place i (show i < l.length by omega)
  have b := hwf.place (i + 1) h
  have hB := hwf.bounds
  simp only at a b hB
  rw [a.1, a.2, b.1, b.2]
  obtain ⟨C, hC⟩ : ∃ C : Nat, p.cols = (C : Int) := ⟨p.cols.toNat, by omega⟩
  rw [hC]
  have hC1 : 1 ≤ C ∧ C ≤ 6 := by omega
  have : C = 1 ∨ C = 2 ∨ C = 3 ∨ C = 4 ∨ C = 5 ∨ C = 6 := by omega
  rcases this with rfl | rfl | rfl | rfl | rfl | rfl <;> omega
end Go.Proofs.Ytlcbemcamdafjaa
