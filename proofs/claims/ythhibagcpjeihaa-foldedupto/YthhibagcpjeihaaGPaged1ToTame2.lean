import Derived.Test.YthhibagcpjeihaaGFitsToBack1
import Derived.Test.YthhibagcpjeihaaGLeastToDoes1
import Derived.Test.YthhibagcpjeihaaGModelToMaps
import Derived.Test.YthhibagcpjeihaaGBaseToAppend
import Derived.Deep.DeepCutAuto
import Derived.Handy
/- Pages among steps: what stays so. -/
namespace Go.Proofs.Ythhibagcpjeihaa
open Go.RowKit
open M
set_option linter.unusedVariables false
set_option linter.unusedSimpArgs false
set_option maxRecDepth 100000
set_option maxHeartbeats 2000000

structure PagX (w wr : World) (kb lb : Nat) (i : Nat) (now : Int) (fl : Nat → Option (Pla × List Sea)) (p : Pla) (l : List Sea) : Prop where
  keep : ∃ ow, KeepM wr ow kb now fl (lft i) ∧ ow lb = 0 ∧ ∀ k, k < w.heap.size → ow k = 0
  one : fl 1 = some (p, l)
  fit : FitK fl
  lim : ∃ cs : Array Value, cs.size = 84 ∧ Has wr lb cs 104 ∧ LimR cs fl
  now0 : 0 ≤ now
  now1 : now ≤ 100 * (i : Int)
  mod : Mod No w wr
  lbn : w.heap.size ≤ lb

theorem PagX.still {w wr w2 : World} {kb lb i : Nat} {now : Int} {fl : Nat → Option (Pla × List Sea)} {p : Pla} {l : List Sea} (h : PagX w wr kb lb i now fl p l) (hm : Mod No wr w2) : PagX w w2 kb lb i now fl p l := by
  obtain ⟨ow, k1, k2, k3⟩ := h.keep
  obtain ⟨cs, s1, s2, s3⟩ := h.lim
  exact ⟨⟨ow, k1.mod hm (fun _ _ x => x), k2, k3⟩, h.one, h.fit, ⟨cs, s1, hm.has s2 (fun x => x), s3⟩, h.now0, h.now1, h.mod.trans hm, h.lbn⟩

theorem FitK.on {w : World} {ow : Nat → Nat} {kb : Nat} {now : Int} {fl : Nat → Option (Pla × List Sea)} {c : Cmd} (h : FitK fl) {m : Nat} (hk : KeepM w ow kb (doK now fl c).2.1 (doK now fl c).2.2 m) : FitK (doK now fl c).2.2 :=
  fun n hn p l hp => ⟨hk.wf hn hp, doK_fit now c h n hn p l hp⟩

theorem PagX.step {w W : World} {kb lb i : Nat} {now : Int} {fl : Nat → Option (Pla × List Sea)} {p : Pla} {l : List Sea} (h : PagX w W kb lb i now fl p l) (hi : i ≤ 2000000) (c : Cmd) :
    Calls Try.prog 18 #[.pointer (some ⟨kb, 0, none⟩), .agg (cmdCells c), .pointer (some ⟨lb, 0, none⟩)] W fun e w' => e = .returned (.int .i64 (doK now fl c).1) ∧ ∃ p' l', PagX w w' kb lb (i + 1) (doK now fl c).2.1 (doK now fl c).2.2 p' l' := by
  obtain ⟨ow, k1, k5, k6⟩ := h.keep
  obtain ⟨cs, s1, s2, s3⟩ := h.lim
  have k3 := h.now0
  have k4 := h.now1
  rw [lft_succ (by omega)] at k1
  refine (doesL_any k1 ⟨k3, by omega⟩ c cs s1 s2 k5).mono ?_
  rintro e w' ⟨rfl, ⟨ow', q1, q2⟩, ⟨cs', t1, t2, t3⟩, hm⟩
  obtain ⟨⟨p', l', e1⟩, e2, e3⟩ := doK_keeps (now := now) h.one c
  have sz : w.heap.size ≤ W.heap.size := h.mod.size
  have slb : lb < W.heap.size := s2.lt
  refine ⟨rfl, p', l', ⟨ow', q1, by rw [q2 lb slb]; exact k5, fun k hk => by rw [q2 k (by omega)]; exact k6 k hk⟩, e1, h.fit.on q1, ⟨cs', t1, t2, t3 s3⟩, by omega, by omega, ?_, h.lbn⟩
  refine h.mod.trans' hm (fun j hj hl => ?_)
  rcases hj with hj | hj
  · exact hj (k6 j hl)
  · have := h.lbn
    omega

theorem fitK0 : FitK fl0 := by
  intro n hn p l h
  unfold fl0 at h
  by_cases e : n = 1
  · rw [if_pos e] at h
    injection h with h
    injection h with e1 e2
    subst e1 e2
    exact ⟨empty_wf (by decide) (by decide), fit_empty (p := p0) (by decide) p0 (fun _ => rfl)⟩
  · rw [if_neg e] at h
    exact absurd h (by simp)

theorem firstL_any (w : World) : Calls Try.prog 16 #[] w fun e w' => ∃ cs, cs.size = 84 ∧ LimR cs fl0 ∧ e = .returned (.pointer (some ⟨w.heap.size, 0, none⟩)) ∧ Has w' w.heap.size cs 104 ∧ Mod No w w' := by
  go_enter Try.func16, Try.ntmps16
  go_wp2
  go_ret
  refine ⟨_, rfl, ?_, rfl, Has.new w _ _, (Mod.refl No w).alloc _⟩
  intro n hn p l h k hk
  unfold fl0 at h
  by_cases e : n = 1
  · rw [if_pos e] at h
    injection h with h
    injection h with e1 e2
    subst e e1 e2
    have : k = 0 ∨ k = 1 ∨ k = 2 ∨ k = 3 := by omega
    rcases this with rfl | rfl | rfl | rfl <;> rfl
  · rw [if_neg e] at h
    exact absurd h (by simp)

theorem PagX.start {w W w' : World} {ow : Nat → Nat} {kb : Nat} (h : KeepM W ow kb 0 fl0 (lft 0)) (ho : ∀ k, k < w.heap.size → ow k = 0) (hW : Mod No w W) (hm : Mod No W w') (cs : Array Value) (hs : cs.size = 84) (hL : LimR cs fl0) (hb : Has w' W.heap.size cs 104) : PagX w w' kb W.heap.size 0 0 fl0 p0 (emptySeats p0) := by
  refine ⟨⟨ow, h.mod hm (fun _ _ x => x), ?_, ho⟩, rfl, fitK0, ⟨cs, hs, hb, hL⟩, by omega, by simp, hW.trans hm, hW.size⟩
  by_cases e : ow W.heap.size = 0
  · exact e
  · have := h.old _ e; omega

theorem wrap_mod (x : Int) : IntKind.i64.wrap x % 18446744073709551616 = x % 18446744073709551616 := by
  simp only [IntKind.wrap]
  first | omega | (split <;> omega) | (simp [IntKind.bits, IntKind.signed]; omega)

theorem nx_ne (e : Int) : nx e ≠ e := by
  intro h
  have := wrap_mod (e + 1)
  unfold nx at h
  omega

theorem nx2_ne (e : Int) : nx (nx e) ≠ e := by
  intro h
  have h1 := wrap_mod (e + 1)
  have h2 := wrap_mod (nx e + 1)
  unfold nx at h h2
  omega

/-- A row that was told lies in a block of its own. -/
theorem rowS_told {w : World} {a : Option Addr} {c : Nat} {l : List Sea} (h : w.ownsRow 0 61 6 (.slice a l.length c) l.length (l.flatMap seaL)) (hpos : 0 < l.length) : ∃ g, a = some ⟨g, 0, none⟩ ∧ RowS w g c l := by
  have h' := h
  obtain ⟨h0, h1 | ⟨g', cap', cur, hv, hb, hg, hn, hm, hsz, ht⟩⟩ := h
  · have := h1.2
    simp at this
    omega
  · injection hv with e1 e2 e3
    subst e1
    exact ⟨g', rfl, (rowS_of h').2⟩
end Go.Proofs.Ythhibagcpjeihaa
/- Pages among steps: what the last page answers. -/
namespace Go.Proofs.Ythhibagcpjeihaa
open Go.RowKit
open M
set_option linter.unusedVariables false
set_option linter.unusedSimpArgs false
set_option maxRecDepth 100000
set_option maxHeartbeats 2000000

theorem seatsK_one {fl : Nat → Option (Pla × List Sea)} {p : Pla} {l : List Sea} (h : fl 1 = some (p, l)) (r c e s : Int) : seatsK fl 1 r c e s = pageK p l r c e s := by
  unfold seatsK
  rw [if_neg (by omega), show (1 : Int).toNat = 1 from rfl, h]

/-- A command to a seat of the first flight. -/
def seatC (k r c : Int) : Cmd := ⟨k, 1, r, c, 0, 0, 0, 0, 0, ⟨0, 0, 0, 0, 0, 0, 0, 0⟩⟩

theorem doK_one {fl : Nat → Option (Pla × List Sea)} {p : Pla} {l : List Sea} (h : fl 1 = some (p, l)) (now : Int) (c : Cmd) (hk : 2 ≤ c.kind ∧ c.kind ≤ 7) (hf : c.flight = 1) :
    doK now fl c = if seatErr p l c now = 0 then (0, now, fun j => if j = 1 then some (planNew p c, seatNew p l c) else fl j) else (seatErr p l c now, now, fl) := by
  unfold doK
  rw [if_neg (by omega), if_neg (by omega), if_neg (by omega), hf, show (1 : Int).toNat = 1 from rfl, h]
  simp only
  rw [if_neg (by omega)]

theorem doK_seatC {fl : Nat → Option (Pla × List Sea)} {p : Pla} {l : List Sea} (h : fl 1 = some (p, l)) (now k r c : Int) (hk : k = 6 ∨ k = 7) :
    ((doK now fl (seatC k r c)).1 = 0 ∧ (∃ l', (doK now fl (seatC k r c)).2.2 1 = some (p.next, l'))) ∨ ((doK now fl (seatC k r c)).1 ≠ 0 ∧ (doK now fl (seatC k r c)).2.2 1 = some (p, l)) := by
  have h0 : (seatC k r c).kind = k := rfl
  have h9 : ¬ (seatC k r c).kind = 9 := by omega
  rw [doK_one h now (seatC k r c) (by omega) rfl]
  by_cases he : seatErr p l (seatC k r c) now = 0
  · rw [if_pos he]
    refine .inl ⟨rfl, seatNew p l (seatC k r c), ?_⟩
    · show (if (1 : Nat) = 1 then some (planNew p (seatC k r c), seatNew p l (seatC k r c)) else fl 1) = _
      rw [if_pos rfl]
      unfold planNew
      rw [if_neg h9]
  · rw [if_neg he]
    exact .inr ⟨he, h⟩

theorem page_old {p q : Pla} {l : List Sea} (r c : Int) (hr : r ≠ 0) (h : q.ep ≠ p.ep) : (pageK q l r c p.ep 5).err = 13 := by
  have hb : behindK q r c p.ep = (0, 13) := by
    unfold behindK
    rw [if_neg (fun x => hr x.1), if_pos (fun e => h e.symm)]
  unfold pageK
  rw [if_neg (by omega), hb, if_pos (by simp)]

theorem page_same {p : Pla} {l : List Sea} (hwf : Wf p l) (hpos : 0 < l.length) : (pageK p l l[0].row l[0].col p.ep 5).err = 0 := by
  have := pageK_cur hwf 1 5 (by omega) (by omega)
  rw [curAt_succ p l 0 hpos] at this
  have h5 : ((5 : Nat) : Int) = 5 := rfl
  rw [h5] at this
  simp only at this
  rw [this]

theorem one_seat {p : Pla} {l : List Sea} (hwf : Wf p l) : 0 < l.length := by
  have hB := hwf.bounds
  have hl := hwf.len
  simp only at hB hl
  have : 0 < p.rows * p.cols := Int.mul_pos (by omega) (by omega)
  omega

/-- The first page of one seat. -/
theorem page_one {p : Pla} {l : List Sea} (hwf : Wf p l) (hpos : 0 < l.length) : ∃ more, pageK p l 0 0 0 1 = ⟨[l[0]], l[0].row, l[0].col, p.ep, more, 0⟩ := by
  have := pageK_cur hwf 0 1 (by omega) (by omega)
  have h0 : curAt p l 0 = (0, 0, 0) := rfl
  have h1 : ((1 : Nat) : Int) = 1 := rfl
  rw [h0, h1] at this
  simp only [List.drop_zero] at this
  have ht : l.take 1 = [l[0]] := by
    rw [take_succ l 0 hpos]
    rfl
  rw [ht] at this
  exact ⟨_, this⟩

/-- What the last page answers: stale, if one of the two commands was done. -/
theorem page_end {fl : Nat → Option (Pla × List Sea)} {p : Pla} {l : List Sea} (hwf : Wf p l) (h : fl 1 = some (p, l)) (hpos : 0 < l.length) (now : Int) :
    let D1 := doK now fl (seatC 6 l[0].row l[0].col)
    let D2 := doK D1.2.1 D1.2.2 (seatC 7 l[0].row l[0].col)
    (seatsK D2.2.2 1 l[0].row l[0].col p.ep 5).err = (if D1.1 = 0 ∨ D2.1 = 0 then 13 else 0) ∧ ∃ p2 l2, D2.2.2 1 = some (p2, l2) ∧ ∀ k, p2.lim k = p.lim k := by
  intro D1 D2
  have hr : l[0].row ≠ 0 := by
    have := hwf.place 0 hpos
    simp at this
    omega
  have hlim : ∀ (a : Pla) k, a.next.lim k = a.lim k := fun a k => by
    cases k with | zero => rfl | succ k => cases k with | zero => rfl | succ k => cases k <;> rfl
  rcases doK_seatC h now 6 l[0].row l[0].col (.inl rfl) with ⟨a1, l1, a2⟩ | ⟨a1, a2⟩
  · rcases doK_seatC a2 D1.2.1 7 l[0].row l[0].col (.inr rfl) with ⟨b1, l2, b2⟩ | ⟨b1, b2⟩
    · rw [seatsK_one b2, if_pos (.inl a1), page_old _ _ hr (nx2_ne p.ep)]
      exact ⟨rfl, _, _, b2, fun k => by rw [hlim, hlim]⟩
    · rw [seatsK_one b2, if_pos (.inl a1), page_old _ _ hr (nx_ne p.ep)]
      exact ⟨rfl, _, _, b2, fun k => by rw [hlim]⟩
  · rcases doK_seatC a2 D1.2.1 7 l[0].row l[0].col (.inr rfl) with ⟨b1, l2, b2⟩ | ⟨b1, b2⟩
    · rw [seatsK_one b2, if_pos (.inr b1), page_old _ _ hr (nx_ne p.ep)]
      exact ⟨rfl, _, _, b2, fun k => by rw [hlim]⟩
    · rw [seatsK_one b2, if_neg (by rintro (x | x); exact a1 x; exact b1 x), page_same hwf hpos]
      exact ⟨rfl, _, _, b2, fun k => rfl⟩

theorem rows_up {p : Pla} {l : List Sea} (hwf : Wf p l) : ∀ i (h : i + 1 < l.length), l[i].row < l[i + 1].row ∨ (l[i].row = l[i + 1].row ∧ l[i].col < l[i + 1].col) := by
  intro i h
  have a := hwf.place i (show i < l.length by omega)
  have b := hwf.place (i + 1) h
  have hB := hwf.bounds
  simp only at a b hB
  rw [a.1, a.2, b.1, b.2]
  obtain ⟨C, hC⟩ : ∃ C : Nat, p.cols = (C : Int) := ⟨p.cols.toNat, by omega⟩
  rw [hC]
  have hC1 : 1 ≤ C ∧ C ≤ 6 := by omega
  have : C = 1 ∨ C = 2 ∨ C = 3 ∨ C = 4 ∨ C = 5 ∨ C = 6 := by omega
  rcases this with rfl | rfl | rfl | rfl | rfl | rfl <;> omega
end Go.Proofs.Ythhibagcpjeihaa
/- What is told of a flight is what counting its seats tells: the walk. -/
namespace Go.Proofs.Ythhibagcpjeihaa
open Go.RowKit
open M
set_option linter.unusedVariables false
set_option linter.unusedSimpArgs false
set_option maxRecDepth 100000
set_option maxHeartbeats 8000000

theorem counted_walk (kb : Nat) (n : Int) (p : Pla) (l : List Sea) (hwf : Wf p l) (w : World)
    (hSe : ∀ W, Mod No w W → Calls Try.prog 20 #[.pointer (some ⟨kb, 0, none⟩), .int .i64 n, .int .i64 30] W fun e w' => SeatsTold W w' e l)
    (hCo : ∀ W, Mod No w W → Calls Try.prog 19 #[.pointer (some ⟨kb, 0, none⟩), .int .i64 n] W fun e w' => e = .returned (.tuple #[.agg (totV p l), .int .i64 0]) ∧ Mod No W w')
    (hLe : ∀ W, Mod No w W → ∀ c : Nat, c < 4 → Calls Try.prog 25 #[.pointer (some ⟨kb, 0, none⟩), .int .i64 n, .int .i64 (c : Int)] W fun e w' => e = .returned (.tuple #[.int .i64 (min (M.leftOf p l c) 9), .int .i64 0]) ∧ Mod No W w') :
    Calls Try.prog 21 #[.pointer (some ⟨kb, 0, none⟩), .int .i64 n, .agg #[.int .i64 (p.lim 0), .int .i64 (p.lim 1), .int .i64 (p.lim 2), .int .i64 (p.lim 3)]] w fun e w' => e = .returned (.bool true) ∧ Mod No w w' := by
  have hl120 : l.length ≤ 120 := Fli.wf.len_le hwf
  have hpos := one_seat hwf
  have HWF := hide hwf
  have HSe := hide hSe
  have HCo := hide hCo
  have HLe := hide hLe
  have M0 := hide ((Mod.refl No w).alloc (.cells #[.int .i64 (p.lim 0), .int .i64 (p.lim 1), .int .i64 (p.lim 2), .int .i64 (p.lim 3)] 33))
  have B0 := hide (Has.new w #[.int .i64 (p.lim 0), .int .i64 (p.lim 1), .int .i64 (p.lim 2), .int .i64 (p.lim 3)] 33)
  clear hwf hSe hCo hLe
  go_enter Try.func21, Try.ntmps21
  go_wp2_with fail
  refine ((unhide HSe) _ (unhide M0)).mono ?_
  rintro e w1 ⟨⟨a1, c1, rfl, ho1, hn1⟩, m1⟩
  obtain ⟨g, rfl, hR1⟩ := rowS_told ho1 hpos
  have M1 := hide ((unhide M0).trans m1)
  have R1 := hide hR1
  have B1 := hide (m1.has (unhide B0) (fun x => x))
  have GN := hide (show w.heap.size + 1 ≤ g from by have := hn1 g rfl; simpa using this)
  clear m1 ho1 hn1 hR1 HSe M0 B0
  go_wp2_with fail
  refine ((unhide HCo) _ (unhide M1)).mono ?_
  rintro e w2 ⟨rfl, m2⟩
  have M2 := hide ((unhide M1).trans m2)
  have R2 := hide ((unhide R1).mod m2 (fun x => x))
  have B2 := hide (m2.has (unhide B1) (fun x => x))
  clear m2 HCo M1 R1 B1
  unfold totV
  go_upto_region 7 with fail
  have mm : Mod No w2 (((w2.alloc (.cells #[.int .i64 (cA p l 0), .int .i64 (cA p l 1), .int .i64 (cA p l 2), .int .i64 (cA p l 3), .int .i64 (cB p l 0), .int .i64 (cB p l 1), .int .i64 (cB p l 2), .int .i64 (cB p l 3), .int .i64 (cS l 0), .int .i64 (cS l 1), .int .i64 (cS l 2), .int .i64 (cS l 3)] 45)).alloc (.cells #[.int .i64 0, .int .i64 0, .int .i64 0, .int .i64 0] 33)).alloc (.cells #[.int .i64 0, .int .i64 0, .int .i64 0, .int .i64 0] 33)) := (((Mod.refl _ w2).alloc _).alloc _).alloc _
  have hT := ((Has.new w2 #[.int .i64 (cA p l 0), .int .i64 (cA p l 1), .int .i64 (cA p l 2), .int .i64 (cA p l 3), .int .i64 (cB p l 0), .int .i64 (cB p l 1), .int .i64 (cB p l 2), .int .i64 (cB p l 3), .int .i64 (cS l 0), .int .i64 (cS l 1), .int .i64 (cS l 2), .int .i64 (cS l 3)] 45).alloc (.cells #[.int .i64 0, .int .i64 0, .int .i64 0, .int .i64 0] 33)).alloc (.cells #[.int .i64 0, .int .i64 0, .int .i64 0, .int .i64 0] 33)
  have hA := (Has.new (w2.alloc (.cells #[.int .i64 (cA p l 0), .int .i64 (cA p l 1), .int .i64 (cA p l 2), .int .i64 (cA p l 3), .int .i64 (cB p l 0), .int .i64 (cB p l 1), .int .i64 (cB p l 2), .int .i64 (cB p l 3), .int .i64 (cS l 0), .int .i64 (cS l 1), .int .i64 (cS l 2), .int .i64 (cS l 3)] 45)) #[.int .i64 0, .int .i64 0, .int .i64 0, .int .i64 0] 33).alloc (.cells #[.int .i64 0, .int .i64 0, .int .i64 0, .int .i64 0] 33)
  have hD := Has.new ((w2.alloc (.cells #[.int .i64 (cA p l 0), .int .i64 (cA p l 1), .int .i64 (cA p l 2), .int .i64 (cA p l 3), .int .i64 (cB p l 0), .int .i64 (cB p l 1), .int .i64 (cB p l 2), .int .i64 (cB p l 3), .int .i64 (cS l 0), .int .i64 (cS l 1), .int .i64 (cS l 2), .int .i64 (cS l 3)] 45)).alloc (.cells #[.int .i64 0, .int .i64 0, .int .i64 0, .int .i64 0] 33)) #[.int .i64 0, .int .i64 0, .int .i64 0, .int .i64 0] 33
  rw [World.size_alloc] at hA
  rw [World.size_alloc, World.size_alloc] at hD
  have HT := hide hT
  have I0 := hide (show CouI (((w2.alloc (.cells #[.int .i64 (cA p l 0), .int .i64 (cA p l 1), .int .i64 (cA p l 2), .int .i64 (cA p l 3), .int .i64 (cB p l 0), .int .i64 (cB p l 1), .int .i64 (cB p l 2), .int .i64 (cB p l 3), .int .i64 (cS l 0), .int .i64 (cS l 1), .int .i64 (cS l 2), .int .i64 (cS l 3)] 45)).alloc (.cells #[.int .i64 0, .int .i64 0, .int .i64 0, .int .i64 0] 33)).alloc (.cells #[.int .i64 0, .int .i64 0, .int .i64 0, .int .i64 0] 33)) (((w2.alloc (.cells #[.int .i64 (cA p l 0), .int .i64 (cA p l 1), .int .i64 (cA p l 2), .int .i64 (cA p l 3), .int .i64 (cB p l 0), .int .i64 (cB p l 1), .int .i64 (cB p l 2), .int .i64 (cB p l 3), .int .i64 (cS l 0), .int .i64 (cS l 1), .int .i64 (cS l 2), .int .i64 (cS l 3)] 45)).alloc (.cells #[.int .i64 0, .int .i64 0, .int .i64 0, .int .i64 0] 33)).alloc (.cells #[.int .i64 0, .int .i64 0, .int .i64 0, .int .i64 0] 33)) (w2.heap.size + 1) (w2.heap.size + 1 + 1) l 0 from ⟨hA, hD, Mod.refl _ _⟩)
  have M3 := hide ((unhide M2).trans mm)
  have R3 := hide ((unhide R2).mod mm (fun x => x))
  have B3 := hide (mm.has (unhide B2) (fun x => x))
  have NN := hide (show g < w2.heap.size ∧ w.heap.size < w2.heap.size ∧ w.heap.size ≤ w2.heap.size from by
    have h1 := (unhide R2).lt
    have h2 := (unhide B2).lt
    omega)
  clear mm hT hA hD M2 R2 B2
  generalize (((w2.alloc (.cells #[.int .i64 (cA p l 0), .int .i64 (cA p l 1), .int .i64 (cA p l 2), .int .i64 (cA p l 3), .int .i64 (cB p l 0), .int .i64 (cB p l 1), .int .i64 (cB p l 2), .int .i64 (cB p l 3), .int .i64 (cS l 0), .int .i64 (cS l 1), .int .i64 (cS l 2), .int .i64 (cS l 3)] 45)).alloc (.cells #[.int .i64 0, .int .i64 0, .int .i64 0, .int .i64 0] 33)).alloc (.cells #[.int .i64 0, .int .i64 0, .int .i64 0, .int .i64 0] 33)) = W3 at *
  have ND := hide (show g ≠ w2.heap.size + 1 ∧ g ≠ w2.heap.size + 1 + 1 ∧ w.heap.size ≠ w2.heap.size + 1 ∧ w.heap.size ≠ w2.heap.size + 1 + 1 ∧ w2.heap.size ≠ w2.heap.size + 1 ∧ w2.heap.size ≠ w2.heap.size + 1 + 1 ∧ w2.heap.size + 1 ≠ w2.heap.size + 1 + 1 ∧ w.heap.size ≤ w2.heap.size + 1 ∧ w.heap.size ≤ w2.heap.size + 1 + 1 from by have := unhide NN; omega)
  clear NN GN
  generalize w2.heap.size + 1 + 1 = db at *
  generalize w2.heap.size + 1 = ab at *
  generalize w2.heap.size = tb at *
  generalize hlb : w.heap.size = lb at *
  clear w2
  go_wp2_with fail
  go_loopw [13] (fun s wr => ∃ i : Nat, s = .int .i64 (i : Int) ∧ i ≤ l.length ∧ Hid (∃ wz, CouI W3 wz ab db l i ∧ Mod No wz wr)) (fun s _ => l.length - (intOf s).toNat)
  case atStart => exact ⟨0, rfl, by omega, hide ⟨_, unhide I0, Mod.refl _ _⟩⟩
  case round =>
    obtain ⟨i, rfl, hi, I⟩ := hrel
    obtain ⟨wz, hI, hz⟩ := unhide I
    by_cases hil : i < l.length
    · have hi1 : (i : Int) < (l.length : Int) := by omega
      have hi0 : (0 : Int) ≤ (i : Int) := by omega
      have hwi : IntKind.i64.wrap ((i : Int) + 1) = ((i + 1 : Nat) : Int) := by rw [wrap_id _ (by omega) (by omega)]; rfl
      have nd := unhide ND
      have R4 := hide (((unhide R3).mod hI.mod (by rintro (e | e); exact nd.1 e; exact nd.2.1 e)).mod hz (fun x => x))
      have a0 := (unhide R4).row i hil
      have a1 := (unhide R4).col i hil
      have a2 := (unhide R4).st i hil
      have a3 := (unhide R4).pa i hil
      have a4 := (unhide R4).cl i hil
      have a5 := (unhide R4).un i hil
      have glt := (unhide R4).lt
      have swf := (unhide HWF).seat _ (List.getElem_mem hil)
      obtain ⟨sn, hsn⟩ : ∃ sn : Nat, l[i].st = (sn : Int) := ⟨l[i].st.toNat, by have := swf.s0; omega⟩
      obtain ⟨cn, hcn⟩ : ∃ cn : Nat, l[i].cl = (cn : Int) := ⟨l[i].cl.toNat, by have := swf.c0; omega⟩
      have hs4 : sn < 4 := by have := swf.s1; omega
      have hc4 : cn < 4 := by have := swf.c1; omega
      have NEX := hide fun (wx : World) (hm : Mod No wz wx) => hI.next hm hil nd.2.2.2.2.2.2.1 sn cn hsn hcn hs4 hc4
      have SOLD := hide (show l[i].sold = (((sn : Int) == 1) || ((sn : Int) == 2)) from by unfold Sea.sold; rw [hsn])
      rw [hsn] at a2
      rw [hcn] at a4
      have HI := hide hil
      have HIS := hide hI
      have HZ := hide hz
      generalize l[i].row = r0 at *
      generalize l[i].col = c0 at *
      generalize l[i].pa = p0' at *
      generalize l[i].un = u0 at *
      clear swf nd hI hz I hsn hcn
      go_upto_region 11 with fail
      have mx : Mod No wz (wr.alloc (.cells #[.int .i64 r0, .int .i64 c0, .int .i64 (sn : Int), .int .i64 p0', .int .i64 (cn : Int), .int .i64 u0] 61)) := (unhide HZ).alloc _
      have BX := hide (Has.new wr #[.int .i64 r0, .int .i64 c0, .int .i64 (sn : Int), .int .i64 p0', .int .i64 (cn : Int), .int .i64 u0] 61)
      have HN1 := hide ((unhide NEX) _ mx).1
      have HN2 := hide ((unhide NEX) _ mx).2
      have HA := hide (mx.has (unhide HIS).all (fun x => x))
      have HD := hide (mx.has (unhide HIS).sold (fun x => x))
      have NX := hide (show wr.heap.size ≠ ab ∧ wr.heap.size ≠ db from by
        have h1 := (unhide HIS).all.lt
        have h2 := (unhide HIS).sold.lt
        have := (unhide HZ).size
        omega)
      generalize wr.alloc (.cells #[.int .i64 r0, .int .i64 c0, .int .i64 (sn : Int), .int .i64 p0', .int .i64 (cn : Int), .int .i64 u0] 61) = wx at *
      generalize wr.heap.size = xb at *
      have hbx := (unhide BX).cell
      have lbx := (unhide BX).lt
      have ca := (unhide HA).cell sn
      rw [soldV_at _ sn hs4] at ca
      have fa := (unhide HA).frozen
      have la := (unhide HA).lt
      have cd := (unhide HD).cell cn
      rw [soldV_at _ cn hc4] at cd
      have fd := (unhide HD).frozen
      have ld := (unhide HD).lt
      have q1 : ¬ ((sn : Int) < 0) := by omega
      have q2 : ¬ ((sn : Int) > 3) := by omega
      have q3 : ¬ ((cn : Int) < 0) := by omega
      have q4 : ¬ ((cn : Int) > 3) := by omega
      have q5 : (sn : Int) < 4 := by omega
      have q6 : (cn : Int) < 4 := by omega
      have q7 : (0 : Int) ≤ (sn : Int) := by omega
      have q8 : (0 : Int) ≤ (cn : Int) := by omega
      have w1' : IntKind.i64.wrap (stN l i sn + 1) = stN l i sn + 1 := by
        have := countN_small (fun s => s.st == (sn : Int)) l i (by omega)
        unfold stN
        exact wrap_id _ (by omega) (by omega)
      have w2' : IntKind.i64.wrap (clN l i cn + 1) = clN l i cn + 1 := by
        have := countN_small (fun s => s.sold && s.cl == (cn : Int)) l i (by omega)
        unfold clN
        exact wrap_id _ (by omega) (by omega)
      have nx1 := (unhide NX).1
      have nx2 := (unhide NX).2
      have nx3 := (unhide ND).2.2.2.2.2.2.1
      generalize stN l i sn = x1 at *
      generalize clN l i cn = x2 at *
      have SNO := hide hs4
      clear HA HD BX NEX HIS HZ mx hs4 hc4 a0 a1 a2 a3 a4 a5 glt R4
      by_cases b1 : sn = 1
      · subst b1
        have HS1 := hide ((unhide HN2) (by rw [unhide SOLD]; rfl))
        clear HN1 HN2 SOLD
        go_wp2
        exact ⟨⟨i + 1, rfl, unhide HI, hide ⟨_, unhide HS1, Mod.refl _ _⟩⟩, by simp [intOf]; have := unhide HI; omega⟩
      · have b1' : ((sn : Int) == 1) = false := by simp; omega
        by_cases b2 : sn = 2
        · subst b2
          have HS1 := hide ((unhide HN2) (by rw [unhide SOLD]; rfl))
          clear HN1 HN2 SOLD
          go_wp2
          exact ⟨⟨i + 1, rfl, unhide HI, hide ⟨_, unhide HS1, Mod.refl _ _⟩⟩, by simp [intOf]; have := unhide HI; omega⟩
        · have b2' : ((sn : Int) == 2) = false := by simp; omega
          have HS1 := hide ((unhide HN1) (by rw [unhide SOLD, b1', b2']; rfl))
          clear HN1 HN2 SOLD
          go_wp2
          exact ⟨⟨i + 1, rfl, unhide HI, hide ⟨_, unhide HS1, Mod.refl _ _⟩⟩, by simp [intOf]; have := unhide HI; omega⟩
    · have hi1 : ¬ (i : Int) < (l.length : Int) := by omega
      have e : i = l.length := by omega
      subst e
      have nd := unhide ND
      have mall : Mod (fun k => k = ab ∨ k = db) W3 wr := hI.mod.trans (hz.mono (fun _ _ x => x.elim))
      have A4 := hide (hz.has hI.all (fun x => x))
      have D4 := hide (hz.has hI.sold (fun x => x))
      have T4 := hide (mall.has (unhide HT) (by rintro (e | e); exact nd.2.2.2.2.1 e; exact nd.2.2.2.2.2.1 e))
      have L4 := hide (mall.has (unhide B3) (by rintro (e | e); exact nd.2.2.1 e; exact nd.2.2.2.1 e))
      have R4 := hide ((unhide R3).mod mall (by rintro (e | e); exact nd.1 e; exact nd.2.1 e))
      have M4 := hide ((unhide M3).trans' mall (fun k hk hl => by
        have : lb ≤ ab ∧ lb ≤ db := ⟨nd.2.2.2.2.2.2.2.1, nd.2.2.2.2.2.2.2.2⟩
        exact (show False from by rcases hk with hk | hk <;> omega)))
      clear nd mall hI hz I hi1 hil hi M3 R3 B3 HT I0 ND
      go_wp2_with fail
      go_loopw [15] (fun s wx => ∃ c : Nat, s = .int .i64 (c : Int) ∧ c ≤ 4 ∧ Hid (Mod No wr wx)) (fun s _ => 4 - (intOf s).toNat)
      case atStart => exact ⟨0, rfl, by omega, hide (Mod.refl _ _)⟩
      case round =>
        obtain ⟨c, rfl, hc, M5⟩ := hrel
        by_cases hc4 : c < 4
        · have hc1 : (c : Int) < 4 := by omega
          have hc0 : (0 : Int) ≤ (c : Int) := by omega
          have hwc : IntKind.i64.wrap ((c : Int) + 1) = ((c + 1 : Nat) : Int) := by rw [wrap_id _ (by omega) (by omega)]; rfl
          go_wp2_with fail
          refine ((unhide HLe) _ ((unhide M4).trans (unhide M5)) c hc4).mono ?_
          rintro e w6 ⟨rfl, m6⟩
          have M6 := hide ((unhide M5).trans m6)
          have hlimw := (unhide HWF).limited
          simp only [Pla.limited, decide_eq_true_eq] at hlimw
          have HLW := hide fun (W : World) (hW : Mod No w6 W) => (show Calls Try.prog 46 #[.slice (some ⟨g, 0, none⟩) l.length c1, .agg #[.int .i64 (p.lim 0), .int .i64 (p.lim 1), .int .i64 (p.lim 2), .int .i64 (p.lim 3)], .int .i64 (c : Int)] W fun e w' => e = .returned (.int .i64 (min (M.leftOf p l c) 9)) ∧ Mod No W w' from
            least_walk g c1 p l c hc4 W ((unhide R4).mod ((unhide M6).trans hW) (fun x => x)) (by omega) (fun j => by
              have : p.lim j = p.l0 ∨ p.lim j = p.l1 ∨ p.lim j = p.l2 ∨ p.lim j = p.l3 := by
                cases j with
                | zero => exact .inl rfl
                | succ j => cases j with
                  | zero => exact .inr (.inl rfl)
                  | succ j => cases j with
                    | zero => exact .inr (.inr (.inl rfl))
                    | succ j => exact .inr (.inr (.inr rfl))
              omega) (fun i h => by
              have swf := (unhide HWF).seat _ (List.getElem_mem h)
              exact ⟨swf.c0, swf.c1⟩))
          have a6 := (unhide M6).has (unhide A4) (fun x => x)
          have d6 := (unhide M6).has (unhide D4) (fun x => x)
          have t6 := (unhide M6).has (unhide T4) (fun x => x)
          have l6 := (unhide M6).has (unhide L4) (fun x => x)
          have xa : ∀ x : Wd w6, x.W.cell? ⟨ab, c, none⟩ = some (.int .i64 (cA p l c + cB p l c)) := fun x => by
            rw [a6.wd x, soldV_at _ c hc4, stN_all p l c]
          have xd : ∀ x : Wd w6, x.W.cell? ⟨db, c, none⟩ = some (.int .i64 (cS l c)) := fun x => by
            rw [d6.wd x, soldV_at _ c hc4, clN_all l c]
          have hc' : c = 0 ∨ c = 1 ∨ c = 2 ∨ c = 3 := by omega
          have xt0 : ∀ x : Wd w6, x.W.cell? ⟨tb, c, none⟩ = some (.int .i64 (cA p l c)) := fun x => by
            rw [t6.wd x]; rcases hc' with rfl | rfl | rfl | rfl <;> rfl
          have xt1 : ∀ x : Wd w6, x.W.cell? ⟨tb, 4 + c, none⟩ = some (.int .i64 (cB p l c)) := fun x => by
            rw [t6.wd x]; rcases hc' with rfl | rfl | rfl | rfl <;> rfl
          have xt2 : ∀ x : Wd w6, x.W.cell? ⟨tb, 8 + c, none⟩ = some (.int .i64 (cS l c)) := fun x => by
            rw [t6.wd x]; rcases hc' with rfl | rfl | rfl | rfl <;> rfl
          have xl0 : ∀ x : Wd w6, x.W.cell? ⟨lb, 0, none⟩ = some (.int .i64 (p.lim 0)) := fun x => l6.wd x 0
          have xl1 : ∀ x : Wd w6, x.W.cell? ⟨lb, 1, none⟩ = some (.int .i64 (p.lim 1)) := fun x => l6.wd x 1
          have xl2 : ∀ x : Wd w6, x.W.cell? ⟨lb, 2, none⟩ = some (.int .i64 (p.lim 2)) := fun x => l6.wd x 2
          have xl3 : ∀ x : Wd w6, x.W.cell? ⟨lb, 3, none⟩ = some (.int .i64 (p.lim 3)) := fun x => l6.wd x 3
          have hws : IntKind.i64.wrap (cA p l c + cB p l c) = cA p l c + cB p l c := by
            have h1 := small_count l (by omega) (fun s => (decide (s.row ≤ p.front) == true) && s.st == (c : Int))
            have h2 := small_count l (by omega) (fun s => (decide (s.row ≤ p.front) == false) && s.st == (c : Int))
            unfold cA cB nAt
            exact wrap_id _ (by omega) (by omega)
          generalize cA p l c = A at *
          generalize cB p l c = B at *
          generalize cS l c = S at *
          generalize min (M.leftOf p l c) 9 = lf at *
          have hne := wd_ne w6
          have HC4 := hide hc4
          have M46 := hide m6
          clear a6 d6 t6 l6 m6 hlimw hc' hc4 HLe A4 D4 T4 L4 R4
          go_wp2_with fail
          refine wp_region_wd (w0 := w6) (by kernel_rfl) (by kernel_rfl) (Mod.refl _ _) ?_
          repeat (go_big_quiet_step ((go_at_call 46; exact Calls.wd _ ((unhide HLW) _ (Wd.h _)))))
          refine wpQuiet_nil ?_
          rintro w7 ⟨⟨_, hm7⟩, rfl⟩
          have M7 := hide ((unhide M6).trans hm7)
          clear hm7 xa xd xt0 xt1 xt2 xl0 xl1 xl2 xl3 hne
          go_wp2
          exact ⟨⟨c + 1, rfl, by have := unhide HC4; omega, M7⟩, by simp [intOf]; have := unhide HC4; omega⟩
        · have hc1 : ¬ (c : Int) < 4 := by omega
          have MF := hide ((unhide M4).trans (unhide M5))
          clear M5 M4 A4 D4 T4 L4 R4 HLe
          go_wp2
          go_ret
          exact ⟨rfl, unhide MF⟩
end Go.Proofs.Ythhibagcpjeihaa
/- A raw number is brought to one of n things. -/
namespace Go.Proofs.Ythhibagcpjeihaa
open Go.RowKit
set_option linter.unusedVariables false
set_option maxRecDepth 100000
set_option maxHeartbeats 2000000

theorem pick_any (c n : Int) (hc : -9223372036854775808 ≤ c ∧ c ≤ 9223372036854775807) (hn : 0 < n ∧ n ≤ 100000) (w : World) :
    Calls Try.prog 23 #[.int .i64 c, .int .i64 n] w fun e w' => e = .returned (.int .i64 (pickN c n)) ∧ w' = w := by
  unfold pickN
  have hz : n ≠ 0 := by omega
  by_cases h : c < 0
  · have h1 : IntKind.i64.wrap (c + 1) = c + 1 := wrap_fit _ (by omega) (by omega)
    have h2 : IntKind.i64.wrap (-(c + 1)) = -(c + 1) := wrap_fit _ (by omega) (by omega)
    go_enter Try.func23, Try.ntmps23
    go_wp2
    go_ret
    refine ⟨?_, rfl⟩
    rw [← Int.tmod_eq_emod_of_nonneg (by omega), Int.neg_tmod]
    rfl
  · go_enter Try.func23, Try.ntmps23
    go_wp2
    go_ret
    exact ⟨rfl, rfl⟩
end Go.Proofs.Ythhibagcpjeihaa
/- A raw step is brought to a command. -/
namespace Go.Proofs.Ythhibagcpjeihaa
open Go.RowKit
set_option linter.unusedVariables false
set_option linter.unusedSimpArgs false
set_option maxRecDepth 100000
set_option maxHeartbeats 20000000

/-- The first n cells are numbers. -/
def Ints (cs : Array Value) (n : Nat) : Prop := ∀ i, i < n → ∃ x : Int, cs[i]? = some (.int .i64 x) ∧ -9223372036854775808 ≤ x ∧ x ≤ 9223372036854775807

theorem Ints.set {cs : Array Value} {n : Nat} (h : Ints cs n) (o : Nat) (x : Int) (hx : -9223372036854775808 ≤ x ∧ x ≤ 9223372036854775807) : Ints (cs.setIfInBounds o (.int .i64 x)) n := by
  intro i hi
  obtain ⟨y, h1, h2⟩ := h i hi
  by_cases e : o = i
  · subst e
    refine ⟨x, ?_, hx⟩
    rw [Array.getElem?_setIfInBounds_self_of_lt]
    rcases Array.getElem?_eq_some_iff.1 h1 with ⟨q, _⟩
    exact q
  · exact ⟨y, by rw [Array.getElem?_setIfInBounds_ne e]; exact h1, h2⟩

/-- What stands while a step is tamed: the command's box, the result's box, and what was there is as it was. -/
structure TameI (w wx : World) : Prop where
  cmd : ∃ cs, cs.size = 16 ∧ Ints cs 16 ∧ Has wx (w.heap.size + 2) cs 37
  res : ∃ cs, cs.size = 16 ∧ Has wx (w.heap.size + 1) cs 37
  mod : Mod No w wx

theorem TameI.cell {w wx : World} (h : TameI w wx) (o : Nat) (ho : o < 16) : ∃ x : Int, wx.cell? ⟨w.heap.size + 2, o, none⟩ = some (.int .i64 x) ∧ -9223372036854775808 ≤ x ∧ x ≤ 9223372036854775807 := by
  obtain ⟨cs, h1, h2, h3⟩ := h.cmd
  obtain ⟨x, q, r⟩ := h2 o ho
  exact ⟨x, by rw [h3.cell, q], r⟩

theorem TameI.froz {w wx : World} (h : TameI w wx) (o : Nat) : wx.frozen? ⟨w.heap.size + 2, o, none⟩ = false := by
  obtain ⟨cs, h1, h2, h3⟩ := h.cmd
  exact h3.frozen o

theorem TameI.lt {w wx : World} (h : TameI w wx) : w.heap.size + 2 < wx.heap.size := by
  obtain ⟨cs, h1, h2, h3⟩ := h.cmd
  exact h3.lt

theorem TameI.set {w wx : World} (h : TameI w wx) (o : Nat) (x : Int) (hx : -9223372036854775808 ≤ x ∧ x ≤ 9223372036854775807) : TameI w (wx.setCell ⟨w.heap.size + 2, o, none⟩ (.int .i64 x)) := by
  obtain ⟨cs, h1, h2, h3⟩ := h.cmd
  obtain ⟨cr, r1, r2⟩ := h.res
  refine ⟨⟨_, by simpa using h1, h2.set o x hx, h3.set o _⟩, ⟨cr, r1, r2.set_ne (by show w.heap.size + 1 ≠ w.heap.size + 2; omega) _⟩, h.mod.setCell (.inr (by show w.heap.size ≤ w.heap.size + 2; omega)) _⟩

theorem TameI.drew {w wx : World} (h : TameI w wx) : TameI w wx.drew := ⟨h.cmd, h.res, h.mod.drew⟩

theorem pick_small (c n : Int) (hn : 0 < n ∧ n ≤ 100000) : -9223372036854775808 ≤ pickN c n ∧ pickN c n ≤ 9223372036854775807 ∧ IntKind.i64.wrap (1 + pickN c n) = 1 + pickN c n ∧ IntKind.i64.wrap (pickN c n + 1) = pickN c n + 1 := by
  have := pickN_range c n hn.1
  exact ⟨by omega, by omega, wrap_fit _ (by omega) (by omega), wrap_fit _ (by omega) (by omega)⟩

theorem size44 : (Try.prog.info? 37).map (·.size) = some 16 := by kernel_rfl
theorem row44 : (Try.prog.underlying 37).map (·.isRow) = some true := by kernel_rfl

abbrev step16 (x0 x1 x2 x3 x4 x5 x6 x7 x8 x9 x10 x11 x12 x13 x14 x15 : Int) : Array Value := #[.int .i64 x0, .int .i64 x1, .int .i64 x2, .int .i64 x3, .int .i64 x4, .int .i64 x5, .int .i64 x6, .int .i64 x7, .int .i64 x8, .int .i64 x9, .int .i64 x10, .int .i64 x11, .int .i64 x12, .int .i64 x13, .int .i64 x14, .int .i64 x15]
abbrev zero16 : Array Value := #[.int .i64 0, .int .i64 0, .int .i64 0, .int .i64 0, .int .i64 0, .int .i64 0, .int .i64 0, .int .i64 0, .int .i64 0, .int .i64 0, .int .i64 0, .int .i64 0, .int .i64 0, .int .i64 0, .int .i64 0, .int .i64 0]

theorem Ints.lits {cs : Array Value} (h : Ints cs 16) (hs : cs.size = 16) : ∃ z0 z1 z2 z3 z4 z5 z6 z7 z8 z9 z10 z11 z12 z13 z14 z15 : Int, cs = #[.int .i64 z0, .int .i64 z1, .int .i64 z2, .int .i64 z3, .int .i64 z4, .int .i64 z5, .int .i64 z6, .int .i64 z7, .int .i64 z8, .int .i64 z9, .int .i64 z10, .int .i64 z11, .int .i64 z12, .int .i64 z13, .int .i64 z14, .int .i64 z15] := by
  obtain ⟨z0, q0, _⟩ := h 0 (by omega)
  obtain ⟨z1, q1, _⟩ := h 1 (by omega)
  obtain ⟨z2, q2, _⟩ := h 2 (by omega)
  obtain ⟨z3, q3, _⟩ := h 3 (by omega)
  obtain ⟨z4, q4, _⟩ := h 4 (by omega)
  obtain ⟨z5, q5, _⟩ := h 5 (by omega)
  obtain ⟨z6, q6, _⟩ := h 6 (by omega)
  obtain ⟨z7, q7, _⟩ := h 7 (by omega)
  obtain ⟨z8, q8, _⟩ := h 8 (by omega)
  obtain ⟨z9, q9, _⟩ := h 9 (by omega)
  obtain ⟨z10, q10, _⟩ := h 10 (by omega)
  obtain ⟨z11, q11, _⟩ := h 11 (by omega)
  obtain ⟨z12, q12, _⟩ := h 12 (by omega)
  obtain ⟨z13, q13, _⟩ := h 13 (by omega)
  obtain ⟨z14, q14, _⟩ := h 14 (by omega)
  obtain ⟨z15, q15, _⟩ := h 15 (by omega)
  refine ⟨z0, z1, z2, z3, z4, z5, z6, z7, z8, z9, z10, z11, z12, z13, z14, z15, Array.ext (by rw [hs]; rfl) (fun i h1 h2 => ?_)⟩
  have : i = 0 ∨ i = 1 ∨ i = 2 ∨ i = 3 ∨ i = 4 ∨ i = 5 ∨ i = 6 ∨ i = 7 ∨ i = 8 ∨ i = 9 ∨ i = 10 ∨ i = 11 ∨ i = 12 ∨ i = 13 ∨ i = 14 ∨ i = 15 := by omega
  rcases this with rfl | rfl | rfl | rfl | rfl | rfl | rfl | rfl | rfl | rfl | rfl | rfl | rfl | rfl | rfl | rfl
  · rw [Array.getElem?_eq_getElem h1] at q0; exact Option.some.inj q0
  · rw [Array.getElem?_eq_getElem h1] at q1; exact Option.some.inj q1
  · rw [Array.getElem?_eq_getElem h1] at q2; exact Option.some.inj q2
  · rw [Array.getElem?_eq_getElem h1] at q3; exact Option.some.inj q3
  · rw [Array.getElem?_eq_getElem h1] at q4; exact Option.some.inj q4
  · rw [Array.getElem?_eq_getElem h1] at q5; exact Option.some.inj q5
  · rw [Array.getElem?_eq_getElem h1] at q6; exact Option.some.inj q6
  · rw [Array.getElem?_eq_getElem h1] at q7; exact Option.some.inj q7
  · rw [Array.getElem?_eq_getElem h1] at q8; exact Option.some.inj q8
  · rw [Array.getElem?_eq_getElem h1] at q9; exact Option.some.inj q9
  · rw [Array.getElem?_eq_getElem h1] at q10; exact Option.some.inj q10
  · rw [Array.getElem?_eq_getElem h1] at q11; exact Option.some.inj q11
  · rw [Array.getElem?_eq_getElem h1] at q12; exact Option.some.inj q12
  · rw [Array.getElem?_eq_getElem h1] at q13; exact Option.some.inj q13
  · rw [Array.getElem?_eq_getElem h1] at q14; exact Option.some.inj q14
  · rw [Array.getElem?_eq_getElem h1] at q15; exact Option.some.inj q15

theorem tamed_start (x0 x1 x2 x3 x4 x5 x6 x7 x8 x9 x10 x11 x12 x13 x14 x15 k fu : Int) (kp sp fa : Value) (hi : Ints #[.int .i64 x0, .int .i64 x1, .int .i64 x2, .int .i64 x3, .int .i64 x4, .int .i64 x5, .int .i64 x6, .int .i64 x7, .int .i64 x8, .int .i64 x9, .int .i64 x10, .int .i64 x11, .int .i64 x12, .int .i64 x13, .int .i64 x14, .int .i64 x15] 16) (w : World) : TameI w (((w.alloc (.cells #[.int .i64 x0, .int .i64 x1, .int .i64 x2, .int .i64 x3, .int .i64 x4, .int .i64 x5, .int .i64 x6, .int .i64 x7, .int .i64 x8, .int .i64 x9, .int .i64 x10, .int .i64 x11, .int .i64 x12, .int .i64 x13, .int .i64 x14, .int .i64 x15, .int .i64 k, .int .i64 fu, kp, sp, fa] 41)).alloc (.cells #[.int .i64 0, .int .i64 0, .int .i64 0, .int .i64 0, .int .i64 0, .int .i64 0, .int .i64 0, .int .i64 0, .int .i64 0, .int .i64 0, .int .i64 0, .int .i64 0, .int .i64 0, .int .i64 0, .int .i64 0, .int .i64 0] 37)).alloc (.cells #[.int .i64 x0, .int .i64 x1, .int .i64 x2, .int .i64 x3, .int .i64 x4, .int .i64 x5, .int .i64 x6, .int .i64 x7, .int .i64 x8, .int .i64 x9, .int .i64 x10, .int .i64 x11, .int .i64 x12, .int .i64 x13, .int .i64 x14, .int .i64 x15] 37)) := by
  refine ⟨⟨#[.int .i64 x0, .int .i64 x1, .int .i64 x2, .int .i64 x3, .int .i64 x4, .int .i64 x5, .int .i64 x6, .int .i64 x7, .int .i64 x8, .int .i64 x9, .int .i64 x10, .int .i64 x11, .int .i64 x12, .int .i64 x13, .int .i64 x14, .int .i64 x15], rfl, hi, ?_⟩, ⟨#[.int .i64 0, .int .i64 0, .int .i64 0, .int .i64 0, .int .i64 0, .int .i64 0, .int .i64 0, .int .i64 0, .int .i64 0, .int .i64 0, .int .i64 0, .int .i64 0, .int .i64 0, .int .i64 0, .int .i64 0, .int .i64 0], rfl, ?_⟩, (((Mod.refl No w).alloc _).alloc _).alloc _⟩
  · have := Has.new ((w.alloc (.cells #[.int .i64 x0, .int .i64 x1, .int .i64 x2, .int .i64 x3, .int .i64 x4, .int .i64 x5, .int .i64 x6, .int .i64 x7, .int .i64 x8, .int .i64 x9, .int .i64 x10, .int .i64 x11, .int .i64 x12, .int .i64 x13, .int .i64 x14, .int .i64 x15, .int .i64 k, .int .i64 fu, kp, sp, fa] 41)).alloc (.cells #[.int .i64 0, .int .i64 0, .int .i64 0, .int .i64 0, .int .i64 0, .int .i64 0, .int .i64 0, .int .i64 0, .int .i64 0, .int .i64 0, .int .i64 0, .int .i64 0, .int .i64 0, .int .i64 0, .int .i64 0, .int .i64 0] 37)) #[.int .i64 x0, .int .i64 x1, .int .i64 x2, .int .i64 x3, .int .i64 x4, .int .i64 x5, .int .i64 x6, .int .i64 x7, .int .i64 x8, .int .i64 x9, .int .i64 x10, .int .i64 x11, .int .i64 x12, .int .i64 x13, .int .i64 x14, .int .i64 x15] 37
    simp only [World.size_alloc] at this
    exact this
  · have := (Has.new (w.alloc (.cells #[.int .i64 x0, .int .i64 x1, .int .i64 x2, .int .i64 x3, .int .i64 x4, .int .i64 x5, .int .i64 x6, .int .i64 x7, .int .i64 x8, .int .i64 x9, .int .i64 x10, .int .i64 x11, .int .i64 x12, .int .i64 x13, .int .i64 x14, .int .i64 x15, .int .i64 k, .int .i64 fu, kp, sp, fa] 41)) #[.int .i64 0, .int .i64 0, .int .i64 0, .int .i64 0, .int .i64 0, .int .i64 0, .int .i64 0, .int .i64 0, .int .i64 0, .int .i64 0, .int .i64 0, .int .i64 0, .int .i64 0, .int .i64 0, .int .i64 0, .int .i64 0] 37).alloc (.cells #[.int .i64 x0, .int .i64 x1, .int .i64 x2, .int .i64 x3, .int .i64 x4, .int .i64 x5, .int .i64 x6, .int .i64 x7, .int .i64 x8, .int .i64 x9, .int .i64 x10, .int .i64 x11, .int .i64 x12, .int .i64 x13, .int .i64 x14, .int .i64 x15] 37)
    simp only [World.size_alloc] at this
    exact this

def dropSeq : Nat → Code → Code
  | 0, c => c
  | n + 1, .seq _ b => dropSeq n b
  | _, c => c
noncomputable def tameRest (n : Nat) : Code := dropSeq n (Try.f17.body.getD .skip)
end Go.Proofs.Ythhibagcpjeihaa
