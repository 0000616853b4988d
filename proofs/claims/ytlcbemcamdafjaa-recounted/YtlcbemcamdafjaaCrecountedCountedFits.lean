import Derived.Test.YtlcbemcamdafjaaCrecountedLeast
import Derived.Deep.DeepCutAuto
import Derived.Test.YtlcbemcamdafjaaCrecountedKeep8Pg6
import Derived.Handy
import Derived.Test.YtlcbemcamdafjaaCrecountedCellsTape
import Derived.Test.YtlcbemcamdafjaaCrecountedOver
/- What is told of a flight is what counting its seats tells. -/
namespace Go.Proofs.Ytlcbemcamdafjaa
open Go.RowKit
open M
set_option linter.unusedVariables false
set_option linter.unusedSimpArgs false
set_option maxRecDepth 100000
set_option maxHeartbeats 4000000

/-- Seats of a state, seats sold of a class, among the first. -/
def stN (l : List Sea) (i q : Nat) : Int := ((l.take i).countP (fun s => s.st == (q : Int)) : Nat)
def clN (l : List Sea) (i q : Nat) : Int := ((l.take i).countP (fun s => s.sold && s.cl == (q : Int)) : Nat)

theorem countN_succ (f : Sea → Bool) (l : List Sea) (i : Nat) (h : i < l.length) : (((l.take (i + 1)).countP f : Nat) : Int) = ((l.take i).countP f : Nat) + (if f l[i] = true then 1 else 0) := by
  rw [take_succ l i h, List.countP_append]
  cases hf : f l[i] <;> simp [hf]
theorem countN_small (f : Sea → Bool) (l : List Sea) (i : Nat) (h : l.length ≤ 1000) : (0 : Int) ≤ ((l.take i).countP f : Nat) ∧ (((l.take i).countP f : Nat) : Int) ≤ 1000 := by
  have : (l.take i).countP f ≤ (l.take i).length := List.countP_le_length
  rw [List.length_take] at this
  omega

theorem stN_all (p : Pla) (l : List Sea) (q : Nat) : stN l l.length q = cA p l q + cB p l q := by
  unfold stN cA cB nAt
  rw [List.take_length]
  simp only [beq_true, beq_false]
  induction l with
  | nil => rfl
  | cons s l ih =>
    simp only [List.countP_cons]
    cases h1 : decide (s.row ≤ p.front) <;> cases h2 : (s.st == (q : Int)) <;> simp [h1, h2] <;> omega

theorem clN_all (l : List Sea) (q : Nat) : clN l l.length q = cS l q := by
  unfold clN cS nSold
  rw [List.take_length]

/-- What stands while the seats are counted. -/
structure CouI (W1 wr : World) (ab db : Nat) (l : List Sea) (i : Nat) : Prop where
  all : Has wr ab (soldV fun q => stN l i q) 33
  sold : Has wr db (soldV fun q => clN l i q) 33
  mod : Mod (fun k => k = ab ∨ k = db) W1 wr

theorem CouI.next {W1 wr wx : World} {ab db i : Nat} {l : List Sea} (h : CouI W1 wr ab db l i) (hm : Mod No wr wx) (hi : i < l.length) (hne : ab ≠ db) (sn cn : Nat) (hs : l[i].st = (sn : Int)) (hc : l[i].cl = (cn : Int)) (hsn : sn < 4) (hcn : cn < 4) :
    (l[i].sold = false → CouI W1 (wx.setCell ⟨ab, sn, none⟩ (.int .i64 (stN l i sn + 1))) ab db l (i + 1)) ∧
    (l[i].sold = true → CouI W1 ((wx.setCell ⟨ab, sn, none⟩ (.int .i64 (stN l i sn + 1))).setCell ⟨db, cn, none⟩ (.int .i64 (clN l i cn + 1))) ab db l (i + 1)) := by
  have a := hm.has h.all (fun x => x)
  have d := hm.has h.sold (fun x => x)
  have m : Mod (fun k => k = ab ∨ k = db) W1 wx := h.mod.trans (hm.mono (fun _ _ x => x.elim))
  have e1 : (soldV fun q => stN l i q).setIfInBounds sn (.int .i64 (stN l i sn + 1)) = soldV fun q => stN l (i + 1) q := by
    rw [soldV_set _ sn hsn]
    refine soldV_congr fun q hq => ?_
    unfold stN
    rw [countN_succ _ l i hi, hs]
    by_cases e : q = sn
    · subst e; simp
    · have : ¬ ((sn : Int) = (q : Int)) := by omega
      simp [e, this]
  have e2 : l[i].sold = false → soldV (fun q => clN l i q) = soldV fun q => clN l (i + 1) q := fun hf => by
    refine soldV_congr fun q hq => ?_
    unfold clN
    rw [countN_succ _ l i hi, hf]
    simp
  have e3 : l[i].sold = true → (soldV fun q => clN l i q).setIfInBounds cn (.int .i64 (clN l i cn + 1)) = soldV fun q => clN l (i + 1) q := fun hf => by
    rw [soldV_set _ cn hcn]
    refine soldV_congr fun q hq => ?_
    unfold clN
    rw [countN_succ _ l i hi, hf, hc]
    by_cases e : q = cn
    · subst e; simp
    · have : ¬ ((cn : Int) = (q : Int)) := by omega
      simp [e, this]
  have m1 : Mod (fun k => k = ab) wx (wx.setCell ⟨ab, sn, none⟩ (.int .i64 (stN l i sn + 1))) := (Mod.refl _ wx).at sn _
  have a1 := a.set sn (.int .i64 (stN l i sn + 1))
  rw [e1] at a1
  have d1 := m1.has d (fun e => hne e.symm)
  have mm1 : Mod (fun k => k = ab ∨ k = db) W1 (wx.setCell ⟨ab, sn, none⟩ (.int .i64 (stN l i sn + 1))) := m.trans (m1.mono (fun _ _ x => .inl x))
  refine ⟨fun hf => ⟨a1, by rw [← e2 hf]; exact d1, mm1⟩, fun hf => ?_⟩
  have m2 : Mod (fun k => k = db) (wx.setCell ⟨ab, sn, none⟩ (.int .i64 (stN l i sn + 1))) ((wx.setCell ⟨ab, sn, none⟩ (.int .i64 (stN l i sn + 1))).setCell ⟨db, cn, none⟩ (.int .i64 (clN l i cn + 1))) := (Mod.refl _ _).at cn _
  have d2 := d1.set cn (.int .i64 (clN l i cn + 1))
  rw [e3 hf] at d2
  exact ⟨m2.has a1 hne, d2, mm1.trans (m2.mono (fun _ _ x => .inr x))⟩
end Go.Proofs.Ytlcbemcamdafjaa
/- A keeper with one flight is begun. -/
namespace Go.Proofs.Ytlcbemcamdafjaa
open Go.RowKit
open Go.ChangeMaps (setBlock)
open M
set_option linter.unusedVariables false
set_option linter.unusedSimpArgs false
set_option maxRecDepth 100000
set_option maxHeartbeats 2000000

def p0 : Pla := ⟨4, 3, 2, 10, 8, 5, 1, 1⟩
def addC : Cmd := ⟨1, 1, 0, 0, 0, 0, 0, 0, 0, p0⟩
def fl0 : Nat → Option (Pla × List Sea) := fun j => if j = 1 then some (p0, emptySeats p0) else none

theorem doK_begun : doK 0 noFl addC = (0, 0, fl0) := by
  unfold doK
  rw [if_neg (by decide), if_neg (by decide), if_neg (by decide)]
  simp only [noFl]
  rw [if_pos (by decide), if_pos (by decide)]
  rfl
theorem left_begun0 : leftK fl0 1 0 = (9, 0) := by decide +kernel
theorem left_begun2 : leftK fl0 1 2 = (5, 0) := by decide +kernel

theorem begun_any (tb : Nat) (cs : Array Value) (w : World) (h : Has w tb cs 96) (h8 : cs[8]? = some (.int .i64 1099511627776)) :
    Calls Try.prog 12 #[.pointer (some ⟨tb, 0, none⟩)] w fun e w' => e = .returned (.tuple #[.pointer (some ⟨w.heap.size, 0, none⟩), .bool true]) ∧
      (∃ ow, KeepH w' ow w.heap.size 0 fl0 ∧ ∀ k, k < w.heap.size → ow k = 0) ∧ Mod No w w' := by
  have HO := hide (open_walk tb 1099511627776 cs w h h8 (by omega))
  have K0 := hide (keep_start w)
  have M0 := hide ((Mod.refl No w).alloc (.cells (keepCells 0 noP) 108))
  have l0 := (Has.new w (keepCells 0 noP) 108).lt
  clear h h8
  go_enter Try.func12, Try.ntmps12
  go_wp2_with fail
  refine (unhide HO).mono ?_
  rintro e w1 ⟨rfl, rfl⟩
  clear HO
  generalize w.alloc (.cells (keepCells 0 noP) 108) = w1 at *
  go_wp2_with fail
  have HD : Calls Try.prog 24 #[.pointer (some ⟨w.heap.size, 0, none⟩), .agg #[.int .i64 1, .int .i64 1, .int .i64 0, .int .i64 0, .int .i64 0, .int .i64 0, .int .i64 0, .int .i64 0, .int .i64 0, .int .i64 4, .int .i64 3, .int .i64 2, .int .i64 10, .int .i64 8, .int .i64 5, .int .i64 1]] (w1.alloc (.cells #[.int .i64 4, .int .i64 3, .int .i64 2, .int .i64 10, .int .i64 8, .int .i64 5, .int .i64 1] 35)) fun e w' => e = .returned (.int .i64 0) ∧ Kept (w1.alloc (.cells #[.int .i64 4, .int .i64 3, .int .i64 2, .int .i64 10, .int .i64 8, .int .i64 5, .int .i64 1] 35)) w' (fun k => if k = w.heap.size then 1 else 0) w.heap.size 0 fl0 := by
    have := do_any ((unhide K0).mod ((Mod.refl No _).alloc (.cells #[.int .i64 4, .int .i64 3, .int .i64 2, .int .i64 10, .int .i64 8, .int .i64 5, .int .i64 1] 35)) (fun _ _ x => x)) (by omega) addC
    rw [doK_begun] at this
    exact this
  refine HD.mono ?_
  rintro e w2 ⟨rfl, ⟨ow, k2, ho⟩, m2⟩
  have H0 : ∀ W, Mod No w2 W → Calls Try.prog 23 #[.pointer (some ⟨w.heap.size, 0, none⟩), .int .i64 1, .int .i64 0] W fun e w' => e = .returned (.tuple #[.int .i64 9, .int .i64 0]) ∧ Mod No W w' := fun W hW => by
    have := left_any (k2.mod hW (fun _ _ x => x)) 1 0
    rw [left_begun0] at this
    exact this
  have H2 : ∀ W, Mod No w2 W → Calls Try.prog 23 #[.pointer (some ⟨w.heap.size, 0, none⟩), .int .i64 1, .int .i64 2] W fun e w' => e = .returned (.tuple #[.int .i64 5, .int .i64 0]) ∧ Mod No W w' := fun W hW => by
    have := left_any (k2.mod hW (fun _ _ x => x)) 1 2
    rw [left_begun2] at this
    exact this
  have K2 := hide k2
  have OW := hide ho
  have M2 := hide ((((unhide M0).alloc _).mono (fun k hk (x : No k) => x.elim)).trans' (S := No) m2 (fun i hi hl => hi (if_neg (by omega))))
  have HH0 := hide H0
  have HH2 := hide H2
  clear H0 H2 k2 ho m2 HD K0 M0
  go_wp2_with fail
  refine ((unhide HH0) _ (Mod.refl _ _)).mono ?_
  rintro e w3 ⟨rfl, m3⟩
  have M3 := hide m3
  clear m3
  go_wp2_with fail
  refine ((unhide HH2) _ (unhide M3)).mono ?_
  rintro e w4 ⟨rfl, m4⟩
  have M4 := hide ((unhide M3).trans m4)
  clear m4
  go_wp2
  go_ret2
  refine ⟨rfl, ⟨ow, (unhide K2).mod (unhide M4) (fun _ _ x => x), fun k hk => ?_⟩, (unhide M2).trans (unhide M4)⟩
  rw [(unhide OW) k (by simp; omega)]
  exact if_neg (by omega)

theorem first_any (w : World) : Calls Try.prog 14 #[] w fun e w' => ∃ cs, cs.size = 84 ∧ e = .returned (.pointer (some ⟨w.heap.size, 0, none⟩)) ∧ Has w' w.heap.size cs 97 ∧ Mod No w w' := by
  go_enter Try.func14, Try.ntmps14
  go_wp2
  go_ret
  exact ⟨_, rfl, rfl, Has.new w _ _, (Mod.refl No w).alloc _⟩
end Go.Proofs.Ytlcbemcamdafjaa
/- A command is done, and the limits are kept in mind. -/
namespace Go.Proofs.Ytlcbemcamdafjaa
open Go.RowKit
open Go.ChangeMaps (setBlock)
open M
set_option linter.unusedVariables false
set_option linter.unusedSimpArgs false
set_option maxRecDepth 100000
set_option maxHeartbeats 2000000

structure DoesOk (w w' : World) (ow : Nat → Nat) (kb lb : Nat) (now : Int) (fl : Nat → Option (Pla × List Sea)) : Prop where
  keep : ∃ ow', KeepH w' ow' kb now fl ∧ ∀ k, k < w.heap.size → ow' k = ow k
  lim : ∃ cs, cs.size = 84 ∧ Has w' lb cs 97
  mod : Mod (fun k => ow k ≠ 0 ∨ k = lb) w w'

theorem doK_add {now : Int} {fl : Nat → Option (Pla × List Sea)} {c : Cmd} (h : (doK now fl c).1 = 0) (hk : c.kind = 1) : 1 ≤ c.flight ∧ c.flight ≤ 20 := by
  unfold doK at h
  rw [if_neg (by omega), if_neg (by omega)] at h
  by_cases hf : 1 ≤ c.flight ∧ c.flight ≤ 20
  · exact hf
  · rw [if_pos hf] at h
    exact absurd h (by simp)

theorem does_any {w : World} {ow : Nat → Nat} {kb lb : Nat} {now : Int} {fl : Nat → Option (Pla × List Sea)} (h : KeepH w ow kb now fl) (hn : 0 ≤ now ∧ now ≤ 4611686018427387000) (c : Cmd) (cs : Array Value) (hs : cs.size = 84) (hb : Has w lb cs 97) (hol : ow lb = 0) :
    Calls Try.prog 16 #[.pointer (some ⟨kb, 0, none⟩), .agg (cmdCells c), .pointer (some ⟨lb, 0, none⟩)] w fun e w' =>
      e = .returned (.int .i64 (doK now fl c).1) ∧ DoesOk w w' ow kb lb (doK now fl c).2.1 (doK now fl c).2.2 := by
  have hlb := hb.lt
  have HD := hide (do_any (h.mod ((Mod.refl No w).alloc (.cells (cmdCells c) 37)) (fun _ _ x => x)) hn c)
  have HB := hide (hb.alloc (.cells (cmdCells c) 37))
  have HC := hide (Has.new w (cmdCells c) 37)
  have M0 := hide ((Mod.refl No w).alloc (.cells (cmdCells c) 37))
  have HO := hide (show ow w.heap.size = 0 from by
    obtain ⟨pt, hx⟩ := h
    by_cases e : ow w.heap.size = 0
    · exact e
    · have := hx.old _ e; omega)
  have HA := hide fun (q : (doK now fl c).1 = 0) (r : c.kind = 1) => doK_add q r
  generalize doK now fl c = D at *
  obtain ⟨r, now', fl'⟩ := D
  simp only at *
  clear h hb
  unfold cmdCells at *
  go_enter Try.func16, Try.ntmps16
  go_wp2_with fail
  refine (unhide HD).mono ?_
  rintro e w2 ⟨rfl, ⟨ow', k2, ho⟩, m2⟩
  have b2 := m2.has (unhide HB) (by simp [hol])
  have c2 := m2.has (unhide HC) (by simp [unhide HO])
  have cc := c2.cell
  have M2 := hide (((unhide M0).mono (S' := fun k => ow k ≠ 0) (fun _ _ x => x.elim)).trans m2)
  have K2 := hide k2
  have HO2 := hide (fun k hk => ho k hk)
  have B2 := hide b2
  have lc2 := c2.lt
  have lb2 := b2.lt
  clear k2 ho m2 b2 c2 HD HB HC M0
  have R0 : DoesOk w w2 ow kb lb now' fl' := ⟨⟨ow', unhide K2, fun k hk => (unhide HO2) k (by simp; omega)⟩, ⟨cs, hs, unhide B2⟩, (unhide M2).mono (fun _ _ x => .inl x)⟩
  have R0 := hide R0
  by_cases h0 : r = 0
  case neg =>
    clear K2 HO2 B2 M2 HA
    have e0 : (r == 0) = false := by simp [h0]
    go_wp2
    go_ret
    exact ⟨rfl, unhide R0⟩
  by_cases h1 : c.kind = 1
  case neg =>
    clear K2 HO2 B2 M2 HA
    have e1 : (c.kind == 1) = false := by simp [h1]
    subst h0
    go_wp2
    go_ret
    exact ⟨rfl, unhide R0⟩
  obtain ⟨f1, f2⟩ := (unhide HA) h0 h1
  obtain ⟨n, hfn⟩ : ∃ n : Nat, c.flight = (n : Int) := ⟨c.flight.toNat, by omega⟩
  subst h0
  have e1 : (c.kind == 1) = true := by simp [h1]
  rw [hfn] at cc f1 f2
  have i21 : (n : Int) < 21 := by omega
  have i0 : (0 : Int) ≤ n := by omega
  have fz := (unhide B2).frozen
  obtain ⟨v0, g0⟩ : ∃ v, w2.cell? ⟨lb, n * 4, none⟩ = some v := ⟨_, by rw [(unhide B2).cell, Array.getElem?_eq_getElem (by omega)]⟩
  obtain ⟨v1, g1⟩ : ∃ v, w2.cell? ⟨lb, n * 4 + 1, none⟩ = some v := ⟨_, by rw [(unhide B2).cell, Array.getElem?_eq_getElem (by omega)]⟩
  obtain ⟨v2, g2⟩ : ∃ v, w2.cell? ⟨lb, n * 4 + 2, none⟩ = some v := ⟨_, by rw [(unhide B2).cell, Array.getElem?_eq_getElem (by omega)]⟩
  obtain ⟨v3, g3⟩ : ∃ v, w2.cell? ⟨lb, n * 4 + 3, none⟩ = some v := ⟨_, by rw [(unhide B2).cell, Array.getElem?_eq_getElem (by omega)]⟩
  have hp : ∀ o, (fun k => ow k ≠ 0 ∨ k = lb) (⟨lb, o, none⟩ : Addr).block ∨ w.heap.size ≤ (⟨lb, o, none⟩ : Addr).block := fun o => .inl (.inr rfl)
  have hq : ∀ o, (fun k => k = lb) (⟨lb, o, none⟩ : Addr).block ∨ w2.heap.size ≤ (⟨lb, o, none⟩ : Addr).block := fun o => .inl rfl
  have ol : ow' lb = 0 := by rw [(unhide HO2) lb (by simp; omega)]; exact hol
  have R1 := hide (show DoesOk w ((((w2.setCell ⟨lb, n * 4, none⟩ (.int .i64 c.pla.l0)).setCell ⟨lb, n * 4 + 1, none⟩ (.int .i64 c.pla.l1)).setCell ⟨lb, n * 4 + 2, none⟩ (.int .i64 c.pla.l2)).setCell ⟨lb, n * 4 + 3, none⟩ (.int .i64 c.pla.l3)).drew ow kb lb now' fl' from
    ⟨⟨ow', (unhide K2).mod (((((Mod.refl (fun k => k = lb) w2).setCell (hq _) _).setCell (hq _) _).setCell (hq _) _).setCell (hq _) _).drew (fun k hk e => by subst e; exact hk ol), fun k hk => (unhide HO2) k (by simp; omega)⟩,
     ⟨_, by simpa using hs, ((((((unhide B2).set (n * 4) _).set (n * 4 + 1) _).set (n * 4 + 2) _).set (n * 4 + 3) _)).drew⟩,
     (((((((unhide M2).mono (fun _ _ x => .inl x)).setCell (hp _) _).setCell (hp _) _).setCell (hp _) _).setCell (hp _) _)).drew⟩)
  clear K2 HO2 B2 M2 HA R0
  go_wp2_with fail
  go_region
  all_goals go_wp2
  all_goals go_ret
  all_goals exact ⟨rfl, unhide R1⟩
end Go.Proofs.Ytlcbemcamdafjaa
/- No class is sold above its limit: it stays so. -/
namespace Go.Proofs.Ytlcbemcamdafjaa
open Go.RowKit
open M
set_option linter.unusedVariables false
set_option linter.unusedSimpArgs false
set_option maxRecDepth 100000
set_option maxHeartbeats 2000000

/-- A question to a seat that asks not where it is, and that no free seat answers. -/
structure Ask (f : Sea → Bool) : Prop where
  full : ∀ s, f s = true → s.st ≠ 0
  at_ : ∀ s x, f (Sea.at s x) = f s

theorem Ask.free {f : Sea → Bool} (h : Ask f) {s : Sea} (h0 : s.st = 0) : f s = false := by
  cases hf : f s with
  | false => rfl
  | true => exact absurd h0 (h.full s hf)

def sold1 (f : Sea → Bool) (s : Sea) : Nat := if f s = true then 1 else 0

theorem count_put (f : Sea → Bool) (acc : List Sea) (j : Nat) (h : j < acc.length) (s : Sea) : (acc.set j s).countP f + sold1 f acc[j] = acc.countP f + sold1 f s := by
  have := countP_set f acc j h s
  unfold sold1
  cases h1 : f acc[j] <;> cases h2 : f s <;> simp [h1, h2] at this ⊢ <;> omega

theorem count_step (f : Sea → Bool) (l : List Sea) (i : Nat) (h : i < l.length) : (l.take (i + 1)).countP f = (l.take i).countP f + sold1 f l[i] := by
  rw [take_succ l i h, List.countP_append]
  unfold sold1
  cases hf : f l[i] <;> simp [hf]

theorem count_empty {f : Sea → Bool} (h : Ask f) (q : Pla) : (emptySeats q).countP f = 0 := by
  rw [List.countP_eq_zero]
  intro s hs
  simp only [emptySeats, List.mem_map] at hs
  obtain ⟨i, _, rfl⟩ := hs
  rw [h.free rfl]
  simp

theorem stay_count {f : Sea → Bool} (h : Ask f) {p q : Pla} {l : List Sea} (hwf : Wf p l) (h1 : q.sized = true) (h2 : q.limited = true) : ∀ i, i ≤ l.length → (stay q (l.take i)).countP f + (homeless q (l.take i)).countP f = (l.take i).countP f
  | 0, _ => by
    show (emptySeats q).countP f + 0 = 0
    rw [count_empty h]
  | i + 1, hi => by
    have ih := stay_count h hwf h1 h2 i (by omega)
    have hS := stayed_take hwf h1 h2 i (by omega)
    rw [stay_take q l i (by omega), homeless_take q l i (by omega), List.countP_append, count_step f l i (by omega)]
    unfold stayStep
    by_cases hc : l[i].st ≠ 0 ∧ q.has l[i].row l[i].col = true
    · rw [if_pos hc, if_neg (fun x => x.2 hc.2)]
      obtain ⟨hj, f0, _, _⟩ := hS.free hwf (by omega) hc.2
      have := count_put f (stay q (l.take i)) _ hj l[i]
      have e0 : sold1 f (stay q (l.take i))[q.idx l[i].row l[i].col] = 0 := by unfold sold1; rw [h.free f0]; rfl
      simp only [List.countP_nil]
      omega
    · rw [if_neg hc]
      by_cases h0 : l[i].st = 0
      · rw [if_neg (fun x => x.1 h0)]
        have e0 : sold1 f l[i] = 0 := by unfold sold1; rw [h.free h0]; rfl
        simp only [List.countP_nil]
        omega
      · rw [if_pos ⟨h0, fun x => hc ⟨h0, x⟩⟩]
        have : List.countP f [l[i]] = sold1 f l[i] := by
          unfold sold1
          cases hf : f l[i] <;> simp [hf]
        omega

theorem reseat_count {f : Sea → Bool} (h : Ask f) {q : Pla} : ∀ (hs acc : List Sea), (∀ s ∈ hs, s.wf ∧ s.st ≠ 0) → Reseat q acc hs.length → (hs.foldl reseatStep acc).countP f = acc.countP f + hs.countP f
  | [], acc, _, _ => by simp
  | s :: hs, acc, ho, hr => by
    have hr' : Reseat q acc (hs.length + 1) := hr
    have h1 := ho s (List.mem_cons_self)
    have ih := reseat_count h hs (reseatStep acc s) (fun x hx => ho x (List.mem_cons_of_mem _ hx)) (hr'.step h1.1 h1.2)
    have hl := firstFree_lt hr'
    have e : acc.getD (firstFree acc) noSea = acc[firstFree acc] := by
      rw [List.getD_eq_getElem?_getD, List.getElem?_eq_getElem hl]; rfl
    have hp := count_put f acc (firstFree acc) hl (Sea.at s acc[firstFree acc])
    have e0 : sold1 f acc[firstFree acc] = 0 := by unfold sold1; rw [h.free (firstFree_at hl)]; rfl
    have e1 : sold1 f (Sea.at s acc[firstFree acc]) = sold1 f s := by unfold sold1; rw [h.at_]
    have e2 : (reseatStep acc s).countP f = acc.countP f + sold1 f s := by
      unfold reseatStep
      rw [e]
      omega
    rw [List.foldl_cons, ih, e2, List.countP_cons]
    unfold sold1
    omega

theorem swap_count {f : Sea → Bool} (h : Ask f) {p q : Pla} {l : List Sea} (hwf : Wf p l) (h1 : q.sized = true) (h2 : q.limited = true) (hn : ¬ q.rows * q.cols < (nFull l : Int)) : (swapSeats q l).countP f = l.countP f := by
  unfold swapSeats
  rw [reseat_count h _ _ (homeless_ok hwf) (reseat_start hwf h1 h2 hn)]
  have := stay_count h hwf h1 h2 l.length (Nat.le_refl _)
  rw [List.take_length] at this
  exact this

theorem ask_from (k : Int) : Ask (takenIn k) := by
  refine ⟨fun s hs h0 => ?_, fun s x => rfl⟩
  unfold takenIn at hs
  rw [h0] at hs
  simp at hs

/-- No class of a flight is sold above its limit. -/
def FitL (p : Pla) (l : List Sea) : Prop := ∀ k : Nat, k < 4 → ((l.countP (takenIn (k : Int)) : Nat) : Int) ≤ p.lim k

theorem fit_empty {p : Pla} (h : p.limited = true) (q : Pla) (hq : ∀ k, q.lim k = p.lim k) : FitL q (emptySeats p) := by
  intro k hk
  rw [count_empty (ask_from k), hq]
  simp only [Pla.limited, decide_eq_true_eq] at h
  have : k = 0 ∨ k = 1 ∨ k = 2 ∨ k = 3 := by omega
  rcases this with rfl | rfl | rfl | rfl <;> simp [Pla.lim] <;> omega

theorem fit_swap {p q : Pla} {l : List Sea} (hf : FitL p l) (hwf : Wf p l) (h1 : q.sized = true) (h2 : (swapPla p q).limited = true) (hn : ¬ q.rows * q.cols < (nFull l : Int)) : FitL (swapPla p q) (swapSeats (swapPla p q) l) := by
  intro k hk
  rw [swap_count (q := swapPla p q) (ask_from k) hwf h1 h2 hn]
  exact hf k hk

theorem fit_tick {p : Pla} {l : List Sea} (hf : FitL p l) (now : Int) : FitL (tickP now p l) (tickSeats now l) := by
  intro k hk
  have h1 : (tickP now p l).lim k = p.lim k := by unfold tickP; split <;> rfl
  rw [h1]
  have h2 : (tickSeats now l).countP (takenIn k) ≤ l.countP (takenIn k) := by
    unfold tickSeats
    rw [List.countP_map]
    refine List.countP_mono_left fun s _ hs => ?_
    simp only [Function.comp] at hs
    split at hs
    · rw [(ask_from k).free rfl] at hs
      exact absurd hs (by simp)
    · exact hs
  have := hf k hk
  omega

theorem fit_le {p q : Pla} {l : List Sea} (hf : FitL p l) (hq : ∀ k, q.lim k = p.lim k) {j : Nat} (hj : j < l.length) (s : Sea) (hs : ∀ k : Nat, k < 4 → takenIn k s = true → takenIn k l[j] = true ∨ (l.countP (takenIn k) : Int) < p.lim k) : FitL q (l.set j s) := by
  intro k hk
  have h1 := count_put (takenIn k) l j hj s
  have h2 := hf k hk
  have h3 := hs k hk
  rw [hq]
  unfold sold1 at h1
  cases ha : takenIn k s with
  | false =>
    rw [ha] at h1
    simp at h1
    split at h1 <;> omega
  | true =>
    rw [ha, if_pos rfl] at h1
    rcases h3 ha with h4 | h4
    · rw [if_pos h4] at h1
      omega
    · split at h1 <;> omega
end Go.Proofs.Ytlcbemcamdafjaa
