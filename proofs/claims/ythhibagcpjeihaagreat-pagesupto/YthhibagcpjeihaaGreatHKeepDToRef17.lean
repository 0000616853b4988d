import Derived.Test.YthhibagcpjeihaaGreatHSwap5ToTape2
import Derived.Test.YthhibagcpjeihaaGreatHOpn2ToSav1
import Derived.Handy
import Derived.Test.YthhibagcpjeihaaGreatHRef13ToRef15
namespace Go.Proofs.YthhibagcpjeihaaGreat
open Go.RowKit
open Go.ChangeMaps (setBlock)
open M
set_option linter.unusedVariables false
set_option linter.unusedSimpArgs false
set_option maxRecDepth 100000
def entOf (now : Int) (c : Cmd) : Ent :=
 ⟨c.flight,
  if c.kind = 1 then 1 else if c.kind = 8 then 6 else if c.kind = 9 then 5 else if c.kind = 2 ∨ c.kind = 3 ∨ c.kind = 6 then 2 else if c.kind = 5 then 4 else 3,
  c.pla,
  if c.kind = 2 then ⟨c.ar, c.ac, 1, c.party, c.cls, c.time⟩ else if c.kind = 3 then ⟨c.ar, c.ac, 2, c.party, c.cls, 0⟩ else if c.kind = 6 then ⟨c.ar, c.ac, 3, 0, 0, 0⟩ else ⟨c.ar, c.ac, 0, 0, 0, 0⟩,
  c.tr, c.tc, now + c.time, []⟩
theorem chV_start {now : Int} {c : Cmd} (h : c.kind = 1) : chV (entOf now c) = startV c.pla := by
 unfold chV entOf
 simp only [h, if_true]
theorem chV_pass {now : Int} {c : Cmd} (h : c.kind = 8) : chV (entOf now c) = passV (now + c.time) := by
 unfold chV entOf
 simp [h]
theorem chV_seat {now : Int} {c : Cmd} (h : 2 ≤ c.kind ∧ c.kind ≤ 9 ∧ c.kind ≠ 8) : chV (entOf now c) = changeV c := by
 unfold chV entOf changeV
 have : c.kind = 2 ∨ c.kind = 3 ∨ c.kind = 4 ∨ c.kind = 5 ∨ c.kind = 6 ∨ c.kind = 7 ∨ c.kind = 9 := by omega
 rcases this with e | e | e | e | e | e | e <;> simp [e]
theorem fit_start {now : Int} {c : Cmd} (h : c.kind = 1) (hf : 1 ≤ c.flight ∧ c.flight ≤ 20) (h1 : c.pla.sized = true) (h2 : c.pla.limited = true) : CFit now (entOf now c) := by
 have hk : (entOf now c).kind = 1 := by unfold entOf; simp [h]
 simp only [Pla.sized, decide_eq_true_eq] at h1
 simp only [Pla.limited, decide_eq_true_eq] at h2
 refine ⟨by omega, fun _ => ⟨by show 0 ≤ c.flight; omega, by show c.flight < 32; omega⟩, fun _ => ⟨⟨by show 0 ≤ c.pla.rows; omega, by show c.pla.rows < 128; omega⟩, ⟨by show 0 ≤ c.pla.cols; omega, by show c.pla.cols < 128; omega⟩, ⟨by show 0 ≤ c.pla.front; omega, by show c.pla.front < 128; omega⟩, fun k => ?_⟩, fun e => by omega, fun e => by omega, fun e => by omega, fun e => by omega, fun e => by omega⟩
 show 0 ≤ c.pla.lim k ∧ c.pla.lim k < 16384
 match k with
 | 0 => simp only [Pla.lim]; omega
 | 1 => simp only [Pla.lim]; omega
 | 2 => simp only [Pla.lim]; omega
 | k + 3 => simp only [Pla.lim]; omega
theorem fit_pass {now : Int} {c : Cmd} (h : c.kind = 8) (ht : 1 ≤ c.time ∧ c.time ≤ 100) (hn : 0 ≤ now ∧ now ≤ 4611686018427387000) : CFit now (entOf now c) := by
 have hk : (entOf now c).kind = 6 := by unfold entOf; simp [h]
 exact ⟨by omega, fun e => absurd hk e, fun e => by omega, fun e => by omega, fun e => by omega, fun e => by omega, fun e => by omega, fun _ => ⟨hn.1, by show now ≤ now + c.time; omega, by show now + c.time ≤ 4611686018427387904; omega⟩⟩
theorem has_rng {p : Pla} {l : List Sea} (hwf : Wf p l) {r c : Int} (h : p.has r c = true) : (1 ≤ r ∧ r ≤ 20) ∧ (1 ≤ c ∧ c ≤ 6) := by
 have hb := Fli.wf.bounds hwf
 simp only [Pla.has, decide_eq_true_eq] at h
 simp only at hb
 omega
theorem fit_seat {now : Int} {p : Pla} {l : List Sea} {c : Cmd} (h : 2 ≤ c.kind ∧ c.kind ≤ 9 ∧ c.kind ≠ 8) (hf : 1 ≤ c.flight ∧ c.flight ≤ 20) (hwf : Wf p l) (hn : 0 ≤ now ∧ now ≤ 4611686018427387000) (he : seatErr p l c now = 0) : CFit now (entOf now c) := by
 have hfl : (entOf now c).kind ≠ 6 → 0 ≤ (entOf now c).fl ∧ (entOf now c).fl < 32 := fun _ => ⟨by show 0 ≤ c.flight; omega, by show c.flight < 32; omega⟩
 by_cases h9 : c.kind = 9
 ·have hk : (entOf now c).kind = 5 := by unfold entOf; simp [h9]
  unfold seatErr at he
  rw [if_pos h9] at he
  by_cases hq : c.pla.sized = true ∧ ¬ (c.pla.rows * c.pla.cols < (nFull l : Int))
  case neg => rw [if_neg hq] at he; exact absurd he (by omega)
  have h1 := hq.1
  simp only [Pla.sized, decide_eq_true_eq] at h1
  exact ⟨by omega, hfl, fun e => by omega, fun e => by omega, fun e => by omega, fun e => by omega, fun _ => ⟨⟨by show 0 ≤ c.pla.rows; omega, by show c.pla.rows < 128; omega⟩, ⟨by show 0 ≤ c.pla.cols; omega, by show c.pla.cols < 128; omega⟩, ⟨by show 0 ≤ c.pla.front; omega, by show c.pla.front < 128; omega⟩⟩, fun e => by omega⟩
 obtain ⟨_, hat, h5, h2, h3⟩ := seatErr_zero he h9
 have ra := has_rng hwf hat
 by_cases k2 : c.kind = 2
 ·have hk : (entOf now c).kind = 2 := by unfold entOf; simp [k2]
  have hs : (entOf now c).sea = ⟨c.ar, c.ac, 1, c.party, c.cls, c.time⟩ := by unfold entOf; simp [k2]
  have hb := buyer_ok (h2 k2).1
  have ht := h2 k2
  refine ⟨by omega, hfl, fun e => by omega, fun _ => ?_, fun e => by omega, fun e => by omega, fun e => by omega, fun e => by omega⟩
  rw [hs]
  exact ⟨ra.1, ra.2, by simp, by simp only; omega, by simp only; omega, fun _ => by simp only; omega, by omega⟩
 by_cases k3 : c.kind = 3
 ·have hk : (entOf now c).kind = 2 := by unfold entOf; simp [k3]
  have hs : (entOf now c).sea = ⟨c.ar, c.ac, 2, c.party, c.cls, 0⟩ := by unfold entOf; simp [k3]
  have hb := buyer_ok (h3 k3)
  refine ⟨by omega, hfl, fun e => by omega, fun _ => ?_, fun e => by omega, fun e => by omega, fun e => by omega, fun e => by omega⟩
  rw [hs]
  exact ⟨ra.1, ra.2, by simp, by simp only; omega, by simp only; omega, fun e => by simp at e, by omega⟩
 by_cases k6 : c.kind = 6
 ·have hk : (entOf now c).kind = 2 := by unfold entOf; simp [k6]
  have hs : (entOf now c).sea = ⟨c.ar, c.ac, 3, 0, 0, 0⟩ := by unfold entOf; simp [k6]
  refine ⟨by omega, hfl, fun e => by omega, fun _ => ?_, fun e => by omega, fun e => by omega, fun e => by omega, fun e => by omega⟩
  rw [hs]
  exact ⟨ra.1, ra.2, by simp, by simp, by simp, fun e => by simp at e, by omega⟩
 have hs : (entOf now c).sea = ⟨c.ar, c.ac, 0, 0, 0, 0⟩ := by unfold entOf; simp [k2, k3, k6]
 by_cases k5 : c.kind = 5
 ·have hk : (entOf now c).kind = 4 := by unfold entOf; simp [k5]
  have rt := has_rng hwf (h5 k5).1
  exact ⟨by omega, hfl, fun e => by omega, fun e => by omega, fun _ => by rw [hs]; exact ra, fun _ => rt, fun e => by omega, fun e => by omega⟩
 ·have hk : (entOf now c).kind = 3 := by
   have : c.kind = 4 ∨ c.kind = 7 := by omega
   unfold entOf
   rcases this with e | e <;> simp [e]
  exact ⟨by omega, hfl, fun e => by omega, fun e => by omega, fun _ => by rw [hs]; exact ra, fun e => by omega, fun e => by omega, fun e => by omega⟩
def doT (now : Int) (fl : Nat → Option (Pla × List Sea)) (K : KS) (c : Cmd) : Int × Int × (Nat → Option (Pla × List Sea)) × KS :=
 if (doK now fl c).1 ≠ 0 then ((doK now fl c).1, now, fl, K)
 else if (saveK K (wholeK now fl) (recB now [entOf now c])).1 = 0 then (0, (doK now fl c).2.1, (doK now fl c).2.2, (saveK K (wholeK now fl) (recB now [entOf now c])).2)
 else ((saveK K (wholeK now fl) (recB now [entOf now c])).1, now, fl, (saveK K (wholeK now fl) (recB now [entOf now c])).2)
structure DoneT (w w' : World) (ow : Nat → Nat) (kb : Nat) (pt : Nat → Option Nat) (now : Int) (fl : Nat → Option (Pla × List Sea)) (K : KS) : Prop where
 ex : ∃ ow' pt', KeepT w' ow' kb now pt' fl K ∧ (∀ k, k < w.heap.size → ow' k = ow k) ∧ ∀ i, 21 ≤ i → i < 29 → pt' i = pt i
 mod : Mod (fun k => ow k ≠ 0) w w'
theorem DoneT.same {w w' : World} {ow : Nat → Nat} {kb : Nat} {now : Int} {pt : Nat → Option Nat} {fl : Nat → Option (Pla × List Sea)} {K : KS} (h : KeepT w ow kb now pt fl K) (hm : Mod No w w') : DoneT w w' ow kb pt now fl K :=
 ⟨⟨ow, pt, h.mod0 hm, fun _ _ => rfl, fun _ _ _ => rfl⟩, hm.mono (fun _ _ x => x.elim)⟩
theorem DoneT.first {a w w' : World} {ow : Nat → Nat} {kb : Nat} {pt : Nat → Option Nat} {now : Int} {fl : Nat → Option (Pla × List Sea)} {K : KS} (h : DoneT w w' ow kb pt now fl K) (hm : Mod No a w) : DoneT a w' ow kb pt now fl K := by
 obtain ⟨⟨ow', pt', q, ho, hp⟩, m⟩ := h
 exact ⟨⟨ow', pt', q, fun k hk => ho k (Nat.lt_of_lt_of_le hk hm.size), hp⟩, (hm.mono (fun _ _ x => x.elim)).trans m⟩
theorem DoneT.applied {w w2 w' : World} {ow : Nat → Nat} {kb : Nat} {now now' : Int} {pt : Nat → Option Nat} {fl fl' : Nat → Option (Pla × List Sea)} {K' : KS} (hold : ∀ k, ow k ≠ 0 → k < w.heap.size) (hs : ∃ ow2 pt2, KeepT w2 ow2 kb now pt2 fl K' ∧ (∀ k, k < w.heap.size → ow2 k = ow k) ∧ (∀ j, j < 29 → pt2 j = pt j) ∧ KeptX w2 w' ow2 kb pt2 now' fl') (hm : Mod (fun k => ow k ≠ 0) w w2) : DoneT w w' ow kb pt now' fl' K' := by
 obtain ⟨ow2, pt2, h, ho, hp, ⟨⟨ow', pt', hx, ho', hp'⟩, m'⟩⟩ := hs
 have hsz := hm.size
 refine ⟨⟨ow', pt', ⟨hx, ?_, ?_, ?_, ?_⟩, fun k hk => by rw [ho' k (by omega), ho k hk], fun i h1 h2 => by rw [hp' i h1, hp i h2]⟩, hm.trans' m' (fun k hk hl => by
  have hk : ow2 k ≠ 0 ∧ ow2 k < 30 := hk
  rw [ho k hl] at hk
  exact hk.1)⟩
 ·rw [hp' 29 (by omega)]; exact h.ptr
 ·have := h.file
  unfold fileN at this ⊢
  rw [hp' 30 (by omega)]; exact this
 ·have := h.torn
  unfold tornB at this ⊢
  rw [hp' 31 (by omega)]; exact this
 ·refine (h.tape.mod m' (fun k hk hk' => by omega)).narrow.wide (fun k ⟨hk, hl⟩ => ?_)
  have := h.keep.old k (by omega)
  rw [ho' k this]
  exact hk
theorem do_t {w : World} {ow : Nat → Nat} {kb : Nat} {now : Int} {pt : Nat → Option Nat} {fl : Nat → Option (Pla × List Sea)} {K : KS} (h : KeepT w ow kb now pt fl K) (hn : 0 ≤ now ∧ now ≤ 4611686018427387000) (ht : K.torn = false) (hi : K.file < 2) (hlen : (K.T.b K.file).length + 42 ≤ 17592186044416) (c : Cmd) :
  Calls Tryz.prog 25 #[.pointer (some ⟨kb, 0, none⟩), .agg (cmdCells c)] w fun e w' =>
   e = .returned (.int .i64 (doT now fl K c).1) ∧ DoneT w w' ow kb pt (doT now fl K c).2.1 (doT now fl K c).2.2.1 (doT now fl K c).2.2.2 := by
 have hx := h.keep
 have no : ∀ x : Int, x ≠ 0 → (doK now fl c).1 = x → (∀ W, Mod No w W → Calls Tryz.prog 49 #[.pointer (some ⟨kb, 0, none⟩), .agg (cmdCells c)] W fun e w' => e = .returned (refuse x) ∧ Mod No W w') →
   Calls Tryz.prog 25 #[.pointer (some ⟨kb, 0, none⟩), .agg (cmdCells c)] w fun e w' => e = .returned (.int .i64 (doT now fl K c).1) ∧ DoneT w w' ow kb pt (doT now fl K c).2.1 (doT now fl K c).2.2.1 (doT now fl K c).2.2.2 := fun x hx0 hd hL => by
  unfold doT
  rw [hd, if_pos hx0]
  exact (do_refuse kb c x hx0 w hL).mono (fun e w' ⟨r, m⟩ => ⟨r, DoneT.same h m⟩)
 have yes : ∀ now' fl', (doK now fl c) = (0, now', fl') → CFit now (entOf now c) → (∀ W, Mod No w W → Calls Tryz.prog 49 #[.pointer (some ⟨kb, 0, none⟩), .agg (cmdCells c)] W fun e w' => e = .returned (grant (chV (entOf now c))) ∧ Mod No W w') →
   (∀ W ow2 pt2, KeepX W ow2 kb now pt2 fl → Calls Tryz.prog 44 #[.pointer (some ⟨kb, 0, none⟩), .agg #[.int .i64 c.flight, chV (entOf now c)]] W fun e w' => e = .returned (.tuple #[]) ∧ KeptX W w' ow2 kb pt2 now' fl') →
   Calls Tryz.prog 25 #[.pointer (some ⟨kb, 0, none⟩), .agg (cmdCells c)] w fun e w' => e = .returned (.int .i64 (doT now fl K c).1) ∧ DoneT w w' ow kb pt (doT now fl K c).2.1 (doT now fl K c).2.2.1 (doT now fl K c).2.2.2 := fun now' fl' hd hf hL hA => by
  obtain ⟨t, u, hv⟩ := chV_iface (entOf now c)
  have hS : ∀ W, Mod No w W → Calls Tryz.prog 50 #[.pointer (some ⟨kb, 0, none⟩), .agg #[.int .i64 c.flight, chV (entOf now c)]] W fun r w' => r = .returned (.int .i64 (saveK K (wholeK now fl) (recB now [entOf now c])).1) ∧ Saved W w' ow kb now pt fl (saveK K (wholeK now fl) (recB now [entOf now c])).2 := fun W hW => by
   have hk : saveK K (wholeK now fl) (recB now [entOf now c]) = layK K (recB now [entOf now c]) := by unfold saveK; rw [if_neg (by rw [ht]; simp)]
   rw [hk]
   by_cases hl : K.live = true
   ·exact save_live (h.mod0 hW) hl ht hi hlen (entOf now c) hf
   ·have hl' : K.live = false := by simpa using hl
    have hp := (h.mod0 hW).ptr
    rw [if_neg hl] at hp
    have hk2 : layK K (recB now [entOf now c]) = (17, K) := by unfold layK; rw [if_pos hl']
    rw [hk2]
    refine (save_shut (h.mod0 hW).keep.has hp (by rw [h.torn, ht]) (entOf now c) hf).mono ?_
    rintro r w' ⟨q1, q2⟩
    exact ⟨q1, ⟨_, _, (h.mod0 hW).mod0 q2, fun _ _ => rfl, fun _ _ => rfl⟩, q2.mono (fun _ _ x => x.elim)⟩
  unfold doT
  rw [hd, if_neg (by simp)]
  rw [hv] at hL hS hA
  by_cases hz : (saveK K (wholeK now fl) (recB now [entOf now c])).1 = 0
  ·rw [if_pos hz]
   rw [hz] at hS
   refine do_grant kb c t u w (fun w2 => ∃ ow2 pt2, KeepT w2 ow2 kb now pt2 fl (saveK K (wholeK now fl) (recB now [entOf now c])).2 ∧ (∀ k, k < w.heap.size → ow2 k = ow k) ∧ (∀ j, j < 29 → pt2 j = pt j) ∧ Mod (fun k => ow k ≠ 0) w w2) _ hL (fun W b hW hb hB => ?_) (fun W hR => ?_)
   ·refine (hS W hW).mono ?_
    rintro r w' ⟨q1, ⟨ow2, pt2, q2, q3, q4⟩, q5⟩
    have ob : ow b = 0 := by
     by_cases e : ow b = 0
     ·exact e
     ·have := hx.old b e; omega
    exact ⟨q1, ⟨ow2, pt2, q2, fun k hk => q3 k (Nat.lt_of_lt_of_le hk hW.size), q4, (hW.mono (fun _ _ x => x.elim)).trans q5⟩, q5.has hB (fun e => e ob)⟩
   ·obtain ⟨ow2, pt2, q2, q3, q4, q5⟩ := hR
    refine (hA W ow2 pt2 q2.keep).mono ?_
    rintro e w' ⟨r1, r2⟩
    exact ⟨r1, DoneT.applied hx.old ⟨ow2, pt2, q2, q3, q4, r2⟩ q5⟩
  ·rw [if_neg hz]
   refine do_stop kb c t u _ hz w _ hL (fun W hW => (hS W hW).mono ?_)
   rintro r w' ⟨q1, ⟨ow2, pt2, q2, q3, q4⟩, q5⟩
   exact ⟨q1, (⟨⟨ow2, pt2, q2, q3, fun i _ hi => q4 i hi⟩, q5⟩ : DoneT W w' ow kb pt now fl _).first hW⟩
 by_cases hbad : c.kind < 1 ∨ c.kind > 9
 ·exact no 1 (by omega) (by unfold doK; rw [if_pos hbad]) (fun W _ => klook_bad kb c hbad W)
 by_cases h8 : c.kind = 8
 ·have hN : ∀ W, Mod No w W → ∀ W', Mod No W W' → Calls Tryz.prog 32 #[.pointer (some ⟨kb, 0, none⟩)] W' fun e w' => e = .returned (.int .i64 now) ∧ w' = W' := fun W hW W' hW' => now_any (hx.mod (hW.trans hW') (fun _ _ x => x))
  by_cases ht : 1 ≤ c.time ∧ c.time ≤ 100
  ·refine yes _ _ (by unfold doK; rw [if_neg hbad, if_pos h8, if_pos ht]) (fit_pass h8 ht hn) (fun W hW => ?_) (fun W ow2 pt2 hk => ?_)
   ·rw [chV_pass h8]
    exact klook_tick kb c now _ _ h8 W (hN W hW) (fun W' => tickLook_yes c.time now W' ht.1 ht.2 hn)
   ·rw [chV_pass h8]
    exact apply_pass kb c.flight (now + c.time) W _ (fun W' hW' => (kpass_any (hk.mod hW' (fun _ _ x => x)) (now + c.time)).mono (fun e w' ⟨r, k, m⟩ => ⟨r, ⟨ow2, pt2, k, fun _ _ => rfl, fun _ _ => rfl⟩, (hW'.mono (fun _ _ x => x.elim)).trans m⟩))
  ·exact no 8 (by omega) (by unfold doK; rw [if_neg hbad, if_pos h8, if_neg ht]) (fun W hW => klook_tick kb c now _ _ h8 W (hN W hW) (fun W' => tickLook_out c.time now W' ht))
 by_cases hf : 1 ≤ c.flight ∧ c.flight ≤ 20
 case neg =>
  exact no 2 (by omega) (by unfold doK; rw [if_neg hbad, if_neg h8, if_pos hf]) (fun W _ => klook_num kb c (by omega) hf W)
 have hfn : ((c.flight.toNat : Nat) : Int) = c.flight := by omega
 have hF : ∀ W, Mod No w W → ∀ W', Mod No W W' → Calls Tryz.prog 59 #[.pointer (some ⟨kb, 0, none⟩), .int .i64 c.flight] W' fun e w' => e = .returned (pv (pt c.flight.toNat)) ∧ w' = W' := fun W hW W' hW' => by
  have := find_any (hx.mod (hW.trans hW') (fun _ _ x => x)) c.flight.toNat (by omega)
  rw [hfn] at this
  exact this
 cases hfl : fl c.flight.toNat with
 | none =>
  have hp := hx.gone _ (by omega) hfl
  rw [hp] at hF
  have hd0 : doK now fl c = if c.kind = 1 then (if c.pla.sized = true ∧ c.pla.limited = true then (0, now, fun j => if j = c.flight.toNat then some (c.pla.at 1, emptySeats c.pla) else fl j) else (4, now, fl)) else (2, now, fl) := by
   unfold doK
   rw [if_neg hbad, if_neg h8, if_neg (by simpa using hf), hfl]
  by_cases k1 : c.kind = 1
  ·rw [if_pos k1] at hd0
   by_cases hs : c.pla.sized = true ∧ c.pla.limited = true
   ·rw [if_pos hs] at hd0
    have hA : ∀ W, Calls Tryz.prog 76 #[plaV c.pla] W fun e w' => e = .returned (.tuple #[startV c.pla, .int .i64 0]) ∧ Mod No W w' := fun W => by
     have := lookAdd_walk c.pla W
     unfold addV at this
     rw [if_pos hs] at this
     exact this
    refine yes _ _ hd0 (fit_start k1 hf hs.1 hs.2) (fun W hW => ?_) (fun W ow2 pt2 hk => ?_)
    ·rw [chV_start k1]
     exact klook_add kb c _ _ k1 hf W (hF W hW) hA
    ·rw [chV_start k1]
     have := apply_start hk c.flight.toNat (by omega) hfl c.pla hs.1 hs.2
     rw [hfn] at this
     exact this
   ·rw [if_neg hs] at hd0
    have hA : ∀ W, Calls Tryz.prog 76 #[plaV c.pla] W fun e w' => e = .returned (.tuple #[.nilIface, .int .i64 4]) ∧ Mod No W w' := fun W => by
     have := lookAdd_walk c.pla W
     unfold addV at this
     rw [if_neg hs] at this
     exact this
    exact no 4 (by omega) (by rw [hd0]) (fun W hW => klook_add kb c _ _ k1 hf W (hF W hW) hA)
  ·rw [if_neg k1] at hd0
   exact no 2 (by omega) (by rw [hd0]) (fun W hW => klook_miss kb c (by omega) hf W (hF W hW))
 | some x =>
  obtain ⟨p, l⟩ := x
  obtain ⟨b, hp, hwf, hfh⟩ := hx.here _ p l (by omega) hfl
  rw [hp] at hF
  have hd0 : doK now fl c = if c.kind = 1 then (3, now, fl) else if seatErr p l c now = 0 then (0, now, fun j => if j = c.flight.toNat then some (planNew p c, seatNew p l c) else fl j) else (seatErr p l c now, now, fl) := by
   unfold doK
   rw [if_neg hbad, if_neg h8, if_neg (by simpa using hf), hfl]
  by_cases k1 : c.kind = 1
  ·rw [if_pos k1] at hd0
   exact no 3 (by omega) (by rw [hd0]) (fun W hW => klook_twice kb b c k1 hf W (hF W hW))
  ·rw [if_neg k1] at hd0
   have hL : ∀ W, Mod No w W → ∀ W', Mod No W W' → Calls Tryz.prog 77 #[.pointer (some ⟨b, 0, none⟩), .agg (cmdCells c), .int .i64 now] W' fun e w' => e = .returned (lookV p l c now) ∧ Mod No W' w' := fun W hW W' hW' => by
    obtain ⟨m, es, clock, q1, q2, q3, q4, q5, q6⟩ := hfh.mod0 (hW.trans hW')
    exact flook_any ⟨q1, q2, q3, q4⟩ hwf c now hn (by omega)
   unfold lookV at hL
   have hk2 : 2 ≤ c.kind ∧ c.kind ≤ 9 ∧ c.kind ≠ 8 := by omega
   by_cases hz : seatErr p l c now = 0
   ·rw [if_pos hz] at hL hd0
    refine yes _ _ hd0 (fit_seat hk2 hf hwf hn hz) (fun W hW => ?_) (fun W ow2 pt2 hk => ?_)
    ·rw [chV_seat hk2]
     exact klook_fl kb b c now _ _ _ (by omega) hf W (hW.has hx.has (fun x => x)) rfl (hF W hW) (hL W hW)
    ·rw [chV_seat hk2]
     by_cases h9 : c.kind = 9
     ·have := refit_keep hk c.flight.toNat (by omega) hfl c h9 hz
      rw [hfn] at this
      exact this
     have := apply_seat hk c.flight.toNat (by omega) hfl hn c (by omega) hz h9
     rw [hfn] at this
     refine this.mono ?_
     rintro e w' ⟨r, hk', m⟩
     have epn : planNew p c = p.next := by unfold planNew; rw [if_neg h9]
     rw [epn]
     exact ⟨r, ⟨ow2, pt2, hk', fun _ _ => rfl, fun _ _ => rfl⟩, m⟩
   ·rw [if_neg hz] at hL hd0
    exact no _ hz (by rw [hd0]) (fun W hW => klook_fl kb b c now _ _ _ (by omega) hf W (hW.has hx.has (fun x => x)) rfl (hF W hW) (hL W hW))
set_option maxHeartbeats 4000000
theorem read_zero (a : Option Addr) (c : Nat) (w : World) : Calls Tryz.prog 94 #[.slice a 0 c] w fun e w' => e = .returned (.tuple #[.slice none 0 0, .bool true]) ∧ Mod No w w' := by
 have M0 := hide ((Mod.refl No w).alloc (.cells #[.slice a 0 c, .int .i64 0, .bool false] 208))
 go_enter Tryz.func94, Tryz.ntmps94
 go_wp2_with fail
 go_loopw [2] (fun s wr => s = .slice none 0 0 ∧ wr = w.alloc (.cells #[.slice a 0 c, .int .i64 0, .bool false] 208)) (fun _ _ => 0)
 case atStart => exact ⟨rfl, rfl⟩
 case round =>
  obtain ⟨rfl, rfl⟩ := hrel
  go_wp2
  go_ret2
  exact ⟨rfl, unhide M0⟩
theorem sfind_nil {w : World} {S : Nat → Prop} {tb : Nat} {T : TP} (ht : TapeH w S tb T) (i : Nat) (hi : i < 4) (h : T.b i = []) :
  Calls Tryz.prog 69 #[.pointer (some ⟨tb, 0, none⟩), .int .i64 i] w fun e w' => ∃ a c, e = .returned (foundV i 0 (.slice a 0 c) true) ∧ (.slice a 0 c : Value) = .slice none 0 0 ∧ Mod No w w' := by
 have := sfind_any ht i hi 0 true (fun _ _ v _ => v = .slice none 0 0) (fun W v hW ho => by
  obtain ⟨a, c, rfl⟩ := slice_of_owns ho
  rw [h]
  refine (read_zero a c W).mono ?_
  rintro e w' ⟨rfl, hm⟩
  exact ⟨none, 0, rfl, rfl, hm⟩) (fun _ _ _ _ _ q _ => q) (fun _ _ _ _ _ _ _ _ q => q)
 rw [h] at this
 exact this
theorem betP_zero : betP 0 0 0 0 = false := by decide
theorem openP_zero (T : TP) (i : Nat) : openP T i 0 0 = (0, T) := by unfold openP; simp
theorem sopen_nil {w : World} {S : Nat → Prop} {tb : Nat} {T : TP} (ht : TapeH w S tb T) (hS : ∀ k, S k → k < w.heap.size) (h0 : T.b 0 = []) (h1 : T.b 1 = []) :
  Calls Tryz.prog 43 #[.pointer (some ⟨tb, 0, none⟩)] w fun e w' => e = .returned (.tuple #[.agg #[.pointer (some ⟨tb, 0, none⟩), .int .i64 0, .bool false], .slice none 0 0, .int .i64 0]) ∧ TapeH w' S tb T ∧ Mod S w w' := by
 refine (sopen_0 ht hS 0 0 0 0 true true (fun _ _ v _ => v = .slice none 0 0) (fun W hW => ?_) (fun W hW => ?_) (fun _ _ _ _ _ q _ => q) (fun _ _ _ _ _ _ _ _ q => q) betP_zero).mono ?_
 ·exact sfind_nil (ht.mod0 hW) 0 (by omega) h0
 ·exact sfind_nil (ht.mod0 hW) 1 (by omega) h1
 ·rintro e w' ⟨q1, q2, q3, _⟩
  rw [openP_zero] at q1 q3
  obtain ⟨a, c, he, hs⟩ := q3 rfl
  rw [hs] at he
  exact ⟨he, q1, q2⟩
def ptS (tb : Nat) : Nat → Option Nat := fun j => if j = 29 then some tb else none
def noFl : Nat → Option (Pla × List Sea) := fun _ => none
theorem open_low (tb : Nat) (n : Int) (cs : Array Value) (w : World) (h : Has w tb cs 108) (h8 : cs[8]? = some (.int .i64 n)) (hn : n < 200) :
  Calls Tryz.prog 20 #[.pointer (some ⟨tb, 0, none⟩)] w fun e w' => e = .returned (.tuple #[.pointer none, .int .i64 15]) ∧ w' = w := by
 have HR := hide (room_any tb n w cs h h8)
 clear h h8
 go_enter Tryz.func20, Tryz.ntmps20
 go_wp2_with fail
 refine (unhide HR).mono ?_
 rintro e w1 ⟨rfl, rfl⟩
 go_wp2
 go_ret2
 exact ⟨rfl, rfl⟩
structure OpenedX (w w' : World) (S : Nat → Prop) (kb tb : Nat) (T : TP) : Prop where
 has : Has w' kb (keepCells 0 (ptS tb)) 121
 new : w.heap.size ≤ kb
 tape : TapeH w' S tb T
 mod : Mod S w w'
theorem open_nil {w : World} {S : Nat → Prop} {tb : Nat} {T : TP} (ht : TapeH w S tb T) (hS : ∀ k, S k → k < w.heap.size) (h0 : T.b 0 = []) (h1 : T.b 1 = []) (hn : ¬ T.room < 200) :
  Calls Tryz.prog 20 #[.pointer (some ⟨tb, 0, none⟩)] w fun e w' => ∃ kb, e = .returned (.tuple #[.pointer (some ⟨kb, 0, none⟩), .int .i64 0]) ∧ OpenedX w w' S kb tb T := by
 obtain ⟨cs, hr1, hr2⟩ := ht.room
 have HR := hide (room_any tb T.room w cs hr1 hr2)
 have HO := hide (sopen_nil ht hS h0 h1)
 have HSS := hide hS
 clear ht hr1 hr2 hS
 go_enter Tryz.func20, Tryz.ntmps20
 go_wp2_with fail
 refine (unhide HR).mono ?_
 rintro e w1 ⟨rfl, rfl⟩
 go_wp2_with fail
 refine (unhide HO).mono ?_
 rintro e w2 ⟨rfl, t2, m2⟩
 have T2 := hide t2
 have M2 := hide m2
 clear t2 m2 HO HR
 go_wp2_with fail
 go_loopw [31] (fun s wr => s = .int .i64 0 ∧ Hid (OpenedX w1 wr S (w2.heap.size + 1) tb T)) (fun _ _ => 0)
 case atStart =>
  have m3 : Mod No w2 ((w2.alloc (.cells #[.pointer (some ⟨tb, 0, none⟩), .int .i64 0, .bool false] 110)).alloc (.cells (keepCells 0 (ptS tb)) 121)) := ((Mod.refl _ w2).alloc _).alloc _
  have hk := Has.new2' w2 (.cells #[.pointer (some ⟨tb, 0, none⟩), .int .i64 0, .bool false] 110) (keepCells 0 (ptS tb)) 121
  exact ⟨rfl, hide ⟨hk, Nat.le_succ_of_le (unhide M2).size, (unhide T2).mod0 m3, (unhide M2).trans (m3.mono (fun _ _ x => x.elim))⟩⟩
 case round =>
  obtain ⟨rfl, hX⟩ := hrel
  go_wp2
  go_ret2
  exact ⟨_, rfl, unhide hX⟩
theorem OpenedX.keep {w w' : World} {S : Nat → Prop} {kb tb : Nat} {T : TP} (h : OpenedX w w' S kb tb T) (hS : ∀ k, S k → k < w.heap.size) (ow : Nat → Nat) (hk : ow kb = 1) (ht : ∀ k, S k → ow k = 30) (ho : ∀ k, ow k ≠ 0 → k = kb ∨ S k) : KeepT w' ow kb 0 (ptS tb) noFl ⟨tb, 0, false, true, T⟩ := by
 refine ⟨⟨h.has, hk, fun k hk => ?_, fun n hn _ => ?_, fun n p l hn hf => by cases hf⟩, rfl, rfl, rfl, h.tape.wide ht⟩
 ·rcases ho k hk with e | e
  ·rw [e]; exact h.has.lt
  ·exact Nat.lt_of_lt_of_le (hS k e) h.mod.size
 ·unfold ptS
  exact if_neg (by omega)
set_option maxHeartbeats 2000000
theorem KeepH.mod {w w' : World} {ow : Nat → Nat} {kb : Nat} {now : Int} {fl : Nat → Option (Pla × List Sea)} {S : Nat → Prop} (h : KeepH w ow kb now fl) (hm : Mod S w w') (hs : ∀ k, ow k ≠ 0 → ¬ S k) : KeepH w' ow kb now fl := by
 obtain ⟨pt, h⟩ := h
 exact ⟨pt, h.mod hm hs⟩
def leftK (fl : Nat → Option (Pla × List Sea)) (n c : Int) : Int × Int :=
 if ¬ (1 ≤ n ∧ n ≤ 20) then (0, 2)
 else match fl n.toNat with
  | none => (0, 2)
  | some x => if ¬ (0 ≤ c ∧ c < 4) then (0, 6) else (min (M.leftOf x.1 x.2 c.toNat) 9, 0)
def totV (p : Pla) (l : List Sea) : Array Value :=
 #[.int .i64 (cA p l 0), .int .i64 (cA p l 1), .int .i64 (cA p l 2), .int .i64 (cA p l 3), .int .i64 (cB p l 0), .int .i64 (cB p l 1), .int .i64 (cB p l 2), .int .i64 (cB p l 3), .int .i64 (cS l 0), .int .i64 (cS l 1), .int .i64 (cS l 2), .int .i64 (cS l 3)]
def countK (fl : Nat → Option (Pla × List Sea)) (n : Int) : Array Value × Int :=
 if ¬ (1 ≤ n ∧ n ≤ 20) then (zero51, 2)
 else match fl n.toNat with
  | none => (zero51, 2)
  | some x => (totV x.1 x.2, 0)
theorem left_any {w : World} {ow : Nat → Nat} {kb : Nat} {now : Int} {fl : Nat → Option (Pla × List Sea)} (h : KeepH w ow kb now fl) (n c : Int) :
  Calls Tryz.prog 33 #[.pointer (some ⟨kb, 0, none⟩), .int .i64 n, .int .i64 c] w fun e w' => e = .returned (.tuple #[.int .i64 (leftK fl n c).1, .int .i64 (leftK fl n c).2]) ∧ Mod No w w' := by
 obtain ⟨pt, h⟩ := h
 unfold leftK
 by_cases hn : 1 ≤ n ∧ n ≤ 20
 case neg =>
  rw [if_pos hn]
  exact left_none kb n c w (find_no kb n hn w)
 rw [if_neg (by simpa using hn)]
 have hfn : ((n.toNat : Nat) : Int) = n := by omega
 have hF := find_any h n.toNat (by omega)
 rw [hfn] at hF
 cases hfl : fl n.toNat with
 | none =>
  rw [h.gone _ (by omega) hfl] at hF
  exact left_none kb n c w hF
 | some x =>
  obtain ⟨p, l⟩ := x
  obtain ⟨b, hp, hwf, hfh⟩ := h.here _ p l (by omega) hfl
  rw [hp] at hF
  simp only
  by_cases hc : 0 ≤ c ∧ c < 4
  case neg =>
   rw [if_pos hc]
   exact left_class kb b n c hc w hF
  rw [if_neg (by simpa using hc)]
  obtain ⟨m, es, clock, q1, _⟩ := hfh
  have hcn : ((c.toNat : Nat) : Int) = c := by omega
  have := left_walk kb b n c.toNat (by omega) (min (cE p l 0) 9) (min (cE p l 1) 9) (min (cE p l 2) 9) (min (cE p l 3) 9) w hF (fleft_walk _ _ _ _ _ _ _ _ _ _ _ _ _ _ _ _ _ _ _ _ _ _ _ _ _ _ _ q1)
  rw [hcn] at this
  refine this.mono ?_
  rintro e w' ⟨rfl, hm⟩
  refine ⟨?_, hm⟩
  have : c.toNat = 0 ∨ c.toNat = 1 ∨ c.toNat = 2 ∨ c.toNat = 3 := by omega
  rcases this with e | e | e | e <;> rw [e] <;> rfl
theorem count_any {w : World} {ow : Nat → Nat} {kb : Nat} {now : Int} {fl : Nat → Option (Pla × List Sea)} (h : KeepH w ow kb now fl) (n : Int) :
  Calls Tryz.prog 35 #[.pointer (some ⟨kb, 0, none⟩), .int .i64 n] w fun e w' => e = .returned (.tuple #[.agg (countK fl n).1, .int .i64 (countK fl n).2]) ∧ Mod No w w' := by
 obtain ⟨pt, h⟩ := h
 unfold countK
 by_cases hn : 1 ≤ n ∧ n ≤ 20
 case neg =>
  rw [if_pos hn]
  exact count_none kb n w (fun W _ => find_no kb n hn W)
 rw [if_neg (by simpa using hn)]
 have hfn : ((n.toNat : Nat) : Int) = n := by omega
 have hF : ∀ W, Mod No w W → Calls Tryz.prog 59 #[.pointer (some ⟨kb, 0, none⟩), .int .i64 n] W fun e w' => e = .returned (pv (pt n.toNat)) ∧ w' = W := fun W hW => by
  have := find_any (h.mod hW (fun _ _ x => x)) n.toNat (by omega)
  rw [hfn] at this
  exact this
 cases hfl : fl n.toNat with
 | none =>
  rw [h.gone _ (by omega) hfl] at hF
  exact count_none kb n w hF
 | some x =>
  obtain ⟨p, l⟩ := x
  obtain ⟨b, hp, hwf, hfh⟩ := h.here _ p l (by omega) hfl
  rw [hp] at hF
  simp only
  exact count_walk kb b n _ _ _ _ _ _ _ _ _ _ _ _ w hF (fun W hW => by
   obtain ⟨m, es, clock, q1, _⟩ := hfh.mod0 hW
   exact ftotals_walk _ _ _ _ _ _ _ _ _ _ _ _ _ _ _ _ _ _ _ _ _ _ _ _ _ _ _ q1)
set_option maxHeartbeats 8000000
def tF (a b s : Nat → Int) : Array Value :=
 #[.int .i64 (a 0), .int .i64 (a 1), .int .i64 (a 2), .int .i64 (a 3), .int .i64 (b 0), .int .i64 (b 1), .int .i64 (b 2), .int .i64 (b 3), .int .i64 (s 0), .int .i64 (s 1), .int .i64 (s 2), .int .i64 (s 3)]
theorem tF_a (a b s : Nat → Int) (n : Nat) (hn : n < 4) : (tF a b s)[n]? = some (.int .i64 (a n)) := by
 match n, hn with | 0, _ => rfl | 1, _ => rfl | 2, _ => rfl | 3, _ => rfl
theorem tF_b (a b s : Nat → Int) (n : Nat) (hn : n < 4) : (tF a b s)[4 + n]? = some (.int .i64 (b n)) := by
 match n, hn with | 0, _ => rfl | 1, _ => rfl | 2, _ => rfl | 3, _ => rfl
theorem tF_s (a b s : Nat → Int) (n : Nat) (hn : n < 4) : (tF a b s)[8 + n]? = some (.int .i64 (s n)) := by
 match n, hn with | 0, _ => rfl | 1, _ => rfl | 2, _ => rfl | 3, _ => rfl
theorem tF_seta (a b s : Nat → Int) (n : Nat) (hn : n < 4) (v : Int) : (tF a b s).setIfInBounds n (.int .i64 v) = tF (upd a n v) b s := by
 match n, hn with | 0, _ => rfl | 1, _ => rfl | 2, _ => rfl | 3, _ => rfl
theorem tF_setb (a b s : Nat → Int) (n : Nat) (hn : n < 4) (v : Int) : (tF a b s).setIfInBounds (4 + n) (.int .i64 v) = tF a (upd b n v) s := by
 match n, hn with | 0, _ => rfl | 1, _ => rfl | 2, _ => rfl | 3, _ => rfl
theorem tF_sets (a b s : Nat → Int) (n : Nat) (hn : n < 4) (v : Int) : (tF a b s).setIfInBounds (8 + n) (.int .i64 v) = tF a b (upd s n v) := by
 match n, hn with | 0, _ => rfl | 1, _ => rfl | 2, _ => rfl | 3, _ => rfl
theorem nAt_take (p : Pla) (fr : Bool) (j : Int) (l : List Sea) (i : Nat) (hi : i < l.length) : nAt p fr j (l.take (i + 1)) = nAt p fr j (l.take i) + if ((decide (l[i].row ≤ p.front) == fr) && l[i].st == j) = true then 1 else 0 := by
 unfold nAt
 rw [List.take_add_one, List.getElem?_eq_getElem hi]
 simp only [Option.toList_some, List.countP_append, List.countP_singleton]
theorem nSold_take (j : Int) (l : List Sea) (i : Nat) (hi : i < l.length) : nSold j (l.take (i + 1)) = nSold j (l.take i) + if (l[i].sold && l[i].cl == j) = true then 1 else 0 := by
 unfold nSold
 rw [List.take_add_one, List.getElem?_eq_getElem hi]
 simp only [Option.toList_some, List.countP_append, List.countP_singleton]
theorem cA_front (p : Pla) (l : List Sea) (i n : Nat) (hi : i < l.length) (hst : l[i].st = n) (hf : l[i].row ≤ p.front) : cA p (l.take (i + 1)) = upd (cA p (l.take i)) n (cA p (l.take i) n + 1) ∧ cB p (l.take (i + 1)) = cB p (l.take i) := by
 constructor
 ·funext j
  unfold cA upd
  rw [nAt_take _ _ _ _ _ hi, hst]
  by_cases e : j = n
  ·subst e; simp [hf]
  ·have : ¬ ((n : Nat) : Int) = (j : Int) := fun h => e (by omega)
   simp [e, hf, this]
 ·funext j
  unfold cB
  rw [nAt_take _ _ _ _ _ hi]
  simp [hf]
theorem cB_rear (p : Pla) (l : List Sea) (i n : Nat) (hi : i < l.length) (hst : l[i].st = n) (hf : ¬ l[i].row ≤ p.front) : cB p (l.take (i + 1)) = upd (cB p (l.take i)) n (cB p (l.take i) n + 1) ∧ cA p (l.take (i + 1)) = cA p (l.take i) := by
 constructor
 ·funext j
  unfold cB upd
  rw [nAt_take _ _ _ _ _ hi, hst]
  by_cases e : j = n
  ·subst e; simp [hf]
  ·have : ¬ ((n : Nat) : Int) = (j : Int) := fun h => e (by omega)
   simp [e, hf, this]
 ·funext j
  unfold cA
  rw [nAt_take _ _ _ _ _ hi]
  simp [hf]
theorem cS_sold (l : List Sea) (i k : Nat) (hi : i < l.length) (hcl : l[i].cl = k) (hs : l[i].sold = true) : cS (l.take (i + 1)) = upd (cS (l.take i)) k (cS (l.take i) k + 1) := by
 funext j
 unfold cS upd
 rw [nSold_take _ _ _ hi, hcl, hs]
 by_cases e : j = k
 ·subst e; simp
 ·have : ¬ ((k : Nat) : Int) = (j : Int) := fun h => e (by omega)
  simp [e, this]
theorem cS_not (l : List Sea) (i : Nat) (hi : i < l.length) (hs : l[i].sold = false) : cS (l.take (i + 1)) = cS (l.take i) := by
 funext j
 unfold cS
 rw [nSold_take _ _ _ hi, hs]
 simp
theorem tF_full (p : Pla) (l : List Sea) : tF (cA p l) (cB p l) (cS l) = totV p l := rfl
theorem cnt_small (p : Pla) (l : List Sea) (i : Nat) (hl : l.length ≤ 120) (j : Nat) : (0 ≤ cA p (l.take i) j ∧ cA p (l.take i) j ≤ 120) ∧ (0 ≤ cB p (l.take i) j ∧ cB p (l.take i) j ≤ 120) ∧ (0 ≤ cS (l.take i) j ∧ cS (l.take i) j ≤ 120) := by
 have hl2 : (l.take i).length ≤ 120 := by rw [List.length_take]; omega
 have h1 : nAt p true j (l.take i) ≤ (l.take i).length := List.countP_le_length
 have h2 : nAt p false j (l.take i) ≤ (l.take i).length := List.countP_le_length
 have h3 : nSold j (l.take i) ≤ (l.take i).length := List.countP_le_length
 unfold cA cB cS
 omega
end Go.Proofs.YthhibagcpjeihaaGreat
