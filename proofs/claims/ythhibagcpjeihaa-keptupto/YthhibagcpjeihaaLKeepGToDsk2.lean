import Derived.Test.YthhibagcpjeihaaLKeepDToOpn1
import Derived.Test.YthhibagcpjeihaaLSto3ToSav2
import Derived.Test.YthhibagcpjeihaaLOpenToWw1
namespace Go.Proofs.Ythhibagcpjeihaa
open Go.RowKit
open M
set_option linter.unusedVariables false
set_option linter.unusedSimpArgs false
set_option maxRecDepth 100000
set_option maxHeartbeats 4000000
theorem saveK_shut' {K : KS} {a b : List Int} (h : K.live = false) : saveK K a b = (17, K) := by
 unfold saveK replaceK layK
 simp [h]
theorem save_any {w : World} {ow : Nat → Nat} {kb : Nat} {now : Int} {pt : Nat → Option Nat} {fl : Fls} {K : KS} (h : KeepT w ow kb now pt fl K) (hR : RoomW now fl K) (hlen : (K.T.b K.file).length + 42 ≤ 17592186044416) (e : Ent) (hf : CFit now e) :
  Calls Try.prog 49 #[.pointer (some ⟨kb, 0, none⟩), .agg #[.int .i64 e.fl, chV e]] w fun r w' => r = .returned (.int .i64 (saveK K (wholeK now fl) (recB now [e])).1) ∧ Saved w w' ow kb now pt fl (saveK K (wholeK now fl) (recB now [e])).2 := by
 by_cases hl : K.live = true
 ·by_cases ht : K.torn = true
  ·exact save_torn h hl ht hR e hf
  ·have ht' : K.torn = false := by simpa using ht
   have hk : saveK K (wholeK now fl) (recB now [e]) = layK K (recB now [e]) := by unfold saveK; rw [if_neg ht]
   rw [hk]
   exact save_live h hl ht' hR.file hlen e hf
 ·have hl' : K.live = false := by simpa using hl
  rw [saveK_shut' hl']
  have same : ∀ w', Mod No w w' → Saved w w' ow kb now pt fl K := fun w' hm => ⟨⟨ow, pt, h.mod0 hm, fun _ _ => rfl, fun _ _ => rfl⟩, hm.mono (fun _ _ x => x.elim)⟩
  by_cases ht : K.torn = true
  ·exact (save_shutT h hl' ht hR.zero hR.fit e (chV_iface e)).mono (fun r w' ⟨q1, q2⟩ => ⟨q1, same w' q2⟩)
  ·have hp := h.ptr
   rw [if_neg hl] at hp
   exact (save_shut h.keep.has hp (by rw [h.torn]; simpa using ht) e hf).mono (fun r w' ⟨q1, q2⟩ => ⟨q1, same w' q2⟩)
theorem do_g {w : World} {ow : Nat → Nat} {kb : Nat} {now : Int} {pt : Nat → Option Nat} {fl : Nat → Option (Pla × List Sea)} {K : KS} (h : KeepT w ow kb now pt fl K) (hn : 0 ≤ now ∧ now ≤ 4611686018427387000) (c : Cmd) (hSv : CFit now (entOf now c) → ∀ W, Mod No w W → Calls Try.prog 49 #[.pointer (some ⟨kb, 0, none⟩), .agg #[.int .i64 (entOf now c).fl, chV (entOf now c)]] W fun r w' => r = .returned (.int .i64 (saveK K (wholeK now fl) (recB now [entOf now c])).1) ∧ Saved W w' ow kb now pt fl (saveK K (wholeK now fl) (recB now [entOf now c])).2) :
  Calls Try.prog 26 #[.pointer (some ⟨kb, 0, none⟩), .agg (cmdCells c)] w fun e w' =>
   e = .returned (.int .i64 (doT now fl K c).1) ∧ DoneT w w' ow kb pt (doT now fl K c).2.1 (doT now fl K c).2.2.1 (doT now fl K c).2.2.2 := by
 have hx := h.keep
 have no : ∀ x : Int, x ≠ 0 → (doK now fl c).1 = x → (∀ W, Mod No w W → Calls Try.prog 48 #[.pointer (some ⟨kb, 0, none⟩), .agg (cmdCells c)] W fun e w' => e = .returned (refuse x) ∧ Mod No W w') →
   Calls Try.prog 26 #[.pointer (some ⟨kb, 0, none⟩), .agg (cmdCells c)] w fun e w' => e = .returned (.int .i64 (doT now fl K c).1) ∧ DoneT w w' ow kb pt (doT now fl K c).2.1 (doT now fl K c).2.2.1 (doT now fl K c).2.2.2 := fun x hx0 hd hL => by
  unfold doT
  rw [hd, if_pos hx0]
  exact (do_refuse kb c x hx0 w hL).mono (fun e w' ⟨r, m⟩ => ⟨r, DoneT.same h m⟩)
 have yes : ∀ now' fl', (doK now fl c) = (0, now', fl') → CFit now (entOf now c) → (∀ W, Mod No w W → Calls Try.prog 48 #[.pointer (some ⟨kb, 0, none⟩), .agg (cmdCells c)] W fun e w' => e = .returned (grant (chV (entOf now c))) ∧ Mod No W w') →
   (∀ W ow2 pt2, KeepX W ow2 kb now pt2 fl → Calls Try.prog 50 #[.pointer (some ⟨kb, 0, none⟩), .agg #[.int .i64 c.flight, chV (entOf now c)]] W fun e w' => e = .returned (.tuple #[]) ∧ KeptX W w' ow2 kb pt2 now' fl') →
   Calls Try.prog 26 #[.pointer (some ⟨kb, 0, none⟩), .agg (cmdCells c)] w fun e w' => e = .returned (.int .i64 (doT now fl K c).1) ∧ DoneT w w' ow kb pt (doT now fl K c).2.1 (doT now fl K c).2.2.1 (doT now fl K c).2.2.2 := fun now' fl' hd hf hL hA => by
  obtain ⟨t, u, hv⟩ := chV_iface (entOf now c)
  have hS : ∀ W, Mod No w W → Calls Try.prog 49 #[.pointer (some ⟨kb, 0, none⟩), .agg #[.int .i64 c.flight, chV (entOf now c)]] W fun r w' => r = .returned (.int .i64 (saveK K (wholeK now fl) (recB now [entOf now c])).1) ∧ Saved W w' ow kb now pt fl (saveK K (wholeK now fl) (recB now [entOf now c])).2 := hSv hf
  unfold doT
  rw [hd, if_neg (by simp)]
  rw [hv] at hL hS hA
  by_cases hz : (saveK K (wholeK now fl) (recB now [entOf now c])).1 = 0
  ·rw [if_pos hz]
   rw [hz] at hS
   refine do_grant kb c t u w (fun w2 => ∃ ow2 pt2, KeepT w2 ow2 kb now pt2 fl (saveK K (wholeK now fl) (recB now [entOf now c])).2 ∧ (∀ k, k < w.heap.size → ow2 k = ow k) ∧ (∀ j, j < 29 → pt2 j = pt j) ∧ Mod (fun k => ow k ≠ 0) w w2) _ hL (fun W b hW hb hB => ?_) (fun W hR => ?_)
   ·refine (hS W hW).mono ?_
    rintro r w' ⟨q1, ⟨ow2, pt2, q2, q3, q4⟩, q5⟩
    have ob : ow b = 0 := by
     by_cases e : ow b = 0
     ·exact e
     ·have := hx.old b e; omega
    exact ⟨q1, ⟨ow2, pt2, q2, fun k hk => q3 k (Nat.lt_of_lt_of_le hk hW.size), q4, (hW.mono (fun _ _ x => x.elim)).trans q5⟩, q5.has hB (fun e => e ob)⟩
   ·obtain ⟨ow2, pt2, q2, q3, q4, q5⟩ := hR
    refine (hA W ow2 pt2 q2.keep).mono ?_
    rintro e w' ⟨r1, r2⟩
    exact ⟨r1, DoneT.applied hx.old ⟨ow2, pt2, q2, q3, q4, r2⟩ q5⟩
  ·rw [if_neg hz]
   refine do_stop kb c t u _ hz w _ hL (fun W hW => (hS W hW).mono ?_)
   rintro r w' ⟨q1, ⟨ow2, pt2, q2, q3, q4⟩, q5⟩
   exact ⟨q1, (⟨⟨ow2, pt2, q2, q3, fun i _ hi => q4 i hi⟩, q5⟩ : DoneT W w' ow kb pt now fl _).first hW⟩
 by_cases hbad : c.kind < 1 ∨ c.kind > 9
 ·exact no 1 (by omega) (by unfold doK; rw [if_pos hbad]) (fun W _ => klook_bad kb c hbad W)
 by_cases h8 : c.kind = 8
 ·have hN : ∀ W, Mod No w W → ∀ W', Mod No W W' → Calls Try.prog 24 #[.pointer (some ⟨kb, 0, none⟩)] W' fun e w' => e = .returned (.int .i64 now) ∧ w' = W' := fun W hW W' hW' => now_any (hx.mod (hW.trans hW') (fun _ _ x => x))
  by_cases ht : 1 ≤ c.time ∧ c.time ≤ 100
  ·refine yes _ _ (by unfold doK; rw [if_neg hbad, if_pos h8, if_pos ht]) (fit_pass h8 ht hn) (fun W hW => ?_) (fun W ow2 pt2 hk => ?_)
   ·rw [chV_pass h8]
    exact klook_tick kb c now _ _ h8 W (hN W hW) (fun W' => tickLook_yes c.time now W' ht.1 ht.2 hn)
   ·rw [chV_pass h8]
    exact apply_pass kb c.flight (now + c.time) W _ (fun W' hW' => (kpass_any (hk.mod hW' (fun _ _ x => x)) (now + c.time)).mono (fun e w' ⟨r, k, m⟩ => ⟨r, ⟨ow2, pt2, k, fun _ _ => rfl, fun _ _ => rfl⟩, (hW'.mono (fun _ _ x => x.elim)).trans m⟩))
  ·exact no 8 (by omega) (by unfold doK; rw [if_neg hbad, if_pos h8, if_neg ht]) (fun W hW => klook_tick kb c now _ _ h8 W (hN W hW) (fun W' => tickLook_out c.time now W' ht))
 by_cases hf : 1 ≤ c.flight ∧ c.flight ≤ 20
 case neg =>
  exact no 2 (by omega) (by unfold doK; rw [if_neg hbad, if_neg h8, if_pos hf]) (fun W _ => klook_num kb c (by omega) hf W)
 have hfn : ((c.flight.toNat : Nat) : Int) = c.flight := by omega
 have hF : ∀ W, Mod No w W → ∀ W', Mod No W W' → Calls Try.prog 44 #[.pointer (some ⟨kb, 0, none⟩), .int .i64 c.flight] W' fun e w' => e = .returned (pv (pt c.flight.toNat)) ∧ w' = W' := fun W hW W' hW' => by
  have := find_any (hx.mod (hW.trans hW') (fun _ _ x => x)) c.flight.toNat (by omega)
  rw [hfn] at this
  exact this
 cases hfl : fl c.flight.toNat with
 | none =>
  have hp := hx.gone _ (by omega) hfl
  rw [hp] at hF
  have hd0 : doK now fl c = if c.kind = 1 then (if c.pla.sized = true ∧ c.pla.limited = true then (0, now, fun j => if j = c.flight.toNat then some (c.pla.at 1, emptySeats c.pla) else fl j) else (4, now, fl)) else (2, now, fl) := by
   unfold doK
   rw [if_neg hbad, if_neg h8, if_neg (by simpa using hf), hfl]
  by_cases k1 : c.kind = 1
  ·rw [if_pos k1] at hd0
   by_cases hs : c.pla.sized = true ∧ c.pla.limited = true
   ·rw [if_pos hs] at hd0
    have hA : ∀ W, Calls Try.prog 59 #[plaV c.pla] W fun e w' => e = .returned (.tuple #[startV c.pla, .int .i64 0]) ∧ Mod No W w' := fun W => by
     have := lookAdd_walk c.pla W
     unfold addV at this
     rw [if_pos hs] at this
     exact this
    refine yes _ _ hd0 (fit_start k1 hf hs.1 hs.2) (fun W hW => ?_) (fun W ow2 pt2 hk => ?_)
    ·rw [chV_start k1]
     exact klook_add kb c _ _ k1 hf W (hF W hW) hA
    ·rw [chV_start k1]
     have := apply_start hk c.flight.toNat (by omega) hfl c.pla hs.1 hs.2
     rw [hfn] at this
     exact this
   ·rw [if_neg hs] at hd0
    have hA : ∀ W, Calls Try.prog 59 #[plaV c.pla] W fun e w' => e = .returned (.tuple #[.nilIface, .int .i64 4]) ∧ Mod No W w' := fun W => by
     have := lookAdd_walk c.pla W
     unfold addV at this
     rw [if_neg hs] at this
     exact this
    exact no 4 (by omega) (by rw [hd0]) (fun W hW => klook_add kb c _ _ k1 hf W (hF W hW) hA)
  ·rw [if_neg k1] at hd0
   exact no 2 (by omega) (by rw [hd0]) (fun W hW => klook_miss kb c (by omega) hf W (hF W hW))
 | some x =>
  obtain ⟨p, l⟩ := x
  obtain ⟨b, hp, hwf, hfh⟩ := hx.here _ p l (by omega) hfl
  rw [hp] at hF
  have hd0 : doK now fl c = if c.kind = 1 then (3, now, fl) else if seatErr p l c now = 0 then (0, now, fun j => if j = c.flight.toNat then some (planNew p c, seatNew p l c) else fl j) else (seatErr p l c now, now, fl) := by
   unfold doK
   rw [if_neg hbad, if_neg h8, if_neg (by simpa using hf), hfl]
  by_cases k1 : c.kind = 1
  ·rw [if_pos k1] at hd0
   exact no 3 (by omega) (by rw [hd0]) (fun W hW => klook_twice kb b c k1 hf W (hF W hW))
  ·rw [if_neg k1] at hd0
   have hL : ∀ W, Mod No w W → ∀ W', Mod No W W' → Calls Try.prog 60 #[.pointer (some ⟨b, 0, none⟩), .agg (cmdCells c), .int .i64 now] W' fun e w' => e = .returned (lookV p l c now) ∧ Mod No W' w' := fun W hW W' hW' => by
    obtain ⟨m, es, clock, q1, q2, q3, q4, q5, q6⟩ := hfh.mod0 (hW.trans hW')
    exact flook_any ⟨q1, q2, q3, q4⟩ hwf c now hn (by omega)
   unfold lookV at hL
   have hk2 : 2 ≤ c.kind ∧ c.kind ≤ 9 ∧ c.kind ≠ 8 := by omega
   by_cases hz : seatErr p l c now = 0
   ·rw [if_pos hz] at hL hd0
    refine yes _ _ hd0 (fit_seat hk2 hf hwf hn hz) (fun W hW => ?_) (fun W ow2 pt2 hk => ?_)
    ·rw [chV_seat hk2]
     exact klook_fl kb b c now _ _ _ (by omega) hf W (hW.has hx.has (fun x => x)) rfl (hF W hW) (hL W hW)
    ·rw [chV_seat hk2]
     by_cases h9 : c.kind = 9
     ·have := refit_keep hk c.flight.toNat (by omega) hfl c h9 hz
      rw [hfn] at this
      exact this
     have := apply_seat hk c.flight.toNat (by omega) hfl hn c (by omega) hz h9
     rw [hfn] at this
     refine this.mono ?_
     rintro e w' ⟨r, hk', m⟩
     have epn : planNew p c = p.next := by unfold planNew; rw [if_neg h9]
     rw [epn]
     exact ⟨r, ⟨ow2, pt2, hk', fun _ _ => rfl, fun _ _ => rfl⟩, m⟩
   ·rw [if_neg hz] at hL hd0
    exact no _ hz (by rw [hd0]) (fun W hW => klook_fl kb b c now _ _ _ (by omega) hf W (hW.has hx.has (fun x => x)) rfl (hF W hW) (hL W hW))
theorem do_T {w : World} {ow : Nat → Nat} {kb : Nat} {now : Int} {pt : Nat → Option Nat} {fl : Fls} {K : KS} (h : KeepT w ow kb now pt fl K) (hn : 0 ≤ now ∧ now ≤ 4611686018427387000) (hR : RoomW now fl K) (hlen : (K.T.b K.file).length + 42 ≤ 17592186044416) (c : Cmd) :
  Calls Try.prog 26 #[.pointer (some ⟨kb, 0, none⟩), .agg (cmdCells c)] w fun e w' =>
   e = .returned (.int .i64 (doT now fl K c).1) ∧ DoneT w w' ow kb pt (doT now fl K c).2.1 (doT now fl K c).2.2.1 (doT now fl K c).2.2.2 :=
 do_g h hn c (fun hf W hW => save_any (h.mod0 hW) hR hlen _ hf)
def packK (now : Int) (fl : Fls) (K : KS) : Int × KS :=
 if K.live = false then (17, K) else if (K.T.b K.file).length ≤ (wholeK now fl).length then (0, K) else ((repP K.T K.file (wholeK now fl)).1, repK K (repP K.T K.file (wholeK now fl)))
theorem pack_any {w : World} {ow : Nat → Nat} {kb : Nat} {now : Int} {pt : Nat → Option Nat} {fl : Fls} {K : KS} (h : KeepT w ow kb now pt fl K) (hR : RoomW now fl K) :
  Calls Try.prog 36 #[.pointer (some ⟨kb, 0, none⟩)] w fun e w' => e = .returned (.int .i64 (packK now fl K).1) ∧ Saved w w' ow kb now pt fl (packK now fl K).2 := by
 have hlt := h.keep.has.lt
 have HW := hide (kwhole_any (h.keep.mod (Mod.refl No w).drew (fun _ _ x => x)) hR.zero hR.fit)
 obtain ⟨P, hP⟩ : ∃ P, packK now fl K = P := ⟨_, rfl⟩
 rw [hP]
 have hm1 : Mod No w w.drew := (Mod.refl No w).drew
 have HA : ∀ W v, Mod No w W → W.ownsRow 0 5 1 v (wholeK now fl).length (u8s (wholeK now fl)) → (∀ k, v.ownBlock = some k → w.heap.size ≤ k) → Calls Try.prog 55 #[.pointer (some ⟨kb, 30, none⟩), v] W fun r w' => r = .returned (.int .i64 P.1) ∧ Saved w w' ow kb now pt fl P.2 := by
  rw [← hP]
  intro W v hM hr hn
  unfold packK
  obtain ⟨a, c, rfl⟩ := slice_of_owns hr
  have h2 := h.mod0 hM
  have same : ∀ w', Mod No W w' → Saved w w' ow kb now pt fl K := fun w' hm => ⟨⟨ow, pt, h.mod0 (hM.trans hm), fun _ _ => rfl, fun _ _ => rfl⟩, (hM.trans hm).mono (fun _ _ x => x.elim)⟩
  by_cases hl : K.live = false
  ·rw [if_pos hl]
   have hp := h.ptr
   rw [hl, if_neg (by simp)] at hp
   exact (shorten_shut h2.keep.has (by rw [keep_s0, hp]; rfl) a _ c).mono (fun e w' ⟨q1, q2⟩ => ⟨q1, same w' q2⟩)
  rw [if_neg hl]
  have hl' : K.live = true := by simpa using hl
  have hp := h.ptr
  rw [if_pos hl'] at hp
  by_cases hs : (K.T.b K.file).length ≤ (wholeK now fl).length
  ·rw [if_pos hs]
   exact (shorten_same h2.keep.has (by rw [keep_s0, hp]; rfl) h2.tape K.file hR.file (by rw [keep_s1, h2.file]) a _ c hs).mono (fun e w' ⟨q1, q2⟩ => ⟨q1, same w' q2⟩)
  rw [if_neg hs]
  have tl := h.tape.lt
  have ko : ow kb = 1 := h.keep.mine
  refine (shorten_long (S := fun k => ow k = 30) h2.keep.has (by rw [keep_s0, hp]; rfl) (by omega) h2.tape K.file hR.file (by rw [keep_s1, h2.file]) K.torn (by rw [keep_s2, h2.torn]) a c (wholeK now fl) (reads_of_owns hr) (fun q => by have := hn _ q; omega) hR.byte (by have := hR.len; omega) hs).mono ?_
  rintro r w' ⟨q1, q2⟩
  obtain ⟨p1, p2, p3⟩ := KeepT.replaced h hl' hM hR.file q2
  exact ⟨q1, ⟨_, _, p1, p2, fun j hj => ptR_eq _ _ _ _ (by omega)⟩, p3⟩
 have HA := hide HA
 clear h hP
 go_enter Try.func36, Try.ntmps36
 go_wp2_with fail
 go_region_law (first
  |(refine step_callx rfl 56 _ _ rfl #[.pointer (some ⟨kb, 0, none⟩)] (by simp [Act.eval, Act.put]) (fun W => by kernel_rfl) _ (unhide HW) ?_; intro v5 w5 hr5; obtain ⟨a5, s5, rfl⟩ := slice_of_owns hr5.row)
  |(refine step_call rfl 55 _ _ rfl #[.pointer (some ⟨kb, 30, none⟩), _] (by simp [Act.eval, Act.put]; try rfl) (fun W => by kernel_rfl) (.int .i64 P.1) _ ((unhide HA) w5 _ (hm1.trans hr5.mod) hr5.row (fun k hk => Nat.le_trans hm1.size (hr5.new k hk))) ?_; intro w6 hs6))
 all_goals go_wp2
 all_goals go_ret
 all_goals exact ⟨rfl, hs6⟩
theorem playE_append : ∀ (a : List Ent) {b : List Ent} {now n1 n2 : Int} {fl f1 f2 : Fls}, PlayE now fl a n1 f1 → PlayE n1 f1 b n2 f2 → PlayE now fl (a ++ b) n2 f2
 | [], b, _, _, _, _, _, _, h, h2 => by obtain ⟨rfl, rfl⟩ := h; exact h2
 | e :: a, b, _, _, _, _, _, _, h, h2 => by
  obtain ⟨m, g, h1, h3⟩ := h
  exact ⟨m, g, h1, playE_append a h3 h2⟩
theorem playE_one {now n1 : Int} {fl f1 : Fls} {e : Ent} (h : StepE now fl e n1 f1) : PlayE now fl [e] n1 f1 := ⟨n1, f1, h, rfl, rfl⟩
theorem EsFit.append : ∀ {a b : List Ent} {now : Int}, EsFit now a → EsFit (entsNow now a) b → EsFit now (a ++ b)
 | [], _, _, _, h => h
 | e :: a, b, now, h, h2 => ⟨h.1, EsFit.append h.2 h2⟩
theorem entsNow_append : ∀ (a b : List Ent) (now : Int), entsNow now (a ++ b) = entsNow (entsNow now a) b
 | [], _, _ => rfl
 | e :: a, b, now => entsNow_append a b (entNow now e)
theorem entsNow_fold : ∀ (a : List Ent) (now : Int), a.foldl entNow now = entsNow now a
 | [], _ => rfl
 | e :: a, now => entsNow_fold a (entNow now e)
theorem free_empty {p : Pla} {l : List Sea} (h : Wf p l) (h0 : ∀ s ∈ l, s.st = 0) : emptySeats p = l := by
 apply List.ext_getElem
 ·exact empty_len h
 ·intro i h1 h2
  have hp := h.place i h2
  have hs := h0 l[i] (List.getElem_mem h2)
  have hb := (h.seat l[i] (List.getElem_mem h2)).bare (.inl hs)
  simp only at hp
  simp only [emptySeats, List.getElem_map, List.getElem_range]
  rw [← hp.1, ← hp.2]
  generalize l[i] = s at *
  obtain ⟨r, c, st, pa, cl, un⟩ := s
  simp only at hs hb
  rw [hs, hb.1, hb.2.1, hb.2.2]
theorem pla_at {p : Pla} (h : p.ep = 1) : p.at 1 = p := by
 obtain ⟨a, b, c, d, e, f, g, ep⟩ := p
 simp only at h
 subst h
 rfl
def below (fl : Fls) (k : Nat) : Fls := fun j => if j < k then fl j else none
theorem below_zero (fl : Fls) : below fl 0 = noFl := by
 funext j
 unfold below noFl
 rw [if_neg (by omega)]
theorem below_none {fl : Fls} {k : Nat} (h : fl k = none) : below fl (k + 1) = below fl k := by
 funext j
 unfold below
 by_cases e : j = k
 ·subst e; rw [if_pos (by omega), if_neg (by omega), h]
 ·by_cases e2 : j < k
  ·rw [if_pos (by omega), if_pos e2]
  ·rw [if_neg (by omega), if_neg e2]
theorem below_some {fl : Fls} {k : Nat} {x : Pla × List Sea} (h : fl k = some x) : below fl (k + 1) = fun j => if j = k then some x else below fl k j := by
 funext j
 unfold below
 by_cases e : j = k
 ·subst e; rw [if_pos (by omega), if_pos rfl, h]
 ·rw [if_neg e]
  by_cases e2 : j < k
  ·rw [if_pos (by omega), if_pos e2]
  ·rw [if_neg (by omega), if_neg e2]
theorem esTo_play {N now : Int} {fl : Fls} (h : FlOk N now fl) : ∀ k, PlayE 0 noFl (esTo now fl k) now (below fl k)
 | 0 => by
  rw [below_zero]
  unfold esTo
  by_cases h0 : 0 < now
  ·rw [if_pos h0]
   refine playE_one (.inr (.inl ⟨?_, fun _ => rfl, rfl, by omega⟩))
   unfold canon
   rfl
  ·rw [if_neg h0]
   have := h.time
   exact ⟨by omega, rfl⟩
 | k + 1 => by
  have ih := esTo_play h k
  cases hx : fl k with
  | none => rw [esTo_none hx, below_none hx]; exact ih
  | some x =>
   obtain ⟨p, l⟩ := x
   have hwf := h.wf k p l hx
   have hk : 1 ≤ k ∧ k ≤ 20 := by
    by_cases q : k = 0 ∨ 20 < k
    ·rw [h.rng k q] at hx; cases hx
    ·omega
   have hb : below fl k k = none := if_neg (by omega)
   rw [esTo_some hx, below_some hx]
   refine playE_append _ ih (playE_one ?_)
   by_cases h1 : p.ep = 1
   ·refine .inl ⟨⟨1, k, 0, 0, 0, 0, 0, 0, 0, p⟩, ?_, ?_⟩
    ·have e1 : canon (flE k (p, l)) = eStart k p := by unfold canon flE; simp only [if_pos h1]; rfl
     rw [e1]
     rfl
    ·unfold doK
     rw [if_neg (by simp), if_neg (by simp), if_neg (by simp; omega)]
     have e2 : ((k : Nat) : Int).toNat = k := by omega
     simp only [e2, hb, if_true]
     rw [if_pos ⟨hwf.sized, hwf.limited⟩, pla_at h1, free_empty hwf (h.one k p l hx h1)]
   ·refine .inr (.inr ⟨k, p, l, ?_, hk.1, hk.2, hb, hwf, rfl, rfl⟩)
    unfold canon flE
    simp only [if_neg h1]
    rfl
theorem flE_now (now : Int) (k : Nat) (x : Pla × List Sea) : entNow now (flE k x) = now := by
 unfold entNow flE
 simp only
 rw [if_neg (by split <;> omega)]
theorem esTo_now {N now : Int} {fl : Fls} (h : FlOk N now fl) : ∀ k, entsNow 0 (esTo now fl k) = now
 | 0 => by
  unfold esTo
  by_cases h0 : 0 < now
  ·rw [if_pos h0]
   rfl
  ·rw [if_neg h0]
   have := h.time
   show (0 : Int) = now
   omega
 | k + 1 => by
  have ih := esTo_now h k
  cases hx : fl k with
  | none => rw [esTo_none hx]; exact ih
  | some x =>
   rw [esTo_some hx, entsNow_append, ih]
   exact flE_now now k x
theorem lim_lt {p : Pla} (h : p.limited = true) (k : Nat) : 0 ≤ p.lim k ∧ p.lim k < 16384 := by
 simp only [Pla.limited, decide_eq_true_eq] at h
 unfold Pla.lim
 split <;> omega
theorem flE_fit {N now : Int} {fl : Fls} (h : FlOk N now fl) {k : Nat} (hk : k < 32) {p : Pla} {l : List Sea} (hx : fl k = some (p, l)) : EFit now (flE k (p, l)) := by
 have hwf := h.wf k p l hx
 have hb := hwf.bounds
 have hl := lim_lt hwf.limited
 have hep := h.ep k p l hx
 have hN := h.big
 have ht := h.time
 simp only at hb hl
 by_cases h1 : p.ep = 1
 ·have hk1 : (flE k (p, l)).kind = 1 := by unfold flE; simp [h1]
  exact ⟨by omega, fun _ => ⟨by omega, fun _ => ⟨by show (0 : Int) ≤ k; omega, by show (k : Int) < 32; omega⟩, fun _ => ⟨by show 0 ≤ p.rows ∧ p.rows < 128; omega, by show 0 ≤ p.cols ∧ p.cols < 128; omega, by show 0 ≤ p.front ∧ p.front < 128; omega, hl⟩, fun e => by omega, fun e => by omega, fun e => by omega, fun e => by omega, fun e => by omega⟩, fun e => by omega, fun e => by omega, fun e => by omega, fun e => by omega⟩
 ·have hk1 : (flE k (p, l)).kind = 7 := by unfold flE; simp [h1]
  have hlen := Fli.wf.len_le hwf
  have hfl := List.length_filter_le (fun s : Sea => s.st != 0) l
  simp only at hlen
  refine ⟨by omega, fun e => absurd hk1 e, fun e => by omega, fun _ => ⟨by show (0 : Int) ≤ k; omega, by show (k : Int) < 32; omega⟩, fun _ => ⟨by show 0 ≤ p.rows ∧ p.rows < 128; omega, by show 0 ≤ p.cols ∧ p.cols < 128; omega, by show 0 ≤ p.front ∧ p.front < 128; omega, hl, by show 0 ≤ p.ep; omega, by show p.ep ≤ 4611686018427387904; omega⟩, fun _ => ⟨by show (l.filter _).length ≤ 120; omega, fun s hs => ?_⟩⟩
  have hs : s ∈ l.filter (fun s => s.st != 0) := hs
  have hok := filter_ok hwf s hs
  have hs2 := (List.mem_filter.1 hs).1
  have hpl := hok.2
  simp only [Pla.has, decide_eq_true_eq] at hpl
  have w := hok.1
  have := w.s0; have := w.s1; have := w.c0; have := w.c1; have := w.pa; have := w.un
  exact ⟨⟨by omega, by omega, by omega, by omega, by omega, fun e => by have := h.hold k p l hx s hs2 e; omega, by omega⟩, w⟩
theorem esTo_fit {N now : Int} {fl : Fls} (h : FlOk N now fl) : ∀ k, k ≤ 21 → EsFit 0 (esTo now fl k)
 | 0, _ => by
  unfold esTo
  have ht := h.time
  have hN := h.big
  by_cases h0 : 0 < now
  ·rw [if_pos h0]
   refine ⟨⟨by show (1 : Int) ≤ 6 ∧ (6 : Int) ≤ 7; omega, fun _ => ⟨by show (1 : Int) ≤ 6 ∧ (6 : Int) ≤ 6; omega, fun e => absurd rfl e, fun e => absurd e (by show ¬ (6 : Int) = 1; omega), fun e => absurd e (by show ¬ (6 : Int) = 2; omega), fun e => absurd e (by show ¬ ((6 : Int) = 3 ∨ (6 : Int) = 4); omega), fun e => absurd e (by show ¬ (6 : Int) = 4; omega), fun e => absurd e (by show ¬ (6 : Int) = 5; omega), fun _ => ⟨by omega, by show 0 ≤ now; omega, by show now ≤ 4611686018427387904; omega⟩⟩, fun e => absurd e (by show ¬ (6 : Int) = 2; omega), fun e => absurd e (by show ¬ (6 : Int) = 7; omega), fun e => absurd e (by show ¬ (6 : Int) = 7; omega), fun e => absurd e (by show ¬ (6 : Int) = 7; omega)⟩, trivial⟩
  ·rw [if_neg h0]
   trivial
 | k + 1, hk => by
  have ih := esTo_fit h k (by omega)
  cases hx : fl k with
  | none => rw [esTo_none hx]; exact ih
  | some x =>
   rw [esTo_some hx]
   refine EsFit.append ih ⟨?_, trivial⟩
   rw [esTo_now h k]
   exact flE_fit h (by omega) hx
theorem planeB_short {p : Pla} (h : p.rows < 16384 ∧ p.cols < 16384 ∧ p.front < 16384 ∧ ∀ k, p.lim k < 16384) : (planeB p).length ≤ 14 := by
 have a := numB_two h.1
 have b := numB_two h.2.1
 have c := numB_two h.2.2.1
 have l0 := numB_two (h.2.2.2 0)
 have l1 := numB_two (h.2.2.2 1)
 have l2 := numB_two (h.2.2.2 2)
 have l3 := numB_two (h.2.2.2 3)
 simp only [Pla.lim] at l0 l1 l2 l3
 unfold planeB shapeB
 simp only [List.length_append]
 omega
theorem fillB_short {now : Int} {s : Sea} (h : SFit now s) : (fillB now s).length ≤ 15 := by
 obtain ⟨h1, h2, h3, h4, h5, h6, h7⟩ := h
 have a := numB_two (x := (s.row - 1) * 6 + s.col - 1) (by omega)
 have b := numB_two (x := s.st * 4 + s.cl) (by omega)
 have c := numB_two (x := s.pa) (by omega)
 have d := (numB_len (s.un - now)).2
 unfold fillB placeB
 simp only [List.length_append]
 have e : (if s.st = 3 then [] else numB s.pa).length ≤ 2 := by
  split
  ·simp
  ·exact c
 have f : (if s.st = 1 then numB (s.un - now) else []).length ≤ 9 := by
  split
  ·exact d
  ·simp
 omega
theorem fillsB_short {now : Int} : ∀ {ss : List Sea}, (∀ s ∈ ss, SFit now s) → (fillsB now ss).length ≤ 15 * ss.length
 | [], _ => by simp [fillsB]
 | s :: ss, h => by
  have a := fillB_short (h s (by simp))
  have b := fillsB_short (ss := ss) (fun x hx => h x (List.mem_cons_of_mem _ hx))
  simp only [fillsB, List.length_append, List.length_cons]
  omega
theorem flE_len {N now : Int} {fl : Fls} (h : FlOk N now fl) {k : Nat} (hk : k < 32) {p : Pla} {l : List Sea} (hx : fl k = some (p, l)) : (entB now (flE k (p, l))).length ≤ 60 + 30 * nFull l := by
 have hf := flE_fit h hk hx
 have hwf := h.wf k p l hx
 have hb := hwf.bounds
 have hl := lim_lt hwf.limited
 simp only at hb hl
 have hpl : (planeB p).length ≤ 14 := planeB_short ⟨by omega, by omega, by omega, fun k => (hl k).2⟩
 by_cases h1 : p.ep = 1
 ·have hk1 : (flE k (p, l)).kind = 1 := by unfold flE; simp [h1]
  have := entB_len (hf.c (by omega))
  omega
 ·have hk1 : (flE k (p, l)).kind = 7 := by unfold flE; simp [h1]
  have hw := hf.w hk1
  have hfs := fillsB_short (fun s hs => (hw.2 s hs).1)
  have hn : (flE k (p, l)).seats.length = nFull l := by
   show (l.filter fun s => s.st != 0).length = l.countP fun s => s.st != 0
   rw [List.countP_eq_length_filter]
  have he := (numB_len p.ep).2
  have hc := numB_two (x := ((flE k (p, l)).seats.length : Int)) (by have := hw.1; omega)
  unfold entB
  rw [if_neg (by omega), if_neg (by omega), if_neg (by omega), if_neg (by omega), if_neg (by omega), if_neg (by omega)]
  unfold wholeB
  simp only [List.length_cons, List.length_append]
  have e2 : (flE k (p, l)).pla = p := rfl
  rw [e2]
  omega
def wtF (fl : Fls) : Nat → Int
 | 0 => 200
 | k + 1 => wtF fl k + (match fl k with | none => 0 | some x => 60 + 30 * (nFull x.2 : Int))
theorem wtF_ge (fl : Fls) : ∀ k, 200 ≤ wtF fl k
 | 0 => by unfold wtF; omega
 | k + 1 => by
  have := wtF_ge fl k
  unfold wtF
  split
  ·omega
  ·rename_i x _
   have : (0 : Int) ≤ nFull x.2 := Int.natCast_nonneg _
   show 200 ≤ wtF fl k + (60 + 30 * (nFull x.2 : Int))
   omega
theorem esTo_short {N now : Int} {fl : Fls} (h : FlOk N now fl) : ∀ k, k ≤ 21 → ((entsB 0 (esTo now fl k)).length : Int) ≤ wtF fl k - 100
 | 0, _ => by
  unfold esTo wtF
  by_cases h0 : 0 < now
  ·rw [if_pos h0]
   have := (numB_len (now - 0)).2
   show ((192 :: numB (now - 0) ++ []).length : Int) ≤ _
   simp only [List.append_nil, List.length_cons]
   omega
  ·rw [if_neg h0]
   show ((0 : Nat) : Int) ≤ _
   omega
 | k + 1, hk => by
  have ih := esTo_short h k (by omega)
  cases hx : fl k with
  | none =>
   rw [esTo_none hx]
   unfold wtF
   rw [hx]
   simp only
   omega
  | some x =>
   obtain ⟨p, l⟩ := x
   have hl := flE_len h (by omega) hx
   rw [esTo_some hx, entsB_append, entsNow_fold, esTo_now h k]
   have e : entsB now [flE k (p, l)] = entB now (flE k (p, l)) := by show entB now (flE k (p, l)) ++ [] = _; rw [List.append_nil]
   rw [e, List.length_append]
   unfold wtF
   rw [hx]
   simp only
   omega
theorem wholeK_short {N now : Int} {fl : Fls} (h : FlOk N now fl) : ((wholeK now fl).length : Int) ≤ wtF fl 21 := by
 have h1 := esTo_short h 21 (by omega)
 have h2 := wtF_ge fl 21
 rw [esTo_all] at h1
 have h3 := esTo_len now fl 21
 rw [esTo_all] at h3
 have h4 := numB_two (x := ((wholeEs now fl).length : Int)) (by omega)
 unfold wholeK
 split
 ·simp; omega
 ·unfold recB
  simp only [List.length_append, List.length_cons, List.length_nil]
  omega
theorem fillsB_byte {now : Int} : ∀ {ss : List Sea}, (∀ s ∈ ss, SFit now s) → ∀ b ∈ fillsB now ss, isB b
 | [], _ => all_nil
 | s :: ss, h => all_app (fillB_byte (h s (by simp))) (fillsB_byte (fun x hx => h x (List.mem_cons_of_mem _ hx)))
theorem entE_byte {now : Int} {e : Ent} (h : EFit now e) : ∀ b ∈ entB now e, isB b := by
 by_cases h7 : e.kind = 7
 ·obtain ⟨p1, p2, p3, p4, p5, p6⟩ := h.p h7
  obtain ⟨w1, w2⟩ := h.w h7
  have hf := h.fl h7
  have l0 := p4 0
  have l1 := p4 1
  have l2 := p4 2
  have l3 := p4 3
  simp only [Pla.lim] at l0 l1 l2 l3
  unfold entB
  rw [if_neg (by omega), if_neg (by omega), if_neg (by omega), if_neg (by omega), if_neg (by omega), if_neg (by omega)]
  refine all_cons ⟨by omega, by omega⟩ ?_
  unfold wholeB planeB shapeB
  exact all_app (all_app (all_app (all_app (all_app (all_app (all_app (all_app (all_app (num_isB (by omega)) (num_isB (by omega))) (num_isB (by omega))) (num_isB (by omega))) (num_isB (by omega))) (num_isB (by omega))) (num_isB (by omega))) (num_isB (by omega))) (num_isB (by omega))) (fillsB_byte (fun s hs => (w2 s hs).1))
 ·exact entB_byte (h.c h7)
theorem entsE_byte : ∀ {es : List Ent} {now : Int}, EsFit now es → ∀ b ∈ entsB now es, isB b
 | [], _, _ => all_nil
 | e :: es, now, h => all_app (entE_byte h.1) (entsE_byte h.2)
theorem wholeK_byte {N now : Int} {fl : Fls} (h : FlOk N now fl) : ∀ b ∈ wholeK now fl, 0 ≤ b ∧ b < 256 := by
 have h3 := esTo_len now fl 21
 rw [esTo_all] at h3
 have h4 := esTo_fit h 21 (by omega)
 rw [esTo_all] at h4
 unfold wholeK
 split
 ·exact all_nil
 ·unfold recB
  exact all_app (all_app (num_isB (by omega)) (entsE_byte h4)) (all_cons ⟨by omega, by omega⟩ all_nil)
theorem wholeEs_play {N now : Int} {fl : Fls} (h : FlOk N now fl) : PlayE 0 noFl (wholeEs now fl) now fl := by
 have := esTo_play h 21
 rw [esTo_all] at this
 have e : below fl 21 = fl := by
  funext j
  unfold below
  by_cases hj : j < 21
  ·rw [if_pos hj]
  ·rw [if_neg hj, h.rng j (by omega)]
 rw [e] at this
 exact this
theorem wholeEs_fit {N now : Int} {fl : Fls} (h : FlOk N now fl) : EsFit 0 (wholeEs now fl) := by
 have h4 := esTo_fit h 21 (by omega)
 rw [esTo_all] at h4
 exact h4
theorem wholeEs_now {N now : Int} {fl : Fls} (h : FlOk N now fl) : entsNow 0 (wholeEs now fl) = now := by
 have h4 := esTo_now h 21
 rw [esTo_all] at h4
 exact h4
theorem entOf_fit {N now now' : Int} {fl fl' : Fls} {c : Cmd} (h : FlOk N now fl) (hd : doK now fl c = (0, now', fl')) : EFit now (entOf now c) := by
 have ht := h.time
 have hN := h.big
 have hk := ent_kind now c
 have hc := doK_cfit (now := now) (fl := fl) (c := c) (by omega) (fun n p l _ e => h.wf n p l e) (by rw [hd])
 refine ⟨by omega, fun _ => hc, fun h2 => ?_, fun e => by omega, fun e => by omega, fun e => by omega⟩
 have hk3 : c.kind = 2 ∨ c.kind = 3 ∨ c.kind = 6 := by
  unfold entOf at h2
  simp only at h2
  repeat' split at h2
  all_goals omega
 have hfl : ∃ p l, fl c.flight.toNat = some (p, l) ∧ seatErr p l c now = 0 := by
  unfold doK at hd
  rw [if_neg (by omega), if_neg (by omega)] at hd
  by_cases hf : 1 ≤ c.flight ∧ c.flight ≤ 20
  case neg => rw [if_pos hf] at hd; exact absurd hd (by simp)
  rw [if_neg (by simpa using hf)] at hd
  cases hx : fl c.flight.toNat with
  | none => rw [hx] at hd; simp only at hd; rw [if_neg (by omega)] at hd; exact absurd hd (by simp)
  | some x =>
   obtain ⟨p, l⟩ := x
   rw [hx] at hd
   simp only at hd
   rw [if_neg (by omega)] at hd
   by_cases hz : seatErr p l c now = 0
   ·exact ⟨p, l, rfl, hz⟩
   ·rw [if_neg hz] at hd; exact absurd (congrArg (·.1) hd) hz
 obtain ⟨p, l, _, hz⟩ := hfl
 obtain ⟨_, _, _, g2, g3⟩ := seatErr_zero hz (by omega)
 rcases hk3 with k | k | k
 ·have hs : (entOf now c).sea = ⟨c.ar, c.ac, 1, c.party, c.cls, c.time⟩ := by unfold entOf; simp [k]
  have hb := buyer_ok (g2 k).1
  have htm := g2 k
  rw [hs]
  exact ⟨by simp, by simp, by simp only; omega, by simp only; omega, by simp, by simp only; omega, by simp only; omega, by simp⟩
 ·have hs : (entOf now c).sea = ⟨c.ar, c.ac, 2, c.party, c.cls, 0⟩ := by unfold entOf; simp [k]
  have hb := buyer_ok (g3 k)
  rw [hs]
  exact ⟨by simp, by simp, by simp only; omega, by simp only; omega, by simp, by simp only; omega, by simp, by simp⟩
 ·have hs : (entOf now c).sea = ⟨c.ar, c.ac, 3, 0, 0, 0⟩ := by unfold entOf; simp [k]
  rw [hs]
  exact ⟨by simp, by simp, by simp, by simp, by simp, by simp, by simp, by simp⟩
end Go.Proofs.Ythhibagcpjeihaa
