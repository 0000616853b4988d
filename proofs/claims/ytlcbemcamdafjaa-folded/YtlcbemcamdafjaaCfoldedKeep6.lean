import Derived.Test.YtlcbemcamdafjaaCfoldedKeep5Swap1
import Derived.Test.YtlcbemcamdafjaaCfoldedCellsSwap5
/- A keeper does a command: what comes of it. -/
namespace Go.Proofs.Ytlcbemcamdafjaa
open Go.RowKit
open Go.ChangeMaps (setBlock)
open M
set_option linter.unusedVariables false
set_option linter.unusedSimpArgs false
set_option maxRecDepth 100000

/-- The answer, the time and the flights behind a command. -/
def doK (now : Int) (fl : Nat → Option (Pla × List Sea)) (c : Cmd) : Int × Int × (Nat → Option (Pla × List Sea)) :=
  if c.kind < 1 ∨ c.kind > 9 then (1, now, fl)
  else if c.kind = 8 then (if 1 ≤ c.time ∧ c.time ≤ 100 then (0, now + c.time, fun n => (fl n).map (tickF (now + c.time))) else (8, now, fl))
  else if ¬ (1 ≤ c.flight ∧ c.flight ≤ 20) then (2, now, fl)
  else match fl c.flight.toNat with
    | none => if c.kind = 1 then (if c.pla.sized = true ∧ c.pla.limited = true then (0, now, fun j => if j = c.flight.toNat then some (c.pla.at 1, emptySeats c.pla) else fl j) else (4, now, fl)) else (2, now, fl)
    | some x => if c.kind = 1 then (3, now, fl) else if seatErr x.1 x.2 c now = 0 then (0, now, fun j => if j = c.flight.toNat then some (planNew x.1 c, seatNew x.1 x.2 c) else fl j) else (seatErr x.1 x.2 c now, now, fl)

/-- A keeper, whosesoever its blocks. -/
structure KeepH (w : World) (ow : Nat → Nat) (kb : Nat) (now : Int) (fl : Nat → Option (Pla × List Sea)) : Prop where
  ex : ∃ pt, KeepX w ow kb now pt fl

/-- What has become of a keeper. -/
structure Kept (w w' : World) (ow : Nat → Nat) (kb : Nat) (now : Int) (fl : Nat → Option (Pla × List Sea)) : Prop where
  keep : ∃ ow', KeepH w' ow' kb now fl ∧ ∀ k, k < w.heap.size → ow' k = ow k
  mod : Mod (fun k => ow k ≠ 0) w w'
  fol : ∀ i, i < 8 → w'.cell? ⟨kb, 22 + i, none⟩ = w.cell? ⟨kb, 22 + i, none⟩

/-- The followers stand where they stood. -/
theorem fol_same {w w' : World} {kb : Nat} {now now' : Int} {pt pt' : Nat → Option Nat} (h : Has w kb (keepCells now pt) 108) (h' : Has w' kb (keepCells now' pt') 108) (hp : ∀ i, 21 ≤ i → pt' i = pt i) :
    ∀ i, i < 8 → w'.cell? ⟨kb, 22 + i, none⟩ = w.cell? ⟨kb, 22 + i, none⟩ := fun i hi => by
  rw [h.cell, h'.cell, keep_far _ _ i hi, keep_far _ _ i hi, hp _ (by omega)]
theorem Kept.first {a w w' : World} {ow : Nat → Nat} {kb : Nat} {now : Int} {fl : Nat → Option (Pla × List Sea)} {cs : Array Value} (h : Kept w w' ow kb now fl) (hm : Mod No a w) (hk : Has a kb cs 108) : Kept a w' ow kb now fl := by
  obtain ⟨⟨ow', q, ho⟩, m, f⟩ := h
  exact ⟨⟨ow', q, fun k hk => ho k (Nat.lt_of_lt_of_le hk hm.size)⟩, (hm.mono (fun _ _ x => x.elim)).trans m, fun i hi => by rw [f i hi, (hm.has hk (fun x => x)).cell, hk.cell]⟩

theorem Kept.same {w w' : World} {ow : Nat → Nat} {kb : Nat} {now : Int} {pt : Nat → Option Nat} {fl : Nat → Option (Pla × List Sea)} (h : KeepX w ow kb now pt fl) (hm : Mod No w w') : Kept w w' ow kb now fl :=
  ⟨⟨ow, ⟨pt, h.mod hm (fun _ _ x => x)⟩, fun _ _ => rfl⟩, hm.mono (fun _ _ x => x.elim), fol_same h.has (hm.has h.has (fun x => x)) (fun _ _ => rfl)⟩

theorem refuse_ne {e : Int} (h : e ≠ 0) (x : Int) (he : x = e) : x ≠ 0 := by rw [he]; exact h

theorem apply_start {w : World} {ow : Nat → Nat} {kb : Nat} {now : Int} {pt : Nat → Option Nat} {fl : Nat → Option (Pla × List Sea)} (h : KeepX w ow kb now pt fl) (n : Nat) (hn : 1 ≤ n ∧ n ≤ 20) (hfl : fl n = none) (p : Pla) (h1 : p.sized = true) (h2 : p.limited = true) :
    Calls Try.prog 45 #[.pointer (some ⟨kb, 0, none⟩), .int .i64 n, startV p] w fun e w' =>
      e = .returned (.tuple #[]) ∧ Kept w w' ow kb now (fun j => if j = n then some (p.at 1, emptySeats p) else fl j) := by
  refine apply_new kb n hn now pt p w _ h.has (h.gone n (by omega) hfl) (fun W hW hk hb => ?_)
  have hs : w.heap.size ≤ W.heap.size := hW.size
  have hbl := hb.lt
  refine (start_any hb h1 h2).mono ?_
  rintro e w' ⟨rfl, hf, hm⟩
  refine ⟨rfl, ⟨fun k => if k < w.heap.size then ow k else if k = w.heap.size + 1 ∨ (W.heap.size ≤ k ∧ k < w'.heap.size) then n + 2 else 0, ⟨updP pt n (w.heap.size + 1), ?_⟩, fun k hk => by simp [hk]⟩, ?_, fol_same h.has (Mod.has (S := fun k => k = w.heap.size + 1) hm hk (by have := h.has.lt; omega)) (fun i hi => by simp only [updP]; rw [if_neg (by omega)])⟩
  · have kl : kb < w.heap.size := h.has.lt
    have hm' : Mod (fun k => k = w.heap.size + 1) W w' := hm
    have hsz : W.heap.size ≤ w'.heap.size := hm.size
    refine ⟨hm'.has hk (by omega), by simp [kl, h.mine], fun k hk' => ?_, fun j hj hn' => ?_, fun j p' l' hj hn' => ?_⟩
    · split at hk'
      · omega
      · split at hk'
        · rename_i e; rcases e with e | e <;> omega
        · exact absurd rfl hk'
    · by_cases e : j = n
      · rw [if_pos e] at hn'; exact absurd hn' (by simp)
      · rw [if_neg e] at hn'
        simp only [updP, if_neg e]
        exact h.gone j hj hn'
    · by_cases e : j = n
      · rw [if_pos e] at hn'
        simp only [Option.some.injEq, Prod.mk.injEq] at hn'
        obtain ⟨rfl, rfl⟩ := hn'
        subst e
        refine ⟨w.heap.size + 1, by simp [updP], (empty_wf h1 h2).at 1, ?_⟩
        refine hf.narrow.wide (fun k ⟨hk1, hk2⟩ => ?_)
        have : ¬ k < w.heap.size := by rcases hk1 with e | e <;> omega
        have h3 : k = w.heap.size + 1 ∨ (W.heap.size ≤ k ∧ k < w'.heap.size) := by rcases hk1 with e | e; exact .inl e; exact .inr ⟨e, hk2⟩
        simp only [if_neg this, if_pos h3]
      · rw [if_neg e] at hn'
        obtain ⟨b', e1, e2, e3⟩ := h.here j p' l' hj hn'
        refine ⟨b', by simp only [updP, if_neg e]; exact e1, e2, ?_⟩
        have f1 : FlH W (fun k => ow k = j + 2) b' p' l' := e3.mod hW (fun k hk' e => by subst e; rw [h.mine] at hk'; omega)
        have f2 : FlH w' (fun k => ow k = j + 2) b' p' l' := f1.mod hm' (fun k hk' e => by
          subst e
          have := h.old _ (show ow (w.heap.size + 1) ≠ 0 by omega)
          omega)
        refine f2.wide (fun k hk' => ?_)
        have := h.old k (by omega)
        simp only [if_pos this]
        exact hk'
  · refine (hW.mono (fun k _ (e : k = kb) => by subst e; show ow k ≠ 0; rw [h.mine]; omega)).trans' hm (fun i (e : i = w.heap.size + 1) hl => by omega)

/-- A flight gets another plane. -/
theorem refit_keep {w : World} {ow : Nat → Nat} {kb : Nat} {now : Int} {pt : Nat → Option Nat} {fl : Nat → Option (Pla × List Sea)} (h : KeepX w ow kb now pt fl) (n : Nat) (hn : 1 ≤ n ∧ n ≤ 20) {p : Pla} {l : List Sea} (hfl : fl n = some (p, l)) (c : Cmd) (h9 : c.kind = 9) (he : seatErr p l c now = 0) :
    Calls Try.prog 45 #[.pointer (some ⟨kb, 0, none⟩), .int .i64 n, changeV c] w fun e w' =>
      e = .returned (.tuple #[]) ∧ Kept w w' ow kb now (fun j => if j = n then some (planNew p c, seatNew p l c) else fl j) := by
  obtain ⟨b, hp, hwf, hf⟩ := h.here n p l (by omega) hfl
  have hc : (keepCells now pt)[1 + n]? = some (.pointer (some ⟨b, 0, none⟩)) := by rw [keep_at now pt n (by omega), hp]; rfl
  have hob : ow b = n + 2 := by obtain ⟨m, es, clock, _, _, _, _, q, _⟩ := hf; exact q
  have hbl : b < w.heap.size := by obtain ⟨m, es, clock, q, _⟩ := hf; exact q.lt
  have hq : c.pla.sized = true ∧ ¬ (c.pla.rows * c.pla.cols < (nFull l : Int)) := by
    unfold seatErr at he
    rw [if_pos h9] at he
    by_cases hq : c.pla.sized = true ∧ ¬ (c.pla.rows * c.pla.cols < (nFull l : Int))
    · exact hq
    · rw [if_neg hq] at he; exact absurd he (by omega)
  have ech : changeV c = refitV c.pla := by unfold changeV; rw [if_pos h9]
  have esn : seatNew p l c = swapSeats (swapPla p c.pla) l := by unfold seatNew; rw [if_pos h9]
  have epn : planNew p c = swapPla p c.pla := by unfold planNew; rw [if_pos h9]
  have hwf2 : Wf (swapPla p c.pla) (swapSeats (swapPla p c.pla) l) := swap_wf (q := swapPla p c.pla) hwf hq.1 hwf.limited hq.2
  rw [ech, esn, epn]
  unfold refitV
  refine apply_refit kb b n hn _ _ _ _ w _ h.has hc (fun W hW => (refit_any (hf.mod0 hW) hwf hq.1 hq.2).mono ?_)
  rintro e w' ⟨rfl, hf', hm⟩
  have hs : w.heap.size ≤ W.heap.size := hW.size
  have kl : kb < w.heap.size := h.has.lt
  have hsz : W.heap.size ≤ w'.heap.size := hm.size
  refine ⟨rfl, ⟨fun k => if k < w.heap.size then ow k else if W.heap.size ≤ k ∧ k < w'.heap.size then n + 2 else 0, ⟨pt, ?_⟩, fun k hk => by simp [hk]⟩, (hW.mono (fun _ _ x => x.elim)).trans (hm.mono (fun k _ (e : k = b) => by subst e; show ow k ≠ 0; omega)), fol_same h.has (hm.has (hW.has h.has (fun x => x)) (by intro e; have := h.mine; rw [e] at this; omega)) (fun _ _ => rfl)⟩
  refine ⟨hm.has (hW.has h.has (fun x => x)) (by intro e; have := h.mine; rw [e] at this; omega), by simp [kl, h.mine], fun k hk' => ?_, fun j hj hn' => ?_, fun j p' l' hj hn' => ?_⟩
  · split at hk'
    · omega
    · split at hk'
      · omega
      · exact absurd rfl hk'
  · by_cases e : j = n
    · rw [if_pos e] at hn'; exact absurd hn' (by simp)
    · rw [if_neg e] at hn'
      exact h.gone j hj hn'
  · by_cases e : j = n
    · rw [if_pos e] at hn'
      simp only [Option.some.injEq, Prod.mk.injEq] at hn'
      obtain ⟨rfl, rfl⟩ := hn'
      subst e
      refine ⟨b, hp, hwf2, hf'.narrow.wide (fun k ⟨hk1, hk2⟩ => ?_)⟩
      rcases hk1 with e | e
      · subst e
        simp only [if_pos hbl]
        exact hob
      · have : ¬ k < w.heap.size := by omega
        simp only [if_neg this, if_pos (And.intro e hk2)]
    · rw [if_neg e] at hn'
      obtain ⟨b', e1, e2, e3⟩ := h.here j p' l' hj hn'
      refine ⟨b', e1, e2, ?_⟩
      have f2 : FlH w' (fun k => ow k = j + 2) b' p' l' := (e3.mod0 hW).mod hm (fun k hk' e => by subst e; omega)
      refine f2.wide (fun k hk' => ?_)
      have := h.old k (by omega)
      simp only [if_pos this]
      exact hk'

theorem do_any {w : World} {ow : Nat → Nat} {kb : Nat} {now : Int} {fl : Nat → Option (Pla × List Sea)} (h : KeepH w ow kb now fl) (hn : 0 ≤ now ∧ now ≤ 4611686018427387000) (c : Cmd) :
    Calls Try.prog 24 #[.pointer (some ⟨kb, 0, none⟩), .agg (cmdCells c)] w fun e w' =>
      e = .returned (.int .i64 (doK now fl c).1) ∧ Kept w w' ow kb (doK now fl c).2.1 (doK now fl c).2.2 := by
  obtain ⟨pt, h⟩ := h
  have no : ∀ x : Int, x ≠ 0 → (∀ W, Mod No w W → Calls Try.prog 44 #[.pointer (some ⟨kb, 0, none⟩), .agg (cmdCells c)] W fun e w' => e = .returned (refuse x) ∧ Mod No W w') →
      Calls Try.prog 24 #[.pointer (some ⟨kb, 0, none⟩), .agg (cmdCells c)] w fun e w' => e = .returned (.int .i64 x) ∧ Kept w w' ow kb now fl := fun x hx hL =>
    (do_refuse kb c x hx w hL).mono (fun e w' ⟨r, m⟩ => ⟨r, Kept.same h m⟩)
  unfold doK
  by_cases hbad : c.kind < 1 ∨ c.kind > 9
  · rw [if_pos hbad]
    exact no 1 (by omega) (fun W _ => klook_bad kb c hbad W)
  rw [if_neg hbad]
  by_cases h8 : c.kind = 8
  · rw [if_pos h8]
    have hN : ∀ W, Mod No w W → ∀ W', Mod No W W' → Calls Try.prog 22 #[.pointer (some ⟨kb, 0, none⟩)] W' fun e w' => e = .returned (.int .i64 now) ∧ w' = W' := fun W hW W' hW' => now_any (h.mod (hW.trans hW') (fun _ _ x => x))
    by_cases ht : 1 ≤ c.time ∧ c.time ≤ 100
    · rw [if_pos ht]
      refine do_grant kb c (passV (now + c.time)) w _ (fun W hW => klook_tick kb c now _ _ h8 W (hN W hW) (fun W' => tickLook_yes c.time now W' ht.1 ht.2 hn)) (fun W hW => ?_)
      exact apply_pass kb c.flight (now + c.time) W _ (fun W' hW' => (kpass_any (h.mod (hW.trans hW') (fun _ _ x => x)) (now + c.time)).mono (fun e w' ⟨r, k, m⟩ => ⟨r, ⟨ow, ⟨pt, k⟩, fun _ _ => rfl⟩, ((hW.trans hW').mono (fun _ _ x => x.elim)).trans m, fol_same h.has k.has (fun _ _ => rfl)⟩))
    · rw [if_neg ht]
      exact no 8 (by omega) (fun W hW => klook_tick kb c now _ _ h8 W (hN W hW) (fun W' => tickLook_out c.time now W' ht))
  rw [if_neg h8]
  by_cases hf : 1 ≤ c.flight ∧ c.flight ≤ 20
  case neg =>
    rw [if_pos hf]
    exact no 2 (by omega) (fun W _ => klook_num kb c (by omega) hf W)
  rw [if_neg (by simpa using hf)]
  have hfn : ((c.flight.toNat : Nat) : Int) = c.flight := by omega
  have hF : ∀ W, Mod No w W → ∀ W', Mod No W W' → Calls Try.prog 40 #[.pointer (some ⟨kb, 0, none⟩), .int .i64 c.flight] W' fun e w' => e = .returned (pv (pt c.flight.toNat)) ∧ w' = W' := fun W hW W' hW' => by
    have := find_any (h.mod (hW.trans hW') (fun _ _ x => x)) c.flight.toNat (by omega)
    rw [hfn] at this
    exact this
  cases hfl : fl c.flight.toNat with
  | none =>
    have hp := h.gone _ (by omega) hfl
    rw [hp] at hF
    simp only
    by_cases k1 : c.kind = 1
    · rw [if_pos k1]
      by_cases hs : c.pla.sized = true ∧ c.pla.limited = true
      · rw [if_pos hs]
        have hA : ∀ W, Calls Try.prog 51 #[plaV c.pla] W fun e w' => e = .returned (.tuple #[startV c.pla, .int .i64 0]) ∧ Mod No W w' := fun W => by
          have := lookAdd_walk c.pla W
          unfold addV at this
          rw [if_pos hs] at this
          exact this
        refine do_grant kb c (startV c.pla) w _ (fun W hW => klook_add kb c _ _ k1 hf W (hF W hW) hA) (fun W hW => ?_)
        have := apply_start (h.mod hW (fun _ _ x => x)) c.flight.toNat (by omega) hfl c.pla hs.1 hs.2
        rw [hfn] at this
        refine this.mono ?_
        rintro e w' ⟨r, k⟩
        exact ⟨r, k.first hW h.has⟩
      · rw [if_neg hs]
        have hA : ∀ W, Calls Try.prog 51 #[plaV c.pla] W fun e w' => e = .returned (.tuple #[.nilIface, .int .i64 4]) ∧ Mod No W w' := fun W => by
          have := lookAdd_walk c.pla W
          unfold addV at this
          rw [if_neg hs] at this
          exact this
        exact no 4 (by omega) (fun W hW => klook_add kb c _ _ k1 hf W (hF W hW) hA)
    · rw [if_neg k1]
      exact no 2 (by omega) (fun W hW => klook_miss kb c (by omega) hf W (hF W hW))
  | some x =>
    obtain ⟨p, l⟩ := x
    obtain ⟨b, hp, hwf, hfh⟩ := h.here _ p l (by omega) hfl
    rw [hp] at hF
    simp only
    by_cases k1 : c.kind = 1
    · rw [if_pos k1]
      exact no 3 (by omega) (fun W hW => klook_twice kb b c k1 hf W (hF W hW))
    · rw [if_neg k1]
      have hL : ∀ W, Mod No w W → ∀ W', Mod No W W' → Calls Try.prog 52 #[.pointer (some ⟨b, 0, none⟩), .agg (cmdCells c), .int .i64 now] W' fun e w' => e = .returned (lookV p l c now) ∧ Mod No W' w' := fun W hW W' hW' => by
        obtain ⟨m, es, clock, q1, q2, q3, q4, q5, q6⟩ := hfh.mod0 (hW.trans hW')
        exact flook_any ⟨q1, q2, q3, q4⟩ hwf c now hn (by omega)
      unfold lookV at hL
      by_cases hz : seatErr p l c now = 0
      · rw [if_pos hz] at hL ⊢
        refine do_grant kb c (changeV c) w _ (fun W hW => klook_fl kb b c now _ _ _ (by omega) hf W (hW.has h.has (fun x => x)) rfl (hF W hW) (hL W hW)) (fun W hW => ?_)
        by_cases h9 : c.kind = 9
        · have := refit_keep (h.mod hW (fun _ _ x => x)) c.flight.toNat (by omega) hfl c h9 hz
          rw [hfn] at this
          refine this.mono ?_
          rintro e w' ⟨r, k⟩
          exact ⟨r, k.first hW h.has⟩
        have := apply_seat (h.mod hW (fun _ _ x => x)) c.flight.toNat (by omega) hfl hn c (by omega) hz h9
        rw [hfn] at this
        refine this.mono ?_
        rintro e w' ⟨r, hk, m⟩
        have epn : planNew p c = p.next := by unfold planNew; rw [if_neg h9]
        rw [epn]
        exact ⟨r, ⟨ow, ⟨pt, hk⟩, fun _ _ => rfl⟩, (hW.mono (fun _ _ x => x.elim)).trans m, fol_same h.has hk.has (fun _ _ => rfl)⟩
      · rw [if_neg hz] at hL ⊢
        exact no _ hz (fun W hW => klook_fl kb b c now _ _ _ (by omega) hf W (hW.has h.has (fun x => x)) rfl (hF W hW) (hL W hW))
end Go.Proofs.Ytlcbemcamdafjaa
