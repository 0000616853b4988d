import Derived.Test.YtlcbemcamdafjaaCfoldedLook8
import Derived.Deep.MidRow
/- A keeper in memory; its time; its flights by their numbers. -/
namespace Go.Proofs.Ytlcbemcamdafjaa
open Go.RowKit
open Go.ChangeMaps (setBlock)
open M
set_option linter.unusedVariables false
set_option linter.unusedSimpArgs false
set_option maxRecDepth 100000

/-- A pointer that may be nil. -/
def pv (x : Option Nat) : Value := .pointer (x.map fun b => ⟨b, 0, none⟩)
def keepCells (now : Int) (pt : Nat → Option Nat) : Array Value :=
  #[.int .i64 now, pv (pt 0), pv (pt 1), pv (pt 2), pv (pt 3), pv (pt 4), pv (pt 5), pv (pt 6), pv (pt 7), pv (pt 8), pv (pt 9), pv (pt 10), pv (pt 11), pv (pt 12), pv (pt 13), pv (pt 14), pv (pt 15), pv (pt 16), pv (pt 17), pv (pt 18), pv (pt 19), pv (pt 20), .map (pt 21), .map (pt 22), .map (pt 23), .map (pt 24), .map (pt 25), .map (pt 26), .map (pt 27), .map (pt 28)]

theorem keep_at (now : Int) (pt : Nat → Option Nat) (n : Nat) (hn : n < 21) : (keepCells now pt)[1 + n]? = some (pv (pt n)) := by
  have : n = 0 ∨ n = 1 ∨ n = 2 ∨ n = 3 ∨ n = 4 ∨ n = 5 ∨ n = 6 ∨ n = 7 ∨ n = 8 ∨ n = 9 ∨ n = 10 ∨ n = 11 ∨ n = 12 ∨ n = 13 ∨ n = 14 ∨ n = 15 ∨ n = 16 ∨ n = 17 ∨ n = 18 ∨ n = 19 ∨ n = 20 := by omega
  rcases this with h | h | h | h | h | h | h | h | h | h | h | h | h | h | h | h | h | h | h | h | h <;> (subst h; rfl)

/-- Behind the flights stand the followers. -/
theorem keep_far (now : Int) (pt : Nat → Option Nat) (i : Nat) (hi : i < 8) : (keepCells now pt)[22 + i]? = some (.map (pt (21 + i))) := by
  have : i = 0 ∨ i = 1 ∨ i = 2 ∨ i = 3 ∨ i = 4 ∨ i = 5 ∨ i = 6 ∨ i = 7 := by omega
  rcases this with h | h | h | h | h | h | h | h <;> (subst h; rfl)

def updP (pt : Nat → Option Nat) (n b : Nat) : Nat → Option Nat := fun j => if j = n then some b else pt j

theorem keep_set (now : Int) (pt : Nat → Option Nat) (n b : Nat) (hn : n < 21) : (keepCells now pt).setIfInBounds (1 + n) (pv (some b)) = keepCells now (updP pt n b) := by
  have : n = 0 ∨ n = 1 ∨ n = 2 ∨ n = 3 ∨ n = 4 ∨ n = 5 ∨ n = 6 ∨ n = 7 ∨ n = 8 ∨ n = 9 ∨ n = 10 ∨ n = 11 ∨ n = 12 ∨ n = 13 ∨ n = 14 ∨ n = 15 ∨ n = 16 ∨ n = 17 ∨ n = 18 ∨ n = 19 ∨ n = 20 := by omega
  rcases this with h | h | h | h | h | h | h | h | h | h | h | h | h | h | h | h | h | h | h | h | h <;> (subst h; rfl)

/-- The flights of a keeper: what the owners' marks say is whose. -/
structure KeepX (w : World) (ow : Nat → Nat) (kb : Nat) (now : Int) (pt : Nat → Option Nat) (fl : Nat → Option (Pla × List Sea)) : Prop where
  has : Has w kb (keepCells now pt) 108
  mine : ow kb = 1
  old : ∀ k, ow k ≠ 0 → k < w.heap.size
  gone : ∀ n, n < 21 → fl n = none → pt n = none
  here : ∀ n p l, n < 21 → fl n = some (p, l) → ∃ b, pt n = some b ∧ Wf p l ∧ FlH w (fun k => ow k = n + 2) b p l

theorem now_any {w : World} {ow : Nat → Nat} {kb : Nat} {now : Int} {pt : Nat → Option Nat} {fl : Nat → Option (Pla × List Sea)} (h : KeepX w ow kb now pt fl) :
    Calls Try.prog 22 #[.pointer (some ⟨kb, 0, none⟩)] w fun e w' => e = .returned (.int .i64 now) ∧ w' = w := by
  have c0 := h.has.cell 0
  rw [show (keepCells now pt)[0]? = some (.int .i64 now) from rfl] at c0
  have hlt := h.has.lt
  clear h
  go_enter Try.func22, Try.ntmps22
  go_wp2
  go_ret
  exact ⟨rfl, rfl⟩

theorem find_no (kb : Nat) (n : Int) (hn : ¬ (1 ≤ n ∧ n ≤ 20)) (w : World) :
    Calls Try.prog 40 #[.pointer (some ⟨kb, 0, none⟩), .int .i64 n] w fun e w' => e = .returned (.pointer none) ∧ w' = w := by
  by_cases h1 : n < 1
  · go_enter Try.func40, Try.ntmps40
    go_wp2
    go_ret
    exact ⟨rfl, rfl⟩
  · have h2 : n > 20 := by omega
    go_enter Try.func40, Try.ntmps40
    go_wp2
    go_ret
    exact ⟨rfl, rfl⟩

theorem find_cell (kb : Nat) (n : Nat) (hn : 1 ≤ n ∧ n ≤ 20) (x : Value) (cs : Array Value) (w : World) (h : Has w kb cs 108) (hc : cs[1 + n]? = some x) :
    Calls Try.prog 40 #[.pointer (some ⟨kb, 0, none⟩), .int .i64 n] w fun e w' => e = .returned x ∧ w' = w := by
  have c := h.cell (1 + n)
  rw [hc] at c
  have hlt := h.lt
  clear h hc
  have h1 : ¬ (n : Int) < 1 := by omega
  have h2 : ¬ (n : Int) > 20 := by omega
  have h3 : (n : Int) < 21 := by omega
  have h4 : (0 : Int) ≤ n := by omega
  go_enter Try.func40, Try.ntmps40
  go_wp2
  go_ret
  exact ⟨rfl, rfl⟩

theorem find_any {w : World} {ow : Nat → Nat} {kb : Nat} {now : Int} {pt : Nat → Option Nat} {fl : Nat → Option (Pla × List Sea)} (h : KeepX w ow kb now pt fl) (n : Nat) (hn : 1 ≤ n ∧ n ≤ 20) :
    Calls Try.prog 40 #[.pointer (some ⟨kb, 0, none⟩), .int .i64 n] w fun e w' => e = .returned (pv (pt n)) ∧ w' = w :=
  find_cell kb n hn _ _ w h.has (keep_at now pt n (by omega))
end Go.Proofs.Ytlcbemcamdafjaa
/- Time passes for a keeper. -/
namespace Go.Proofs.Ytlcbemcamdafjaa
open Go.RowKit
open Go.ChangeMaps (setBlock)
open M
set_option linter.unusedVariables false
set_option linter.unusedSimpArgs false
set_option maxRecDepth 100000
set_option maxHeartbeats 2000000

theorem KeepX.mod {w w' : World} {ow : Nat → Nat} {kb : Nat} {now : Int} {pt : Nat → Option Nat} {fl : Nat → Option (Pla × List Sea)} (h : KeepX w ow kb now pt fl) {S : Nat → Prop} (hm : Mod S w w') (hs : ∀ k, ow k ≠ 0 → ¬ S k) : KeepX w' ow kb now pt fl := by
  refine ⟨hm.has h.has (hs _ (by rw [h.mine]; omega)), h.mine, fun k hk => Nat.lt_of_lt_of_le (h.old k hk) hm.size, h.gone, fun n p l hn hf => ?_⟩
  obtain ⟨b, h1, h2, h3⟩ := h.here n p l hn hf
  exact ⟨b, h1, h2, h3.mod hm (fun k hk => hs k (by omega))⟩

/-- One flight has turned. -/
theorem KeepX.flight {w w' : World} {ow : Nat → Nat} {kb : Nat} {now : Int} {pt : Nat → Option Nat} {fl : Nat → Option (Pla × List Sea)} (h : KeepX w ow kb now pt fl) {n : Nat} {b : Nat} {p : Pla} {l : List Sea}
    (hm : Mod (fun k => ow k = n + 2) w w') (hp : pt n = some b) (hw : Wf p l) (hf : FlH w' (fun k => ow k = n + 2) b p l) : KeepX w' ow kb now pt (fun j => if j = n then some (p, l) else fl j) := by
  refine ⟨hm.has h.has (by rw [h.mine]; omega), h.mine, fun k hk => Nat.lt_of_lt_of_le (h.old k hk) hm.size, fun j hj hn => ?_, fun j p' l' hj hn => ?_⟩
  · by_cases e : j = n
    · rw [if_pos e] at hn; exact absurd hn (by simp)
    · rw [if_neg e] at hn; exact h.gone j hj hn
  · by_cases e : j = n
    · rw [if_pos e] at hn
      simp only [Option.some.injEq, Prod.mk.injEq] at hn
      obtain ⟨rfl, rfl⟩ := hn
      subst e
      exact ⟨b, hp, hw, hf⟩
    · rw [if_neg e] at hn
      obtain ⟨b', h1, h2, h3⟩ := h.here j p' l' hj hn
      exact ⟨b', h1, h2, h3.mod hm (fun k hk hk' => by omega)⟩

theorem KeepX.congr {w : World} {ow : Nat → Nat} {kb : Nat} {now : Int} {pt : Nat → Option Nat} {fl fl' : Nat → Option (Pla × List Sea)} (h : KeepX w ow kb now pt fl) (hf : ∀ n, n < 21 → fl n = fl' n) : KeepX w ow kb now pt fl' :=
  ⟨h.has, h.mine, h.old, fun n hn hf' => h.gone n hn (by rw [hf n hn]; exact hf'), fun n p l hn hf' => h.here n p l hn (by rw [hf n hn]; exact hf')⟩

/-- The time is another. -/
theorem KeepX.later {w : World} {ow : Nat → Nat} {kb : Nat} {now : Int} {pt : Nat → Option Nat} {fl : Nat → Option (Pla × List Sea)} (h : KeepX w ow kb now pt fl) (nw : Int) : KeepX (w.setCell ⟨kb, 0, none⟩ (.int .i64 nw)) ow kb nw pt fl := by
  have hm : Mod (fun k => k = kb) w (w.setCell ⟨kb, 0, none⟩ (.int .i64 nw)) := (Mod.refl _ w).at 0 _
  refine ⟨?_, h.mine, fun k hk => Nat.lt_of_lt_of_le (h.old k hk) hm.size, h.gone, fun n p l hn hf => ?_⟩
  · have := h.has.set 0 (.int .i64 nw)
    rw [show (keepCells now pt).setIfInBounds 0 (.int .i64 nw) = keepCells nw pt from rfl] at this
    exact this
  · obtain ⟨b, h1, h2, h3⟩ := h.here n p l hn hf
    exact ⟨b, h1, h2, h3.mod hm (fun k hk e => by subst e; rw [h.mine] at hk; omega)⟩

def tickF (nw : Int) (x : Pla × List Sea) : Pla × List Sea := (tickP nw x.1 x.2, tickSeats nw x.2)

theorem due_twice (nw : Int) (s : Sea) (h : due nw s = true) : s.freed.wf := freed_wf s

theorem tick_wf {p : Pla} {l : List Sea} (h : Wf p l) (nw : Int) : Wf p (tickSeats nw l) := by
  refine ⟨h.sized, h.limited, by simpa [tickSeats] using h.len, fun i hi => ?_, fun s hs => ?_⟩
  · have hi' : i < l.length := by simpa [tickSeats] using hi
    have := h.place i hi'
    simp only [tickSeats, List.getElem_map] at this ⊢
    split
    · exact this
    · exact this
  · simp only [tickSeats, List.mem_map] at hs
    obtain ⟨x, hx, rfl⟩ := hs
    split
    · exact freed_wf x
    · exact h.seat x hx

theorem tickP_wf {p : Pla} {l : List Sea} (h : Wf p l) (nw : Int) : Wf (tickP nw p l) (tickSeats nw l) := by
  unfold tickP
  split
  · exact (tick_wf h nw).next
  · exact tick_wf h nw

/-- A flight, its map somewhere: time passes. -/
theorem passH_any {S : Nat → Prop} {b : Nat} {p : Pla} {l : List Sea} {w : World} (h : FlH w S b p l) (hwf : Wf p l) (now : Int) :
    Calls Try.prog 69 #[.agg #[.int .i64 now], .pointer (some ⟨b, 0, none⟩)] w fun e w' => e = .returned (.tuple #[]) ∧ FlH w' S b (tickP now p l) (tickSeats now l) ∧ Mod S w w' := by
  obtain ⟨m, es, clock, h1, h2, h3, h4, h5, h6⟩ := h
  refine (pass_any ⟨h1, h2, h3, h4⟩ hwf now).mono ?_
  rintro e w' ⟨rfl, ⟨es', hx⟩, hm⟩
  exact ⟨rfl, ⟨m, es', clock, hx.has, hx.map, hx.ok, hx.rel, h5, h6⟩, hm.mono (by rintro k _ (rfl | rfl); exact h5; exact h6)⟩

theorem under90 : Try.prog.underlying 102 = some (.array 21 98) := by kernel_rfl
theorem size90 : (Try.prog.info? 102).map (·.size) = some 21 := by kernel_rfl
def ptrs (pt : Nat → Option Nat) : List Value := [pv (pt 0), pv (pt 1), pv (pt 2), pv (pt 3), pv (pt 4), pv (pt 5), pv (pt 6), pv (pt 7), pv (pt 8), pv (pt 9), pv (pt 10), pv (pt 11), pv (pt 12), pv (pt 13), pv (pt 14), pv (pt 15), pv (pt 16), pv (pt 17), pv (pt 18), pv (pt 19), pv (pt 20)]
theorem idx90 (pt : Nat → Option Nat) (n : Nat) (hn : n < 21) (w : World) : (Instr.index 102 (.agg (ptrs pt).toArray) (.int .i64 (n : Int))).run Try.prog w = .ok (pv (pt n)) w := by
  have : n = 0 ∨ n = 1 ∨ n = 2 ∨ n = 3 ∨ n = 4 ∨ n = 5 ∨ n = 6 ∨ n = 7 ∨ n = 8 ∨ n = 9 ∨ n = 10 ∨ n = 11 ∨ n = 12 ∨ n = 13 ∨ n = 14 ∨ n = 15 ∨ n = 16 ∨ n = 17 ∨ n = 18 ∨ n = 19 ∨ n = 20 := by omega
  rcases this with h | h | h | h | h | h | h | h | h | h | h | h | h | h | h | h | h | h | h | h | h <;> (subst h; rfl)
theorem keep_range {w : World} {kb : Nat} {now : Int} {pt : Nat → Option Nat} (h : Has w kb (keepCells now pt) 108) : w.rangeAt kb 1 (ptrs pt) := by
  intro j v hj
  rw [h.cell]
  by_cases hl : j < 21
  · rw [keep_at now pt j hl]
    have : j = 0 ∨ j = 1 ∨ j = 2 ∨ j = 3 ∨ j = 4 ∨ j = 5 ∨ j = 6 ∨ j = 7 ∨ j = 8 ∨ j = 9 ∨ j = 10 ∨ j = 11 ∨ j = 12 ∨ j = 13 ∨ j = 14 ∨ j = 15 ∨ j = 16 ∨ j = 17 ∨ j = 18 ∨ j = 19 ∨ j = 20 := by omega
    rcases this with h | h | h | h | h | h | h | h | h | h | h | h | h | h | h | h | h | h | h | h | h <;> (subst h; exact hj)
  · rw [List.getElem?_eq_none (by simp [ptrs]; omega)] at hj
    exact absurd hj (by simp)

theorem kpass_any {w : World} {ow : Nat → Nat} {kb : Nat} {now : Int} {pt : Nat → Option Nat} {fl : Nat → Option (Pla × List Sea)} (h : KeepX w ow kb now pt fl) (nw : Int) :
    Calls Try.prog 53 #[.pointer (some ⟨kb, 0, none⟩), .agg #[.int .i64 nw]] w fun e w' =>
      e = .returned (.tuple #[]) ∧ KeepX w' ow kb nw pt (fun n => (fl n).map (tickF nw)) ∧ Mod (fun k => ow k ≠ 0) w w' := by
  have hlt := h.has.lt
  have c0 := h.has.cell 0
  rw [show (keepCells now pt)[0]? = some (.int .i64 now) from rfl] at c0
  have fz := h.has.frozen
  have H := hide h
  clear h
  go_enter Try.func53, Try.ntmps53
  go_upto_region 2 with fail
  have k2 : KeepX ((w.setCell ⟨kb, 0, none⟩ (.int .i64 nw)).alloc (.cells #[.int .i64 nw] 126)) ow kb nw pt fl := ((unhide H).later nw).mod ((Mod.refl No _).alloc _) (fun _ _ x => x)
  have m2 : Mod (fun k => ow k ≠ 0) w ((w.setCell ⟨kb, 0, none⟩ (.int .i64 nw)).alloc (.cells #[.int .i64 nw] 126)) := ((Mod.refl _ w).setCell (p := ⟨kb, 0, none⟩) (.inl (by show ow kb ≠ 0; rw [(unhide H).mine]; omega)) _).alloc _
  have b2 : Has ((w.setCell ⟨kb, 0, none⟩ (.int .i64 nw)).alloc (.cells #[.int .i64 nw] 126)) w.heap.size #[.int .i64 nw] 126 := by
    have := Has.new (w.setCell ⟨kb, 0, none⟩ (.int .i64 nw)) #[.int .i64 nw] 126
    rw [World.size_setCell] at this
    exact this
  have n0 := hide (show ow w.heap.size = 0 from by
    by_cases hz : ow w.heap.size = 0
    · exact hz
    · exact absurd ((unhide H).old _ hz) (by omega))
  have hr := keep_range k2.has
  have hlt2 := k2.has.lt
  have K2 := hide k2
  have M2 := hide m2
  have B2 := hide b2
  clear k2 m2 b2 H c0 fz
  generalize (w.setCell ⟨kb, 0, none⟩ (.int .i64 nw)).alloc (.cells #[.int .i64 nw] 126) = w2 at *
  go_wp2_with (refine wpList_load_mid rfl 102 _ rfl kb 1 rfl (ptrs pt) (.array 21 98) hr under90 rfl size90 ?_)
  go_loopw [15] (fun i wr => ∃ k : Nat, i = .int .i64 k ∧ k ≤ 21 ∧ Hid (KeepX wr ow kb nw pt (fun n => if n < k then (fl n).map (tickF nw) else fl n)) ∧ Hid (Mod (fun k => ow k ≠ 0) w wr) ∧ Hid (Has wr w.heap.size #[.int .i64 nw] 126)) (fun i _ => 21 - (intOf i).toNat)
  case atStart => exact ⟨0, rfl, by omega, (unhide K2).congr (fun n _ => by rw [if_neg (by omega)]), M2, B2⟩
  case round =>
    obtain ⟨k, rfl, hk, K3, M3, B3⟩ := hrel
    clear hr K2 M2 B2 hlt2
    by_cases h21 : k < 21
    · have hki : (k : Int) < 21 := by omega
      have hk0 : IntKind.i64.wrap ((k : Int) + 1) = ((k + 1 : Nat) : Int) := by rw [wrap_id _ (by omega) (by omega)]; rfl
      have hix := idx90 pt k h21 wr
      cases hfl : fl k with
      | none =>
        have hp := (unhide K3).gone k h21 (by simp [hfl])
        rw [hp] at hix
        rw [show pv none = .pointer none from rfl] at hix
        have K4 := hide ((unhide K3).congr (fl' := fun n => if n < k + 1 then (fl n).map (tickF nw) else fl n) (fun n hn => by
          by_cases e : n = k
          · subst e; simp [hfl]
          · by_cases e2 : n < k
            · simp only [if_pos e2, if_pos (show n < k + 1 by omega)]
            · simp only [if_neg e2, if_neg (show ¬ n < k + 1 by omega)]))
        clear hfl hp K3
        go_wp2
        exact ⟨⟨k + 1, rfl, by omega, K4, M3, B3⟩, by simp [intOf]; omega⟩
      | some x =>
        obtain ⟨p, l⟩ := x
        obtain ⟨b, hp, hw, hf⟩ := (unhide K3).here k p l h21 (by simp [hfl])
        rw [hp] at hix
        rw [show pv (some b) = .pointer (some ⟨b, 0, none⟩) from rfl] at hix
        have cb := (unhide B3).cell
        have lb := (unhide B3).lt
        have HF := hide (passH_any hf hw nw)
        have HW := hide hw
        have HP := hide hp
        have HFL := hide hfl
        clear hfl hp hw hf
        go_wp2_with fail
        refine (unhide HF).mono ?_
        rintro e w4 ⟨rfl, hf4, hm4⟩
        have K4 := hide (((unhide K3).flight hm4 (unhide HP) (tickP_wf (unhide HW) nw) hf4).congr (fl' := fun n => if n < k + 1 then (fl n).map (tickF nw) else fl n) (fun n hn => by
          by_cases e : n = k
          · subst e; simp [unhide HFL, tickF]
          · by_cases e2 : n < k
            · simp only [if_neg e, if_pos e2, if_pos (show n < k + 1 by omega)]
            · simp only [if_neg e, if_neg e2, if_neg (show ¬ n < k + 1 by omega)]))
        have M4 := hide ((unhide M3).trans (hm4.mono (fun _ _ (h : ow _ = k + 2) => by show ow _ ≠ 0; omega)))
        have B4 := hide (hm4.has (unhide B3) (by rw [unhide n0]; omega))
        clear hf4 hm4 K3 M3 B3 HF cb
        go_wp2
        exact ⟨⟨k + 1, rfl, by omega, K4, M4, B4⟩, by simp [intOf]; omega⟩
    · have hki : ¬ (k : Int) < 21 := by omega
      go_wp2
      go_end0
      exact ⟨rfl, (unhide K3).congr (fun n hn => by rw [if_pos (by omega)]), unhide M3⟩
end Go.Proofs.Ytlcbemcamdafjaa
