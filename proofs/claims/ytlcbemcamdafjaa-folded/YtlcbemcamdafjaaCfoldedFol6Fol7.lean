import Derived.Test.YtlcbemcamdafjaaCfoldedFol5
import Derived.Test.YtlcbemcamdafjaaCfoldedCellsSwap5
/- A keeper tells a follower what is news: Follow. -/
namespace Go.Proofs.Ytlcbemcamdafjaa
open Go.RowKit
open Go.ChangeMaps (setBlock)
open M
set_option linter.unusedVariables false
set_option linter.unusedSimpArgs false
set_option maxRecDepth 100000
set_option maxHeartbeats 2000000

theorem FolX.mod {w w' : World} {S : Nat → Prop} {ow om : Nat → Nat} {kb : Nat} {tl : Nat → Option (List FEnt)} (h : FolX w ow om kb tl) (hm : Mod S w w') (h1 : ¬ S kb) (h2 : ∀ k, om k ≠ 0 → ¬ S k) : FolX w' ow om kb tl :=
  have hc : ∀ o v, w.cell? ⟨kb, o, none⟩ = some v → w'.cell? ⟨kb, o, none⟩ = some v := fun o v hc => by
    have hlt := World.block_lt_of_cell? w _ hc
    rw [World.cell?_of_block (w := w) (hm.block _ hlt h1)]
    exact hc
  ⟨fun i hi ht => hc _ _ (h.un i hi ht), fun i hi es ht => by
    obtain ⟨m, clock, a1, a2, a3, a4⟩ := h.is i hi es ht
    exact ⟨m, clock, hc _ _ a1, a2, mod_fol hm a3 (h2 m (by omega)), a4⟩, fun k hk => ⟨Nat.lt_of_lt_of_le (h.old k hk).1 hm.size, (h.old k hk).2⟩⟩

theorem TellX.moved {w W w3 w4 : World} {ow om : Nat → Nat} {kb : Nat} {now : Int} {fl : Nat → Option (Pla × List Sea)} {tl : Nat → Option (List FEnt)} {i : Nat} {v : Value} {T : Tel} (h : TellX W ow om kb now fl tl i w3 v T)
    (h0 : FolX w ow om kb tl) (k0 : KeepH w ow kb now fl) (hw : Mod No w W) (hs : w.heap.size < W.heap.size) (h4 : Mod (fun j => j = w.heap.size) w3 w4) : TellX w ow om kb now fl tl i w4 v T := by
  obtain ⟨pt, k0⟩ := k0
  obtain ⟨om', f1, f2⟩ := h.fol
  have kl := k0.has.lt
  refine ⟨h.keep.mod h4 (fun k hk e => by have := k0.old k hk; omega), ⟨om', f1.mod h4 (by omega) (fun k hk e => ?_), fun k hk => f2 k (by omega)⟩, ?_, h4.owns h.row (fun k hk e => by have := h.own k hk; omega), fun k hk => by have := h.own k hk; omega⟩
  · subst e
    rw [f2 _ hs] at hk
    have := h0.old _ hk
    omega
  · exact ((hw.mono (fun _ _ x => x.elim)).trans h.mod).trans' h4 (fun k hk hl => absurd hl (by omega))

/-- A bulletin, as it is told. -/
def bullV (fresh : Bool) (v : Value) (more : Bool) : Value := .agg #[.bool fresh, v, .bool more]

theorem follow_no {w : World} (kb : Nat) (f most x : Int) (hx : (¬ (0 ≤ f ∧ f < 8) ∧ x = 14) ∨ ((0 ≤ f ∧ f < 8) ∧ ¬ (1 ≤ most ∧ most ≤ 50) ∧ x = 12)) :
    Calls Try.prog 26 #[.pointer (some ⟨kb, 0, none⟩), .int .i64 f, .int .i64 most] w fun e w' => e = .returned (.tuple #[bullV false (.slice none 0 0) false, .int .i64 x]) ∧ Mod No w w' := by
  unfold bullV
  rcases hx with ⟨h1, rfl⟩ | ⟨h1, h2, rfl⟩
  · rcases (show f < 0 ∨ (¬ f < 0 ∧ 8 ≤ f) by omega) with h | ⟨h, h'⟩
    all_goals
      go_enter Try.func26, Try.ntmps26
      go_wp2
      refine bodyPost_ret (by simp [results, Try.results26, go_sem]; try rfl) rfl ?_
      exact ⟨rfl, by repeat' (first | with_reducible exact Mod.refl No w | refine Mod.drewN ?_ _ | refine Mod.alloc ?_ _ | refine Mod.setCell ?_ (.inr (Nat.le_refl _)) _)⟩
  · obtain ⟨h3, h4⟩ := h1
    have h5 : ¬ f < 0 := by omega
    have h6 : ¬ 8 ≤ f := by omega
    rcases (show most < 1 ∨ (¬ most < 1 ∧ 50 < most) by omega) with h | ⟨h, h'⟩
    all_goals
      go_enter Try.func26, Try.ntmps26
      go_wp2
      refine bodyPost_ret (by simp [results, Try.results26, go_sem]; try rfl) rfl ?_
      exact ⟨rfl, by repeat' (first | with_reducible exact Mod.refl No w | refine Mod.drewN ?_ _ | refine Mod.alloc ?_ _ | refine Mod.setCell ?_ (.inr (Nat.le_refl _)) _)⟩

theorem follow_any {w : World} {ow om : Nat → Nat} {kb : Nat} {now : Int} {fl : Nat → Option (Pla × List Sea)} {tl : Nat → Option (List FEnt)} (h : KeepH w ow kb now fl) (hf : FolX w ow om kb tl) (i : Nat) (hi : i < 8) (most : Int) (hmost : 1 ≤ most ∧ most ≤ 50) :
    Calls Try.prog 26 #[.pointer (some ⟨kb, 0, none⟩), .int .i64 i, .int .i64 most] w fun e w' => ∃ v clock,
      e = .returned (.tuple #[bullV (tl i).isNone v (tells most ⟨[], false, (tl i).getD [], clock⟩ (itemsK fl 21)).more, .int .i64 0]) ∧ TellX w ow om kb now fl tl i w' v (tells most ⟨[], false, (tl i).getD [], clock⟩ (itemsK fl 21)) := by
  obtain ⟨pt, h⟩ := h
  have HT := hide fun W (hW : Mod No w W) => tellF_walk (h.mod hW (fun _ _ x => x)) (hf.still hW) i hi most hmost
  have H := hide h
  have HF := hide hf
  have hl := h.has.lt
  clear h hf
  have h5 : ¬ (i : Int) < 0 := by omega
  have h6 : ¬ 8 ≤ (i : Int) := by omega
  have h6' : (i : Int) < 8 := by omega
  have h7 : ¬ most < 1 := by omega
  have h8 : ¬ 50 < most := by omega
  go_enter Try.func26, Try.ntmps26
  go_wp2_with fail
  have M0 := hide ((Mod.refl No w).alloc (.cells #[.bool false, .slice none 0 0, .bool false] 74))
  have R0 := hide (Has.new w #[.bool false, .slice none 0 0, .bool false] 74)
  have NR := hide (show ¬ (w.heap.size = kb ∨ om w.heap.size ≠ 0) from by
    rintro (e | e)
    · omega
    · have := ((unhide HF).old _ e).1; omega)
  go_region_with (go_at_call 47; refine ((unhide HT) _ (unhide M0).drew).mono ?_; rintro e w3 ⟨v, clock, rfl, hx⟩; obtain ⟨sa, scp, rfl⟩ := slice_of_owns hx.row; have r3 := hx.mod.has (unhide R0).drew (unhide NR); have c3 := r3.cell; have f3 := r3.frozen; have l3 := r3.lt; have HX := hide hx; clear hx r3)
  have d0 : w3.cell? ⟨w.heap.size, 0, none⟩ = some (.bool false) := c3 0
  have d1 : w3.cell? ⟨w.heap.size, 1, none⟩ = some (.slice none 0 0) := c3 1
  have d2 : w3.cell? ⟨w.heap.size, 2, none⟩ = some (.bool false) := c3 2
  have HMV := hide fun W hW => (unhide HX).moved (w4 := W) (unhide HF) ⟨pt, unhide H⟩ (unhide M0).drew (by simp) hW
  go_wp2
  refine bodyPost_ret (by simp [results, Try.results26, go_sem, d0, d1, d2]; try rfl) rfl ?_
  refine ⟨_, clock, rfl, (unhide HMV) _ ?_⟩
  repeat' (first | with_reducible exact Mod.refl _ w3 | refine Mod.drewN ?_ _ | refine Mod.at ?_ _ _)
end Go.Proofs.Ytlcbemcamdafjaa
/- Tables of numbers in memory; what is told of all classes of all flights. -/
namespace Go.Proofs.Ytlcbemcamdafjaa
open Go.RowKit
open Go.ChangeMaps (setBlock)
open M
set_option linter.unusedVariables false
set_option linter.unusedSimpArgs false
set_option maxRecDepth 100000
set_option maxHeartbeats 2000000

/-- A table of numbers. -/
def tab (f : Nat → Int) (n : Nat) : Array Value := ((List.range n).map fun j => Value.int .i64 (f j)).toArray
theorem tab_size (f : Nat → Int) (n : Nat) : (tab f n).size = n := by simp [tab]
theorem tab_get (f : Nat → Int) (n o : Nat) (ho : o < n) : (tab f n)[o]? = some (.int .i64 (f o)) := by simp [tab, ho]
theorem tab_out (f : Nat → Int) (n o : Nat) (ho : n ≤ o) : (tab f n)[o]? = none := by simp [tab, ho]
theorem tab_set (f : Nat → Int) (n o : Nat) (v : Int) : (tab f n).setIfInBounds o (.int .i64 v) = tab (fun j => if j = o then v else f j) n := by
  apply Array.ext_getElem?
  intro i
  rw [Array.getElem?_setIfInBounds, tab_size]
  by_cases h : i < n
  · rw [tab_get _ _ _ h, tab_get _ _ _ h]
    by_cases e : o = i
    · subst e; simp [h]
    · have e' : ¬ i = o := fun x => e x.symm
      simp [e, e']
  · rw [tab_out _ _ _ (by omega), tab_out _ _ _ (by omega)]
    by_cases e : o = i
    · subst e; simp [h]
    · simp [e]
theorem tab_congr {f g : Nat → Int} {n : Nat} (h : ∀ j, j < n → f j = g j) : tab f n = tab g n := by
  unfold tab
  congr 1
  exact List.map_congr_left fun j hj => by rw [h j (List.mem_range.1 hj)]
theorem tab_one (f : Nat → Int) (n : Nat) : (tab f n).all (·.oneCell') = true := by
  simp [tab, Value.oneCell']

theorem results_box {P : Program} {fn : Func} {a : Tmp} {t : TypeId} (h : fn.results = #[.cell a t]) {tmps : Array Value} {b : Nat} {cells : Array Value} {T : TypeId} {w : World} (ha : tmps[a]? = some (.pointer (some ⟨b, 0, none⟩))) (hb : Has w b cells T)
    (hu : (P.underlying t).map (·.isRow) = some true) (hi : (P.info? t).map (·.size) = some cells.size) : (results fn tmps).run P w = .ok (.agg cells) w := by
  cases hd : P.underlying t with
  | none => rw [hd] at hu; simp at hu
  | some d =>
    rw [hd] at hu
    have hl := run_loadVar_mid (P := P) w b 0 t cells.toList d (hb.range 0 _ (fun j v hv => by rw [Nat.zero_add]; simpa using hv)) hd (by simpa using hu) (by simpa using hi)
    rw [show cells.toList.toArray = cells from by simp] at hl
    simp [results, h, ha, asAddr, hl]

def leftT (fl : Nat → Option (Pla × List Sea)) (j : Nat) : Int := if (leftK fl (j / 4 : Nat) (j % 4 : Nat)).2 = 0 then (leftK fl (j / 4 : Nat) (j % 4 : Nat)).1 else -1
theorem sizeLT : (Try.prog.info? 69).map (·.size) = some 84 := by kernel_rfl
theorem rowLT : (Try.prog.underlying 69).map (·.isRow) = some true := by kernel_rfl
theorem zeroLT : Try.zeroCells69 = tab (fun _ => 0) 84 := by kernel_rfl

theorem leftT_walk {w : World} {ow : Nat → Nat} {kb : Nat} {now : Int} {fl : Nat → Option (Pla × List Sea)} (h : KeepH w ow kb now fl) :
    Calls Try.prog 27 #[.pointer (some ⟨kb, 0, none⟩)] w fun e w' => e = .returned (.agg (tab (leftT fl) 84)) ∧ Mod No w w' := by
  have HL := hide fun W (hW : Mod No w W) (n c : Int) => left_any (h.mod hW (fun _ _ x => x)) n c
  clear h
  go_enter Try.func27, Try.ntmps27
  go_wp2_with fail
  go_loopw [4] (fun x wr => ∃ n : Nat, x = .int .i64 n ∧ n ≤ 21 ∧ Hid (Mod No w wr) ∧ Hid (Has wr w.heap.size (tab (fun _ => 0) 84) 69) ∧ Hid (Has wr (w.heap.size + 1) (tab (fun j => if j < 4 * n then leftT fl j else 0) 84) 69)) (fun x _ => 21 - (intOf x).toNat)
  case atStart =>
    rw [zeroLT]
    refine ⟨0, rfl, by omega, ((Mod.refl No w).alloc _).alloc _, (Has.new w _ _).alloc _, hide ?_⟩
    have := Has.new (w.alloc (.cells (tab (fun _ => 0) 84) 69)) (tab (fun _ => 0) 84) 69
    rw [World.size_alloc] at this
    rw [tab_congr (f := fun j => if j < 4 * 0 then leftT fl j else 0) (g := fun _ => 0) (fun j _ => if_neg (by omega))]
    exact this
  case round =>
    obtain ⟨n, rfl, hn, hm, h0, h1⟩ := hrel
    by_cases h21 : n = 21
    · subst h21
      have hcond : ¬ ((21 : Nat) : Int) ≤ 20 := by omega
      have e9 : tab (fun j => if j < 4 * 21 then leftT fl j else 0) 84 = tab (leftT fl) 84 := tab_congr (fun j hj => if_pos (by omega))
      rw [e9] at h1
      go_upto_region 12 with fail
      refine wp_region_list ?_
      refine (wpList_load_has rfl 69 _ rfl (w.heap.size + 1) 0 rfl (tab (leftT fl) 84) 69 (unhide h1) (tab (leftT fl) 84) (fun j v h => by rw [Nat.zero_add]; simpa using h) rowLT (by rw [tab_size]; exact sizeLT) ?_)
      refine (wpList_store_has rfl 69 _ _ rfl (w.heap.size) (tab (leftT fl) 84) rfl rfl (tab (fun _ => 0) 84) 69 (unhide h0) (by rw [tab_size, tab_size]) (by rw [tab_size]; exact sizeLT) (tab_one _ _) ?_)
      intro w5 h5 m5
      have H5 := hide h5
      have M5 := hide ((unhide hm).trans' (S := No) m5 (fun i e hl => by subst e; omega))
      clear m5 h5 h0 h1 hm
      go_wp2
      refine bodyPost_ret (results_box Try.results27 rfl (unhide H5) rowLT (by rw [tab_size]; exact sizeLT)) rfl ?_
      exact ⟨rfl, unhide M5⟩
    have hcond : (n : Int) ≤ 20 := by omega
    go_wp2_with fail
    go_loopw [5, 6, 7] (fun y _ _ wx => ∃ c : Nat, y = .int .i64 c ∧ c ≤ 4 ∧ Hid (Mod No w wx) ∧ Hid (Has wx w.heap.size (tab (fun _ => 0) 84) 69) ∧ Hid (Has wx (w.heap.size + 1) (tab (fun j => if j < 4 * n + c then leftT fl j else 0) 84) 69)) (fun y _ _ _ => 4 - (intOf y).toNat)
    case atStart => exact ⟨0, rfl, by omega, hm, h0, h1⟩
    case round =>
      obtain ⟨c, rfl, hc, hm2, h02, h12⟩ := hrel
      by_cases h4 : c = 4
      · subst h4
        have hcond2 : ¬ ((4 : Nat) : Int) < 4 := by omega
        go_wp2
        exact ⟨⟨n + 1, by simp, by omega, hm2, h02, by rw [show 4 * (n + 1) = 4 * n + 4 by omega]; exact h12⟩, by simp [intOf]; omega⟩
      have hcond2 : (c : Int) < 4 := by omega
      go_wp2_with fail
      refine ((unhide HL) _ (unhide hm2) n c).mono ?_
      rintro e w3 ⟨rfl, m3⟩
      have H12 := m3.has (unhide h12) (fun x => x)
      have H02 := hide (m3.has (unhide h02) (fun x => x))
      have M3 := hide ((unhide hm2).trans m3)
      have EL : leftT fl (n * 4 + c) = if (leftK fl n c).2 = 0 then (leftK fl n c).1 else -1 := by
        unfold leftT
        rw [show (n * 4 + c) / 4 = n by omega, show (n * 4 + c) % 4 = c by omega]
      have cx : w3.cell? ⟨w.heap.size + 1, n * 4 + c, none⟩ = some (.int .i64 (if n * 4 + c < 4 * n + c then leftT fl (n * 4 + c) else 0)) := by rw [H12.cell]; exact tab_get _ _ _ (by omega)
      have f12 := H12.frozen
      have l12 := H12.lt
      have FIN := hide (fun v (hv : v = leftT fl (n * 4 + c)) => (show Has (w3.setCell ⟨w.heap.size + 1, n * 4 + c, none⟩ (.int .i64 v)) (w.heap.size + 1) (tab (fun j => if j < 4 * n + (c + 1) then leftT fl j else 0) 84) 69 from by
        have h := H12.set (n * 4 + c) (.int .i64 v)
        rw [tab_set] at h
        rw [tab_congr (f := fun j => if j < 4 * n + (c + 1) then leftT fl j else 0) (g := fun j => if j = n * 4 + c then v else if j < 4 * n + c then leftT fl j else 0)]
        · exact h
        · intro j hj
          by_cases e : j = n * 4 + c
          · rw [if_pos e, if_pos (by omega), e, hv]
          · rw [if_neg e]
            by_cases e2 : j < 4 * n + c
            · rw [if_pos e2, if_pos (by omega)]
            · rw [if_neg e2, if_neg (by omega)]))
      have FIN2 := hide (fun v1 v (hv : v = leftT fl (n * 4 + c)) => (show Has ((w3.setCell ⟨w.heap.size + 1, n * 4 + c, none⟩ (.int .i64 v1)).setCell ⟨w.heap.size + 1, n * 4 + c, none⟩ (.int .i64 v)) (w.heap.size + 1) (tab (fun j => if j < 4 * n + (c + 1) then leftT fl j else 0) 84) 69 from by
        have h := (H12.set (n * 4 + c) (.int .i64 v1)).set (n * 4 + c) (.int .i64 v)
        rw [tab_set, tab_set] at h
        rw [tab_congr (f := fun j => if j < 4 * n + (c + 1) then leftT fl j else 0) (g := fun j => if j = n * 4 + c then v else if j = n * 4 + c then v1 else if j < 4 * n + c then leftT fl j else 0)]
        · exact h
        · intro j hj
          by_cases e : j = n * 4 + c
          · rw [if_pos e, if_pos (by omega), e, hv]
          · rw [if_neg e, if_neg e]
            by_cases e2 : j < 4 * n + c
            · rw [if_pos e2, if_pos (by omega)]
            · rw [if_neg e2, if_neg (by omega)]))
      have HH12 := hide H12
      clear m3 h12 h02 hm2 H12
      generalize leftT fl (n * 4 + c) = lt at *
      generalize (if n * 4 + c < 4 * n + c then lt else 0) = old at *
      generalize (leftK fl n c).1 = vl at *
      generalize (leftK fl n c).2 = er at *
      have hEL := hide EL
      clear EL
      by_cases her : er = 0
      · have her' : (er != 0) = false := by simp [her]
        go_wp2
        exact ⟨⟨c + 1, by simp, by omega, (unhide M3).setCell (.inr (Nat.le_succ _)) _, (unhide H02).set_ne (by simp) _, (unhide FIN) _ (by rw [unhide hEL, if_pos her])⟩, by simp [intOf]; omega⟩
      · have her' : (er != 0) = true := by simp [her]
        go_wp2
        refine ⟨⟨c + 1, by simp, by omega, ((unhide M3).setCell (.inr (Nat.le_succ _)) _).setCell (.inr (Nat.le_succ _)) _, ((unhide H02).set_ne (by simp) _).set_ne (by simp) _, ?_⟩, by simp [intOf]; omega⟩
        exact (unhide FIN2) _ _ (by rw [unhide hEL, if_neg her])
end Go.Proofs.Ytlcbemcamdafjaa
