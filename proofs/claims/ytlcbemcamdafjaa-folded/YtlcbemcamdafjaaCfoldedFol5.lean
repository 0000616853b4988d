import Derived.Test.YtlcbemcamdafjaaCfoldedTape2Fol4
/- A follower is told what is news: Tell. -/
namespace Go.Proofs.Ytlcbemcamdafjaa
open Go.RowKit
open Go.ChangeMaps (setBlock)
open M
set_option linter.unusedVariables false
set_option linter.unusedSimpArgs false
set_option maxRecDepth 100000
set_option maxHeartbeats 2000000

theorem meq_none (w : World) : (binOp .eql 103 (.map none) (.map none)).run Try.prog w = .ok (.bool true) w := by kernel_rfl
theorem meq_some (m : Nat) (w : World) : (binOp .eql 103 (.map (some m)) (.map none)).run Try.prog w = .ok (.bool false) w := by kernel_rfl
theorem run_makeMapF (w : World) : (Instr.makeMap 103 none).run Try.prog w = .ok (.map (some w.heap.size)) (w.alloc (.map #[] 0)) := by
  simp [Instr.makeMap, newObj, Sem.run]
attribute [local go_sem] meq_none meq_some run_makeMapF

/-- The flight at a place of the keeper, and what is left there. -/
theorem keep_flight {w : World} {ow : Nat → Nat} {kb : Nat} {now : Int} {pt : Nat → Option Nat} {fl : Nat → Option (Pla × List Sea)} (h : KeepX w ow kb now pt fl) (k : Nat) (hk : k < 21) :
    w.cell? ⟨kb, 1 + k, none⟩ = some (pv (pt k)) ∧
      ((pt k = none ∧ fl k = none) ∨ ∃ b x, pt k = some b ∧ fl k = some x ∧ ∀ W, Mod No w W → Calls Try.prog 43 #[.pointer (some ⟨b, 0, none⟩)] W fun e w' => e = .returned (.agg #[.int .i64 (lv x 0), .int .i64 (lv x 1), .int .i64 (lv x 2), .int .i64 (lv x 3)]) ∧ Mod No W w') := by
  refine ⟨by rw [h.has.cell, keep_at now pt k hk], ?_⟩
  cases hf : fl k with
  | none => exact .inl ⟨h.gone k hk hf, rfl⟩
  | some x =>
    obtain ⟨p, l⟩ := x
    obtain ⟨b, h1, h2, h3⟩ := h.here k p l hk hf
    refine .inr ⟨b, (p, l), h1, rfl, fun W hW => ?_⟩
    obtain ⟨m, es, clock, q1, _⟩ := h3.mod0 hW
    exact fleft_walk _ _ _ _ _ _ _ _ _ _ _ _ _ _ _ _ _ _ _ _ _ _ _ _ _ _ _ q1

/-- What a bulletin's making leaves. -/
structure TellX (w : World) (ow om : Nat → Nat) (kb : Nat) (now : Int) (fl : Nat → Option (Pla × List Sea)) (tl : Nat → Option (List FEnt)) (i : Nat) (w' : World) (v : Value) (T : Tel) : Prop where
  keep : KeepH w' ow kb now fl
  fol : ∃ om', FolX w' ow om' kb (fun j => if j = i then some T.es else tl j) ∧ ∀ k, k < w.heap.size → om' k = om k
  mod : Mod (fun j => j = kb ∨ om j ≠ 0) w w'
  row : w'.ownsRow 0 78 3 v T.news.length (T.news.flatMap nwL)
  own : ∀ k, v.ownBlock = some k → w.heap.size ≤ k

theorem tell_end {w wr w' : World} {ow om : Nat → Nat} {kb : Nat} {now : Int} {pt pt' : Nat → Option Nat} {fl : Nat → Option (Pla × List Sea)} {tl : Nat → Option (List FEnt)} {i m : Nat} {fresh : Bool} {T : Tel} {v : Value}
    (h : KeepX w ow kb now pt fl) (hf : FolX w ow om kb tl) (hi : i < 8) (hk : KeepX wr ow kb now pt' fl) (hb : Bull wr (w.heap.size + 1) m fresh T v) (hm : Mod (fun j => w.heap.size + 1 ≤ j ∨ j = m ∨ j = kb) w wr)
    (h9 : Mod (fun j => j = w.heap.size) wr w') (hp : ∀ j, j ≠ 21 + i → pt' j = pt j) (hpm : pt' (21 + i) = some m) (hom : om m = i + 1 ∨ w.heap.size < m) : TellX w ow om kb now fl tl i w' v T := by
  have kl := h.has.lt
  have hmod : Mod (fun j => w.heap.size ≤ j ∨ j = m ∨ j = kb) w w' := (hm.mono (fun k _ x => by rcases x with x | x; exact .inl (by omega); exact .inr x)).trans (h9.mono (fun k _ x => .inl (by omega)))
  have k9 : KeepX w' ow kb now pt' fl := hk.mod h9 (fun k hk e => by have := h.old k hk; omega)
  have hmn : m ≠ w.heap.size := by rcases hom with e | e; have := (hf.old m (by omega)).1; omega; omega
  have mm : w'.heap[m]? = some (folObj T.es T.clock) := mod_fol h9 hb.map (fun e => hmn e)
  refine ⟨⟨pt', k9⟩, ⟨fun k => if k = m then i + 1 else om k, ⟨fun j hj ht => ?_, fun j hj es ht => ?_, fun k hk' => ?_⟩, fun k hk' => ?_⟩, ?_, h9.owns hb.row (fun k hk' e => by have := (hb.own k hk').1; omega), fun k hk' => by have := (hb.own k hk').1; omega⟩
  · by_cases e : j = i
    · rw [if_pos e] at ht; cases ht
    rw [if_neg e] at ht
    have a := hf.un j hj ht
    rw [h.has.cell, keep_far _ _ j hj] at a
    rw [k9.has.cell, keep_far _ _ j hj, hp _ (by omega)]
    exact a
  · by_cases e : j = i
    · rw [if_pos e] at ht
      injection ht with ht
      subst ht
      subst e
      exact ⟨m, T.clock, by rw [k9.has.cell, keep_far _ _ j hj, hpm], if_pos rfl, mm, hb.ok⟩
    rw [if_neg e] at ht
    obtain ⟨m2, clock, a1, a2, a3, a4⟩ := hf.is j hj es ht
    have hlt := (hf.old m2 (by omega)).1
    have hne : m2 ≠ m := by rintro rfl; rcases hom with x | x <;> omega
    refine ⟨m2, clock, ?_, by rw [if_neg hne]; exact a2, mod_fol hmod a3 (fun x => ?_), a4⟩
    · rw [h.has.cell, keep_far _ _ j hj] at a1
      rw [k9.has.cell, keep_far _ _ j hj, hp _ (by omega)]
      exact a1
    · rcases x with x | x | x
      · omega
      · exact hne x
      · exact h.has.fol_ne a3 x
  · by_cases e : k = m
    · subst e
      refine ⟨(Array.getElem?_eq_some_iff.1 mm).1, ?_⟩
      rcases hom with x | x
      · exact (hf.old k (by omega)).2
      · by_cases e0 : ow k = 0
        · exact e0
        · have := h.old k e0; omega
    · rw [if_neg e] at hk'
      exact ⟨Nat.lt_of_lt_of_le (hf.old k hk').1 hmod.size, (hf.old k hk').2⟩
  · show (if k = m then i + 1 else om k) = om k
    by_cases e : k = m
    · subst e
      rw [if_pos rfl]
      rcases hom with x | x
      · exact x.symm
      · omega
    · rw [if_neg e]
  · refine hmod.mono (fun k hk' x => ?_)
    rcases x with x | x | x
    · omega
    · subst x
      rcases hom with x | x
      · exact .inr (by omega)
      · omega
    · exact .inl x

theorem alloc_at (w : World) (o : Obj) : (w.alloc o).heap[w.heap.size]? = some o := by
  show (w.heap.push o)[w.heap.size]? = some o
  exact Array.getElem?_push_size

/-- What there is when a bulletin is begun. -/
structure TellS (w : World) (ow om : Nat → Nat) (kb : Nat) (now : Int) (pt : Nat → Option Nat) (fl : Nat → Option (Pla × List Sea)) (i : Nat) (fresh : Bool) (es : List FEnt) (W : World) (pt' : Nat → Option Nat) (m clock : Nat) : Prop where
  keep : KeepX W ow kb now pt' fl
  bull : Bull W (w.heap.size + 1) m fresh ⟨[], false, es, clock⟩ (.slice none 0 0)
  mod : Mod (fun j => w.heap.size + 1 ≤ j ∨ j = m ∨ j = kb) w W
  res : Has W w.heap.size #[.bool false, .slice none 0 0, .bool false] 74
  pt : ∀ j, j ≠ 21 + i → pt' j = pt j
  ptm : pt' (21 + i) = some m
  om : om m = i + 1 ∨ w.heap.size < m

theorem tellS_new {w : World} {ow om : Nat → Nat} {kb : Nat} {now : Int} {pt : Nat → Option Nat} {fl : Nat → Option (Pla × List Sea)} (h : KeepX w ow kb now pt fl) (i : Nat) (hi : i < 8) :
    TellS w ow om kb now pt fl i true [] ((((w.alloc (.cells #[.bool false, .slice none 0 0, .bool false] 74)).alloc (.cells #[.bool true, .slice none 0 0, .bool false] 74)).alloc (.map #[] 0)).setCell ⟨kb, 22 + i, none⟩ (.map (some (w.heap.size + 1 + 1)))) (updP pt (21 + i) (w.heap.size + 1 + 1)) (w.heap.size + 1 + 1) 0 := by
  have hl := h.has.lt
  have m3 : Mod No w (((w.alloc (.cells #[.bool false, .slice none 0 0, .bool false] 74)).alloc (.cells #[.bool true, .slice none 0 0, .bool false] 74)).alloc (.map #[] 0)) := (((Mod.refl No w).alloc _).alloc _).alloc _
  have r3 : Has (((w.alloc (.cells #[.bool false, .slice none 0 0, .bool false] 74)).alloc (.cells #[.bool true, .slice none 0 0, .bool false] 74)).alloc (.map #[] 0)) w.heap.size #[.bool false, .slice none 0 0, .bool false] 74 := ((Has.new w _ _).alloc _).alloc _
  have b3 : Has (((w.alloc (.cells #[.bool false, .slice none 0 0, .bool false] 74)).alloc (.cells #[.bool true, .slice none 0 0, .bool false] 74)).alloc (.map #[] 0)) (w.heap.size + 1) #[.bool true, .slice none 0 0, .bool false] 74 := by
    have := (Has.new (w.alloc (.cells #[.bool false, .slice none 0 0, .bool false] 74)) #[.bool true, .slice none 0 0, .bool false] 74).alloc (.map #[] 0)
    rw [World.size_alloc] at this
    exact this
  have p3 : (((w.alloc (.cells #[.bool false, .slice none 0 0, .bool false] 74)).alloc (.cells #[.bool true, .slice none 0 0, .bool false] 74)).alloc (.map #[] 0)).heap[w.heap.size + 1 + 1]? = some (folObj [] 0) := by
    have := alloc_at ((w.alloc (.cells #[.bool false, .slice none 0 0, .bool false] 74)).alloc (.cells #[.bool true, .slice none 0 0, .bool false] 74)) (.map #[] 0)
    rw [World.size_alloc, World.size_alloc] at this
    exact this
  have m4 : Mod (fun j => j = kb) (((w.alloc (.cells #[.bool false, .slice none 0 0, .bool false] 74)).alloc (.cells #[.bool true, .slice none 0 0, .bool false] 74)).alloc (.map #[] 0)) ((((w.alloc (.cells #[.bool false, .slice none 0 0, .bool false] 74)).alloc (.cells #[.bool true, .slice none 0 0, .bool false] 74)).alloc (.map #[] 0)).setCell ⟨kb, 22 + i, none⟩ (.map (some (w.heap.size + 1 + 1)))) := (Mod.refl _ _).at (22 + i) _
  refine ⟨(h.mod m3 (fun _ _ x => x)).fol i _ hi, ⟨m4.has b3 (by omega), World.ownsRow_nil _ _ _ _, fun k hk => (by cases hk), mod_fol m4 p3 (by omega), FolOk.nil⟩, (m3.mono (fun _ _ x => x.elim)).trans (m4.mono (fun k _ x => .inr (.inr x))), m4.has r3 (by omega), fun j hj => if_neg hj, if_pos rfl, .inr (by omega)⟩

theorem tellS_old {w : World} {ow om : Nat → Nat} {kb m clock : Nat} {now : Int} {pt : Nat → Option Nat} {fl : Nat → Option (Pla × List Sea)} {es : List FEnt} (h : KeepX w ow kb now pt fl) (i : Nat) (hi : i < 8)
    (hc : w.cell? ⟨kb, 22 + i, none⟩ = some (.map (some m))) (hom : om m = i + 1) (hm : w.heap[m]? = some (folObj es clock)) (hok : FolOk es) :
    TellS w ow om kb now pt fl i false es ((w.alloc (.cells #[.bool false, .slice none 0 0, .bool false] 74)).alloc (.cells #[.bool false, .slice none 0 0, .bool false] 74)) pt m clock := by
  have m2 : Mod No w ((w.alloc (.cells #[.bool false, .slice none 0 0, .bool false] 74)).alloc (.cells #[.bool false, .slice none 0 0, .bool false] 74)) := ((Mod.refl No w).alloc _).alloc _
  have b2 : Has ((w.alloc (.cells #[.bool false, .slice none 0 0, .bool false] 74)).alloc (.cells #[.bool false, .slice none 0 0, .bool false] 74)) (w.heap.size + 1) #[.bool false, .slice none 0 0, .bool false] 74 := by
    have := Has.new (w.alloc (.cells #[.bool false, .slice none 0 0, .bool false] 74)) #[.bool false, .slice none 0 0, .bool false] 74
    rw [World.size_alloc] at this
    exact this
  rw [h.has.cell, keep_far _ _ i hi] at hc
  refine ⟨h.mod m2 (fun _ _ x => x), ⟨b2, World.ownsRow_nil _ _ _ _, fun k hk => (by cases hk), mod_fol m2 hm (fun x => x), hok⟩, m2.mono (fun _ _ x => x.elim), (Has.new w _ _).alloc _, fun _ _ => rfl, by simpa using hc, .inl hom⟩

theorem tellF_walk {w : World} {ow om : Nat → Nat} {kb : Nat} {now : Int} {pt : Nat → Option Nat} {fl : Nat → Option (Pla × List Sea)} {tl : Nat → Option (List FEnt)} (h : KeepX w ow kb now pt fl) (hf : FolX w ow om kb tl) (i : Nat) (hi : i < 8) (most : Int) (hmost : 1 ≤ most ∧ most ≤ 50) :
    Calls Try.prog 47 #[.pointer (some ⟨kb, 22 + i, none⟩), .slice (some ⟨kb, 1, none⟩) 21 21, .int .i64 most] w fun e w' => ∃ v clock,
      e = .returned (.agg #[.bool (tl i).isNone, v, .bool (tells most ⟨[], false, (tl i).getD [], clock⟩ (itemsK fl 21)).more]) ∧ TellX w ow om kb now fl tl i w' v (tells most ⟨[], false, (tl i).getD [], clock⟩ (itemsK fl 21)) := by
  have H := hide h
  have HF := hide hf
  have hl := h.has.lt
  have hz := h.has.frozen
  cases ht : tl i with
  | none =>
    have hc := hf.un i hi ht
    clear h hf
    have W3 := hide (((Mod.refl No w).alloc (.cells #[.bool false, .slice none 0 0, .bool false] 74)).alloc (.cells #[.bool true, .slice none 0 0, .bool false] 74) |>.alloc (.map #[] 0))
    have K3 := (unhide H).mod (unhide W3) (fun _ _ x => x)
    have c3 := K3.has.cell (22 + i)
    have z3 := K3.has.frozen (22 + i)
    have e3 := (unhide H).has.cell (22 + i)
    rw [← e3, hc] at c3
    have hl3 := K3.has.lt
    clear K3 e3
    go_enter Try.func47, Try.ntmps47
    go_wp2_with fail
    have hS := tellS_new (om := om) (unhide H) i hi
    generalize hpt' : updP pt (21 + i) (w.heap.size + 1 + 1) = pt' at hS
    have S0 := hide hS
    clear hS hpt' c3 z3 hl3 hc W3 hz
    go_loopw [24] (fun x wr => ∃ (k : Nat) (v : Value), x = .int .i64 k ∧ k ≤ 21 ∧ Hid (KeepX wr ow kb now pt' fl) ∧ Hid (Bull wr (w.heap.size + 1) (w.heap.size + 1 + 1) true (tells most ⟨[], false, [], 0⟩ (itemsK fl k)) v) ∧
        Hid (Mod (fun j => w.heap.size + 1 ≤ j ∨ j = (w.heap.size + 1 + 1) ∨ j = kb) w wr) ∧ Hid (Has wr w.heap.size #[.bool false, .slice none 0 0, .bool false] 74)) (fun x _ => 21 - (intOf x).toNat)
    case atStart => exact ⟨0, .slice none 0 0, rfl, by omega, (unhide S0).keep, (unhide S0).bull, (unhide S0).mod, (unhide S0).res⟩
    case round =>
      obtain ⟨k, v, rfl, hk, hK, hB, hM, hR⟩ := hrel
      have hb1 := (unhide hB).has
      have bl := hb1.lt
      have rl := (unhide hR).lt
      have hkb : kb < w.heap.size + 1 := by omega
      by_cases h21 : k = 21
      · subst h21
        have hkk : ¬ ((21 : Nat) : Int) < 21 := by omega
        obtain ⟨sa, scp, rfl⟩ := slice_of_owns (unhide hB).row
        have bc := hb1.cell
        have d0 : wr.cell? ⟨w.heap.size, 0, none⟩ = some (.bool false) := (unhide hR).cell 0
        have d1 : wr.cell? ⟨w.heap.size, 1, none⟩ = some (.slice none 0 0) := (unhide hR).cell 1
        have d2 : wr.cell? ⟨w.heap.size, 2, none⟩ = some (.bool false) := (unhide hR).cell 2
        have rf := (unhide hR).frozen
        have S1 := unhide S0
        have E9 := fun W hW => tell_end (w' := W) (unhide H) (unhide HF) hi (unhide hK) (unhide hB) (unhide hM) hW S1.pt S1.ptm S1.om
        have HE9 := hide E9
        clear E9 S1 hb1
        go_wp2
        refine bodyPost_ret (by simp [results, Try.results47, go_sem, d0, d1, d2]; try rfl) rfl ?_
        refine ⟨_, 0, rfl, (unhide HE9) _ ?_⟩
        exact ((Mod.refl _ wr).at 0 _ |>.at 1 _).at 2 _
      have hk1 : (k : Int) < 21 := by omega
      obtain ⟨ck, hcase⟩ := keep_flight (unhide hK) k (by omega)
      have hsucc := itemsK_succ fl k
      rcases hcase with ⟨hp, hfl⟩ | ⟨b, x, hp, hfl, hL⟩
      · rw [hp] at ck
        simp only [pv, Option.map_none] at ck
        have hi0 : itemsF fl k = [] := by unfold itemsF; rw [hfl]
        rw [hi0, List.append_nil] at hsucc
        have HSU := hide hsucc
        clear hsucc hb1
        go_wp2
        go_roundw
        · refine ⟨k + 1, v, by simp, by omega, hK, ?_, hM, hR⟩
          rw [unhide HSU]
          exact hB
        · simp [intOf]; omega
      · rw [hp] at ck
        simp only [pv, Option.map_some] at ck
        have hi0 : itemsF fl k = items k (lv x 0) (lv x 1) (lv x 2) (lv x 3) 4 := by unfold itemsF; rw [hfl]
        rw [hi0] at hsucc
        have HSU := hide hsucc
        have HLE := hide hL
        clear hsucc hb1 hL hi0
        go_wp2_with fail
        refine ((unhide HLE) _ (Mod.refl _ _)).mono ?_
        rintro e w1 ⟨rfl, m1⟩
        have M1 := hide m1
        clear m1
        go_wp2_with fail
        have K1 := hide ((unhide hK).mod (unhide M1) (fun _ _ x => x))
        have C1 : w1.cell? ⟨kb, 22 + i, none⟩ = some (.map (some (w.heap.size + 1 + 1))) := by rw [(unhide K1).has.cell, keep_far _ _ i hi, (unhide S0).ptm]
        refine (tellOf_walk kb (22 + i) (w.heap.size + 1 + 1) k (w.heap.size + 1) (lv x 0) (lv x 1) (lv x 2) (lv x 3) most true _ v w1 (by omega) hmost (tells_len _ _ (by simp; omega)) C1 hkb ((unhide hB).still (unhide M1))).mono ?_
        rintro e w2 ⟨rfl, v2, B2, m2⟩
        have M2 := hide m2
        have BB2 := hide B2
        clear m2 B2
        go_wp2
        go_roundw
        · refine ⟨k + 1, v2, by simp, by omega, hide ((unhide K1).mod (unhide M2) (fun j hj e => ?_)), hide ?_, hide (((unhide hM).trans ((unhide M1).mono (fun _ _ x => x.elim))).trans ((unhide M2).mono (fun j _ x => ?_))), hide ((unhide M2).has ((unhide M1).has (unhide hR) (fun x => x)) ?_)⟩
          · have h1 := (unhide H).old j hj
            have h2 := (unhide S0).om
            rcases e with e | e
            · omega
            · rcases h2 with h2 | h2
              · rw [e] at hj; exact hj ((unhide HF).old _ (by omega)).2
              · omega
          · rw [unhide HSU, tells_append]
            exact unhide BB2
          · rcases x with x | x
            · exact .inl x
            · exact .inr (.inl x)
          · have h2 := (unhide S0).om
            rintro (e | e)
            · omega
            · rcases h2 with h2 | h2
              · have := ((unhide HF).old (w.heap.size + 1 + 1) (by omega)).1; omega
              · omega
        · simp [intOf]; omega
  | some es =>
    obtain ⟨m, clock, hc, hom, hmap, hok⟩ := hf.is i hi es ht
    have S0 := hide (tellS_old h i hi hc hom hmap hok)
    clear h hf
    go_enter Try.func47, Try.ntmps47
    go_wp2_with fail
    clear hc hom hmap hok hz
    go_loopw [24] (fun x wr => ∃ (k : Nat) (v : Value), x = .int .i64 k ∧ k ≤ 21 ∧ Hid (KeepX wr ow kb now pt fl) ∧ Hid (Bull wr (w.heap.size + 1) m false (tells most ⟨[], false, es, clock⟩ (itemsK fl k)) v) ∧
        Hid (Mod (fun j => w.heap.size + 1 ≤ j ∨ j = m ∨ j = kb) w wr) ∧ Hid (Has wr w.heap.size #[.bool false, .slice none 0 0, .bool false] 74)) (fun x _ => 21 - (intOf x).toNat)
    case atStart => exact ⟨0, .slice none 0 0, rfl, by omega, (unhide S0).keep, (unhide S0).bull, (unhide S0).mod, (unhide S0).res⟩
    case round =>
      obtain ⟨k, v, rfl, hk, hK, hB, hM, hR⟩ := hrel
      have hb1 := (unhide hB).has
      have bl := hb1.lt
      have rl := (unhide hR).lt
      have hkb : kb < w.heap.size + 1 := by omega
      by_cases h21 : k = 21
      · subst h21
        have hkk : ¬ ((21 : Nat) : Int) < 21 := by omega
        obtain ⟨sa, scp, rfl⟩ := slice_of_owns (unhide hB).row
        have bc := hb1.cell
        have d0 : wr.cell? ⟨w.heap.size, 0, none⟩ = some (.bool false) := (unhide hR).cell 0
        have d1 : wr.cell? ⟨w.heap.size, 1, none⟩ = some (.slice none 0 0) := (unhide hR).cell 1
        have d2 : wr.cell? ⟨w.heap.size, 2, none⟩ = some (.bool false) := (unhide hR).cell 2
        have rf := (unhide hR).frozen
        have S1 := unhide S0
        have E9 := fun W hW => tell_end (w' := W) (unhide H) (unhide HF) hi (unhide hK) (unhide hB) (unhide hM) hW S1.pt S1.ptm S1.om
        have HE9 := hide E9
        clear E9 S1 hb1
        go_wp2
        refine bodyPost_ret (by simp [results, Try.results47, go_sem, d0, d1, d2]; try rfl) rfl ?_
        refine ⟨_, clock, rfl, (unhide HE9) _ ?_⟩
        exact ((Mod.refl _ wr).at 0 _ |>.at 1 _).at 2 _
      have hk1 : (k : Int) < 21 := by omega
      obtain ⟨ck, hcase⟩ := keep_flight (unhide hK) k (by omega)
      have hsucc := itemsK_succ fl k
      rcases hcase with ⟨hp, hfl⟩ | ⟨b, x, hp, hfl, hL⟩
      · rw [hp] at ck
        simp only [pv, Option.map_none] at ck
        have hi0 : itemsF fl k = [] := by unfold itemsF; rw [hfl]
        rw [hi0, List.append_nil] at hsucc
        have HSU := hide hsucc
        clear hsucc hb1
        go_wp2
        go_roundw
        · refine ⟨k + 1, v, by simp, by omega, hK, ?_, hM, hR⟩
          rw [unhide HSU]
          exact hB
        · simp [intOf]; omega
      · rw [hp] at ck
        simp only [pv, Option.map_some] at ck
        have hi0 : itemsF fl k = items k (lv x 0) (lv x 1) (lv x 2) (lv x 3) 4 := by unfold itemsF; rw [hfl]
        rw [hi0] at hsucc
        have HSU := hide hsucc
        have HLE := hide hL
        clear hsucc hb1 hL hi0
        go_wp2_with fail
        refine ((unhide HLE) _ (Mod.refl _ _)).mono ?_
        rintro e w1 ⟨rfl, m1⟩
        have M1 := hide m1
        clear m1
        go_wp2_with fail
        have K1 := hide ((unhide hK).mod (unhide M1) (fun _ _ x => x))
        have C1 : w1.cell? ⟨kb, 22 + i, none⟩ = some (.map (some m)) := by rw [(unhide K1).has.cell, keep_far _ _ i hi, (unhide S0).ptm]
        refine (tellOf_walk kb (22 + i) m k (w.heap.size + 1) (lv x 0) (lv x 1) (lv x 2) (lv x 3) most false _ v w1 (by omega) hmost (tells_len _ _ (by simp; omega)) C1 hkb ((unhide hB).still (unhide M1))).mono ?_
        rintro e w2 ⟨rfl, v2, B2, m2⟩
        have M2 := hide m2
        have BB2 := hide B2
        clear m2 B2
        go_wp2
        go_roundw
        · refine ⟨k + 1, v2, by simp, by omega, hide ((unhide K1).mod (unhide M2) (fun j hj e => ?_)), hide ?_, hide (((unhide hM).trans ((unhide M1).mono (fun _ _ x => x.elim))).trans ((unhide M2).mono (fun j _ x => ?_))), hide ((unhide M2).has ((unhide M1).has (unhide hR) (fun x => x)) ?_)⟩
          · have h1 := (unhide H).old j hj
            have h2 := (unhide S0).om
            rcases e with e | e
            · omega
            · rcases h2 with h2 | h2
              · rw [e] at hj; exact hj ((unhide HF).old _ (by omega)).2
              · omega
          · rw [unhide HSU, tells_append]
            exact unhide BB2
          · rcases x with x | x
            · exact .inl x
            · exact .inr (.inl x)
          · have h2 := (unhide S0).om
            rintro (e | e)
            · omega
            · rcases h2 with h2 | h2
              · have := ((unhide HF).old m (by omega)).1; omega
              · omega
        · simp [intOf]; omega
end Go.Proofs.Ytlcbemcamdafjaa
