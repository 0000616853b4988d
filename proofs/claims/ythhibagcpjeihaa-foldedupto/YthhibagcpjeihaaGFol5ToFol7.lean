import Derived.Test.YthhibagcpjeihaaGFMapToFol4
import Derived.Test.YthhibagcpjeihaaGModelToMaps
/- A follower is told what is news: Tell. -/
namespace Go.Proofs.Ythhibagcpjeihaa
open Go.RowKit
open Go.ChangeMaps (setBlock)
open M
set_option linter.unusedVariables false
set_option linter.unusedSimpArgs false
set_option maxRecDepth 100000
set_option maxHeartbeats 2000000

theorem meq_none (w : World) : (binOp .eql 110 (.map none) (.map none)).run Try.prog w = .ok (.bool true) w := by kernel_rfl
theorem meq_some (m : Nat) (w : World) : (binOp .eql 110 (.map (some m)) (.map none)).run Try.prog w = .ok (.bool false) w := by kernel_rfl
theorem run_makeMapF (w : World) : (Instr.makeMap 110 none).run Try.prog w = .ok (.map (some w.heap.size)) (w.alloc (.map #[] 0)) := by
  simp [Instr.makeMap, newObj, Sem.run]
attribute [local go_sem] meq_none meq_some run_makeMapF

/-- The flight at a place of the keeper, and what is left there. -/
theorem keep_flight {w : World} {ow : Nat → Nat} {kb : Nat} {now : Int} {pt : Nat → Option Nat} {fl : Nat → Option (Pla × List Sea)} (h : KeepX w ow kb now pt fl) (k : Nat) (hk : k < 21) :
    w.cell? ⟨kb, 1 + k, none⟩ = some (pv (pt k)) ∧
      ((pt k = none ∧ fl k = none) ∨ ∃ b x, pt k = some b ∧ fl k = some x ∧ ∀ W, Mod No w W → Calls Try.prog 47 #[.pointer (some ⟨b, 0, none⟩)] W fun e w' => e = .returned (.agg #[.int .i64 (lv x 0), .int .i64 (lv x 1), .int .i64 (lv x 2), .int .i64 (lv x 3)]) ∧ Mod No W w') := by
  refine ⟨by rw [h.has.cell, keep_at now pt k hk], ?_⟩
  cases hf : fl k with
  | none => exact .inl ⟨h.gone k hk hf, rfl⟩
  | some x =>
    obtain ⟨p, l⟩ := x
    obtain ⟨b, h1, h2, h3⟩ := h.here k p l hk hf
    refine .inr ⟨b, (p, l), h1, rfl, fun W hW => ?_⟩
    obtain ⟨m, es, clock, q1, _⟩ := h3.mod0 hW
    exact fleft_walk _ _ _ _ _ _ _ _ _ _ _ _ _ _ _ _ _ _ _ _ _ _ _ _ _ _ _ q1

/-- What a bulletin's making leaves. -/
structure TellX (w : World) (ow om : Nat → Nat) (kb : Nat) (now : Int) (pt : Nat → Option Nat) (fl : Nat → Option (Pla × List Sea)) (tl : Nat → Option (List FEnt)) (i : Nat) (w' : World) (v : Value) (T : Tel) : Prop where
  keep : ∃ pt', KeepX w' ow kb now pt' fl ∧ ∀ j, 29 ≤ j → pt' j = pt j
  fol : ∃ om', FolX w' ow om' kb (fun j => if j = i then some T.es else tl j) ∧ ∀ k, k < w.heap.size → om' k = om k
  mod : Mod (fun j => j = kb ∨ om j ≠ 0) w w'
  row : w'.ownsRow 0 78 3 v T.news.length (T.news.flatMap nwL)
  own : ∀ k, v.ownBlock = some k → w.heap.size ≤ k

theorem tell_end {w wr w' : World} {ow om : Nat → Nat} {kb : Nat} {now : Int} {pt pt' : Nat → Option Nat} {fl : Nat → Option (Pla × List Sea)} {tl : Nat → Option (List FEnt)} {i m : Nat} {fresh : Bool} {T : Tel} {v : Value}
    (h : KeepX w ow kb now pt fl) (hf : FolX w ow om kb tl) (hi : i < 8) (hk : KeepX wr ow kb now pt' fl) (hb : Bull wr (w.heap.size + 1) m fresh T v) (hm : Mod (fun j => w.heap.size + 1 ≤ j ∨ j = m ∨ j = kb) w wr)
    (h9 : Mod (fun j => j = w.heap.size) wr w') (hp : ∀ j, j ≠ 21 + i → pt' j = pt j) (hpm : pt' (21 + i) = some m) (hom : om m = i + 1 ∨ w.heap.size < m) : TellX w ow om kb now pt fl tl i w' v T := by
  have kl := h.has.lt
  have hmod : Mod (fun j => w.heap.size ≤ j ∨ j = m ∨ j = kb) w w' := (hm.mono (fun k _ x => by rcases x with x | x; exact .inl (by omega); exact .inr x)).trans (h9.mono (fun k _ x => .inl (by omega)))
  have k9 : KeepX w' ow kb now pt' fl := hk.mod h9 (fun k hk e => by have := h.old k hk; omega)
  have hmn : m ≠ w.heap.size := by rcases hom with e | e; have := (hf.old m (by omega)).1; omega; omega
  have mm : w'.heap[m]? = some (folObj T.es T.clock) := mod_fol h9 hb.map (fun e => hmn e)
  refine ⟨⟨pt', k9, fun j hj => hp j (by omega)⟩, ⟨fun k => if k = m then i + 1 else om k, ⟨fun j hj ht => ?_, fun j hj es ht => ?_, fun k hk' => ?_⟩, fun k hk' => ?_⟩, ?_, h9.owns hb.row (fun k hk' e => by have := (hb.own k hk').1; omega), fun k hk' => by have := (hb.own k hk').1; omega⟩
  · by_cases e : j = i
    · rw [if_pos e] at ht; cases ht
    rw [if_neg e] at ht
    have a := hf.un j hj ht
    rw [h.has.cell, keep_far _ _ j hj] at a
    rw [k9.has.cell, keep_far _ _ j hj, hp _ (by omega)]
    exact a
  · by_cases e : j = i
    · rw [if_pos e] at ht
      injection ht with ht
      subst ht
      subst e
      exact ⟨m, T.clock, by rw [k9.has.cell, keep_far _ _ j hj, hpm], if_pos rfl, mm, hb.ok⟩
    rw [if_neg e] at ht
    obtain ⟨m2, clock, a1, a2, a3, a4⟩ := hf.is j hj es ht
    have hlt := (hf.old m2 (by omega)).1
    have hne : m2 ≠ m := by rintro rfl; rcases hom with x | x <;> omega
    refine ⟨m2, clock, ?_, by rw [if_neg hne]; exact a2, mod_fol hmod a3 (fun x => ?_), a4⟩
    · rw [h.has.cell, keep_far _ _ j hj] at a1
      rw [k9.has.cell, keep_far _ _ j hj, hp _ (by omega)]
      exact a1
    · rcases x with x | x | x
      · omega
      · exact hne x
      · exact h.has.fol_ne a3 x
  · by_cases e : k = m
    · subst e
      refine ⟨(Array.getElem?_eq_some_iff.1 mm).1, ?_⟩
      rcases hom with x | x
      · exact (hf.old k (by omega)).2
      · by_cases e0 : ow k = 0
        · exact e0
        · have := h.old k e0; omega
    · rw [if_neg e] at hk'
      exact ⟨Nat.lt_of_lt_of_le (hf.old k hk').1 hmod.size, (hf.old k hk').2⟩
  · show (if k = m then i + 1 else om k) = om k
    by_cases e : k = m
    · subst e
      rw [if_pos rfl]
      rcases hom with x | x
      · exact x.symm
      · omega
    · rw [if_neg e]
  · refine hmod.mono (fun k hk' x => ?_)
    rcases x with x | x | x
    · omega
    · subst x
      rcases hom with x | x
      · exact .inr (by omega)
      · omega
    · exact .inl x

theorem alloc_at (w : World) (o : Obj) : (w.alloc o).heap[w.heap.size]? = some o := by
  show (w.heap.push o)[w.heap.size]? = some o
  exact Array.getElem?_push_size

/-- What there is when a bulletin is begun. -/
structure TellS (w : World) (ow om : Nat → Nat) (kb : Nat) (now : Int) (pt : Nat → Option Nat) (fl : Nat → Option (Pla × List Sea)) (i : Nat) (fresh : Bool) (es : List FEnt) (W : World) (pt' : Nat → Option Nat) (m clock : Nat) : Prop where
  keep : KeepX W ow kb now pt' fl
  bull : Bull W (w.heap.size + 1) m fresh ⟨[], false, es, clock⟩ (.slice none 0 0)
  mod : Mod (fun j => w.heap.size + 1 ≤ j ∨ j = m ∨ j = kb) w W
  res : Has W w.heap.size #[.bool false, .slice none 0 0, .bool false] 74
  pt : ∀ j, j ≠ 21 + i → pt' j = pt j
  ptm : pt' (21 + i) = some m
  om : om m = i + 1 ∨ w.heap.size < m

theorem tellS_new {w : World} {ow om : Nat → Nat} {kb : Nat} {now : Int} {pt : Nat → Option Nat} {fl : Nat → Option (Pla × List Sea)} (h : KeepX w ow kb now pt fl) (i : Nat) (hi : i < 8) :
    TellS w ow om kb now pt fl i true [] ((((w.alloc (.cells #[.bool false, .slice none 0 0, .bool false] 74)).alloc (.cells #[.bool true, .slice none 0 0, .bool false] 74)).alloc (.map #[] 0)).setCell ⟨kb, 22 + i, none⟩ (.map (some (w.heap.size + 1 + 1)))) (updP pt (21 + i) (w.heap.size + 1 + 1)) (w.heap.size + 1 + 1) 0 := by
  have hl := h.has.lt
  have m3 : Mod No w (((w.alloc (.cells #[.bool false, .slice none 0 0, .bool false] 74)).alloc (.cells #[.bool true, .slice none 0 0, .bool false] 74)).alloc (.map #[] 0)) := (((Mod.refl No w).alloc _).alloc _).alloc _
  have r3 : Has (((w.alloc (.cells #[.bool false, .slice none 0 0, .bool false] 74)).alloc (.cells #[.bool true, .slice none 0 0, .bool false] 74)).alloc (.map #[] 0)) w.heap.size #[.bool false, .slice none 0 0, .bool false] 74 := ((Has.new w _ _).alloc _).alloc _
  have b3 : Has (((w.alloc (.cells #[.bool false, .slice none 0 0, .bool false] 74)).alloc (.cells #[.bool true, .slice none 0 0, .bool false] 74)).alloc (.map #[] 0)) (w.heap.size + 1) #[.bool true, .slice none 0 0, .bool false] 74 := by
    have := (Has.new (w.alloc (.cells #[.bool false, .slice none 0 0, .bool false] 74)) #[.bool true, .slice none 0 0, .bool false] 74).alloc (.map #[] 0)
    rw [World.size_alloc] at this
    exact this
  have p3 : (((w.alloc (.cells #[.bool false, .slice none 0 0, .bool false] 74)).alloc (.cells #[.bool true, .slice none 0 0, .bool false] 74)).alloc (.map #[] 0)).heap[w.heap.size + 1 + 1]? = some (folObj [] 0) := by
    have := alloc_at ((w.alloc (.cells #[.bool false, .slice none 0 0, .bool false] 74)).alloc (.cells #[.bool true, .slice none 0 0, .bool false] 74)) (.map #[] 0)
    rw [World.size_alloc, World.size_alloc] at this
    exact this
  have m4 : Mod (fun j => j = kb) (((w.alloc (.cells #[.bool false, .slice none 0 0, .bool false] 74)).alloc (.cells #[.bool true, .slice none 0 0, .bool false] 74)).alloc (.map #[] 0)) ((((w.alloc (.cells #[.bool false, .slice none 0 0, .bool false] 74)).alloc (.cells #[.bool true, .slice none 0 0, .bool false] 74)).alloc (.map #[] 0)).setCell ⟨kb, 22 + i, none⟩ (.map (some (w.heap.size + 1 + 1)))) := (Mod.refl _ _).at (22 + i) _
  refine ⟨(h.mod m3 (fun _ _ x => x)).fol i _ hi, ⟨m4.has b3 (by omega), World.ownsRow_nil _ _ _ _, fun k hk => (by cases hk), mod_fol m4 p3 (by omega), FolOk.nil⟩, (m3.mono (fun _ _ x => x.elim)).trans (m4.mono (fun k _ x => .inr (.inr x))), m4.has r3 (by omega), fun j hj => if_neg hj, if_pos rfl, .inr (by omega)⟩

theorem tellS_old {w : World} {ow om : Nat → Nat} {kb m clock : Nat} {now : Int} {pt : Nat → Option Nat} {fl : Nat → Option (Pla × List Sea)} {es : List FEnt} (h : KeepX w ow kb now pt fl) (i : Nat) (hi : i < 8)
    (hc : w.cell? ⟨kb, 22 + i, none⟩ = some (.map (some m))) (hom : om m = i + 1) (hm : w.heap[m]? = some (folObj es clock)) (hok : FolOk es) :
    TellS w ow om kb now pt fl i false es ((w.alloc (.cells #[.bool false, .slice none 0 0, .bool false] 74)).alloc (.cells #[.bool false, .slice none 0 0, .bool false] 74)) pt m clock := by
  have m2 : Mod No w ((w.alloc (.cells #[.bool false, .slice none 0 0, .bool false] 74)).alloc (.cells #[.bool false, .slice none 0 0, .bool false] 74)) := ((Mod.refl No w).alloc _).alloc _
  have b2 : Has ((w.alloc (.cells #[.bool false, .slice none 0 0, .bool false] 74)).alloc (.cells #[.bool false, .slice none 0 0, .bool false] 74)) (w.heap.size + 1) #[.bool false, .slice none 0 0, .bool false] 74 := by
    have := Has.new (w.alloc (.cells #[.bool false, .slice none 0 0, .bool false] 74)) #[.bool false, .slice none 0 0, .bool false] 74
    rw [World.size_alloc] at this
    exact this
  rw [h.has.cell, keep_far _ _ i hi] at hc
  refine ⟨h.mod m2 (fun _ _ x => x), ⟨b2, World.ownsRow_nil _ _ _ _, fun k hk => (by cases hk), mod_fol m2 hm (fun x => x), hok⟩, m2.mono (fun _ _ x => x.elim), (Has.new w _ _).alloc _, fun _ _ => rfl, by simpa using hc, .inl hom⟩

theorem tellF_walk {w : World} {ow om : Nat → Nat} {kb : Nat} {now : Int} {pt : Nat → Option Nat} {fl : Nat → Option (Pla × List Sea)} {tl : Nat → Option (List FEnt)} (h : KeepX w ow kb now pt fl) (hf : FolX w ow om kb tl) (i : Nat) (hi : i < 8) (most : Int) (hmost : 1 ≤ most ∧ most ≤ 50) :
    Calls Try.prog 52 #[.pointer (some ⟨kb, 22 + i, none⟩), .slice (some ⟨kb, 1, none⟩) 21 21, .int .i64 most] w fun e w' => ∃ v clock,
      e = .returned (.agg #[.bool (tl i).isNone, v, .bool (tells most ⟨[], false, (tl i).getD [], clock⟩ (itemsK fl 21)).more]) ∧ TellX w ow om kb now pt fl tl i w' v (tells most ⟨[], false, (tl i).getD [], clock⟩ (itemsK fl 21)) := by
  have H := hide h
  have HF := hide hf
  have hl := h.has.lt
  have hz := h.has.frozen
  cases ht : tl i with
  | none =>
    have hc := hf.un i hi ht
    clear h hf
    have W3 := hide (((Mod.refl No w).alloc (.cells #[.bool false, .slice none 0 0, .bool false] 74)).alloc (.cells #[.bool true, .slice none 0 0, .bool false] 74) |>.alloc (.map #[] 0))
    have K3 := (unhide H).mod (unhide W3) (fun _ _ x => x)
    have c3 := K3.has.cell (22 + i)
    have z3 := K3.has.frozen (22 + i)
    have e3 := (unhide H).has.cell (22 + i)
    rw [← e3, hc] at c3
    have hl3 := K3.has.lt
    clear K3 e3
    go_enter Try.func52, Try.ntmps52
    go_wp2_with fail
    have hS := tellS_new (om := om) (unhide H) i hi
    generalize hpt' : updP pt (21 + i) (w.heap.size + 1 + 1) = pt' at hS
    have S0 := hide hS
    clear hS hpt' c3 z3 hl3 hc W3 hz
    go_loopw [24] (fun x wr => ∃ (k : Nat) (v : Value), x = .int .i64 k ∧ k ≤ 21 ∧ Hid (KeepX wr ow kb now pt' fl) ∧ Hid (Bull wr (w.heap.size + 1) (w.heap.size + 1 + 1) true (tells most ⟨[], false, [], 0⟩ (itemsK fl k)) v) ∧
        Hid (Mod (fun j => w.heap.size + 1 ≤ j ∨ j = (w.heap.size + 1 + 1) ∨ j = kb) w wr) ∧ Hid (Has wr w.heap.size #[.bool false, .slice none 0 0, .bool false] 74)) (fun x _ => 21 - (intOf x).toNat)
    case atStart => exact ⟨0, .slice none 0 0, rfl, by omega, (unhide S0).keep, (unhide S0).bull, (unhide S0).mod, (unhide S0).res⟩
    case round =>
      obtain ⟨k, v, rfl, hk, hK, hB, hM, hR⟩ := hrel
      have hb1 := (unhide hB).has
      have bl := hb1.lt
      have rl := (unhide hR).lt
      have hkb : kb < w.heap.size + 1 := by omega
      by_cases h21 : k = 21
      · subst h21
        have hkk : ¬ ((21 : Nat) : Int) < 21 := by omega
        obtain ⟨sa, scp, rfl⟩ := slice_of_owns (unhide hB).row
        have bc := hb1.cell
        have d0 : wr.cell? ⟨w.heap.size, 0, none⟩ = some (.bool false) := (unhide hR).cell 0
        have d1 : wr.cell? ⟨w.heap.size, 1, none⟩ = some (.slice none 0 0) := (unhide hR).cell 1
        have d2 : wr.cell? ⟨w.heap.size, 2, none⟩ = some (.bool false) := (unhide hR).cell 2
        have rf := (unhide hR).frozen
        have S1 := unhide S0
        have E9 := fun W hW => tell_end (w' := W) (unhide H) (unhide HF) hi (unhide hK) (unhide hB) (unhide hM) hW S1.pt S1.ptm S1.om
        have HE9 := hide E9
        clear E9 S1 hb1
        go_wp2
        refine bodyPost_ret (by simp [results, Try.results52, go_sem, d0, d1, d2]; try rfl) rfl ?_
        refine ⟨_, 0, rfl, (unhide HE9) _ ?_⟩
        exact ((Mod.refl _ wr).at 0 _ |>.at 1 _).at 2 _
      have hk1 : (k : Int) < 21 := by omega
      obtain ⟨ck, hcase⟩ := keep_flight (unhide hK) k (by omega)
      have hsucc := itemsK_succ fl k
      rcases hcase with ⟨hp, hfl⟩ | ⟨b, x, hp, hfl, hL⟩
      · rw [hp] at ck
        simp only [pv, Option.map_none] at ck
        have hi0 : itemsF fl k = [] := by unfold itemsF; rw [hfl]
        rw [hi0, List.append_nil] at hsucc
        have HSU := hide hsucc
        clear hsucc hb1
        go_wp2
        go_roundw
        · refine ⟨k + 1, v, by simp, by omega, hK, ?_, hM, hR⟩
          rw [unhide HSU]
          exact hB
        · simp [intOf]; omega
      · rw [hp] at ck
        simp only [pv, Option.map_some] at ck
        have hi0 : itemsF fl k = items k (lv x 0) (lv x 1) (lv x 2) (lv x 3) 4 := by unfold itemsF; rw [hfl]
        rw [hi0] at hsucc
        have HSU := hide hsucc
        have HLE := hide hL
        clear hsucc hb1 hL hi0
        go_wp2_with fail
        refine ((unhide HLE) _ (Mod.refl _ _)).mono ?_
        rintro e w1 ⟨rfl, m1⟩
        have M1 := hide m1
        clear m1
        go_wp2_with fail
        have K1 := hide ((unhide hK).mod (unhide M1) (fun _ _ x => x))
        have C1 : w1.cell? ⟨kb, 22 + i, none⟩ = some (.map (some (w.heap.size + 1 + 1))) := by rw [(unhide K1).has.cell, keep_far _ _ i hi, (unhide S0).ptm]
        refine (tellOf_walk kb (22 + i) (w.heap.size + 1 + 1) k (w.heap.size + 1) (lv x 0) (lv x 1) (lv x 2) (lv x 3) most true _ v w1 (by omega) hmost (tells_len _ _ (by simp; omega)) C1 hkb ((unhide hB).still (unhide M1))).mono ?_
        rintro e w2 ⟨rfl, v2, B2, m2⟩
        have M2 := hide m2
        have BB2 := hide B2
        clear m2 B2
        go_wp2
        go_roundw
        · refine ⟨k + 1, v2, by simp, by omega, hide ((unhide K1).mod (unhide M2) (fun j hj e => ?_)), hide ?_, hide (((unhide hM).trans ((unhide M1).mono (fun _ _ x => x.elim))).trans ((unhide M2).mono (fun j _ x => ?_))), hide ((unhide M2).has ((unhide M1).has (unhide hR) (fun x => x)) ?_)⟩
          · have h1 := (unhide H).old j hj
            have h2 := (unhide S0).om
            rcases e with e | e
            · omega
            · rcases h2 with h2 | h2
              · rw [e] at hj; exact hj ((unhide HF).old _ (by omega)).2
              · omega
          · rw [unhide HSU, tells_append]
            exact unhide BB2
          · rcases x with x | x
            · exact .inl x
            · exact .inr (.inl x)
          · have h2 := (unhide S0).om
            rintro (e | e)
            · omega
            · rcases h2 with h2 | h2
              · have := ((unhide HF).old (w.heap.size + 1 + 1) (by omega)).1; omega
              · omega
        · simp [intOf]; omega
  | some es =>
    obtain ⟨m, clock, hc, hom, hmap, hok⟩ := hf.is i hi es ht
    have S0 := hide (tellS_old h i hi hc hom hmap hok)
    clear h hf
    go_enter Try.func52, Try.ntmps52
    go_wp2_with fail
    clear hc hom hmap hok hz
    go_loopw [24] (fun x wr => ∃ (k : Nat) (v : Value), x = .int .i64 k ∧ k ≤ 21 ∧ Hid (KeepX wr ow kb now pt fl) ∧ Hid (Bull wr (w.heap.size + 1) m false (tells most ⟨[], false, es, clock⟩ (itemsK fl k)) v) ∧
        Hid (Mod (fun j => w.heap.size + 1 ≤ j ∨ j = m ∨ j = kb) w wr) ∧ Hid (Has wr w.heap.size #[.bool false, .slice none 0 0, .bool false] 74)) (fun x _ => 21 - (intOf x).toNat)
    case atStart => exact ⟨0, .slice none 0 0, rfl, by omega, (unhide S0).keep, (unhide S0).bull, (unhide S0).mod, (unhide S0).res⟩
    case round =>
      obtain ⟨k, v, rfl, hk, hK, hB, hM, hR⟩ := hrel
      have hb1 := (unhide hB).has
      have bl := hb1.lt
      have rl := (unhide hR).lt
      have hkb : kb < w.heap.size + 1 := by omega
      by_cases h21 : k = 21
      · subst h21
        have hkk : ¬ ((21 : Nat) : Int) < 21 := by omega
        obtain ⟨sa, scp, rfl⟩ := slice_of_owns (unhide hB).row
        have bc := hb1.cell
        have d0 : wr.cell? ⟨w.heap.size, 0, none⟩ = some (.bool false) := (unhide hR).cell 0
        have d1 : wr.cell? ⟨w.heap.size, 1, none⟩ = some (.slice none 0 0) := (unhide hR).cell 1
        have d2 : wr.cell? ⟨w.heap.size, 2, none⟩ = some (.bool false) := (unhide hR).cell 2
        have rf := (unhide hR).frozen
        have S1 := unhide S0
        have E9 := fun W hW => tell_end (w' := W) (unhide H) (unhide HF) hi (unhide hK) (unhide hB) (unhide hM) hW S1.pt S1.ptm S1.om
        have HE9 := hide E9
        clear E9 S1 hb1
        go_wp2
        refine bodyPost_ret (by simp [results, Try.results52, go_sem, d0, d1, d2]; try rfl) rfl ?_
        refine ⟨_, clock, rfl, (unhide HE9) _ ?_⟩
        exact ((Mod.refl _ wr).at 0 _ |>.at 1 _).at 2 _
      have hk1 : (k : Int) < 21 := by omega
      obtain ⟨ck, hcase⟩ := keep_flight (unhide hK) k (by omega)
      have hsucc := itemsK_succ fl k
      rcases hcase with ⟨hp, hfl⟩ | ⟨b, x, hp, hfl, hL⟩
      · rw [hp] at ck
        simp only [pv, Option.map_none] at ck
        have hi0 : itemsF fl k = [] := by unfold itemsF; rw [hfl]
        rw [hi0, List.append_nil] at hsucc
        have HSU := hide hsucc
        clear hsucc hb1
        go_wp2
        go_roundw
        · refine ⟨k + 1, v, by simp, by omega, hK, ?_, hM, hR⟩
          rw [unhide HSU]
          exact hB
        · simp [intOf]; omega
      · rw [hp] at ck
        simp only [pv, Option.map_some] at ck
        have hi0 : itemsF fl k = items k (lv x 0) (lv x 1) (lv x 2) (lv x 3) 4 := by unfold itemsF; rw [hfl]
        rw [hi0] at hsucc
        have HSU := hide hsucc
        have HLE := hide hL
        clear hsucc hb1 hL hi0
        go_wp2_with fail
        refine ((unhide HLE) _ (Mod.refl _ _)).mono ?_
        rintro e w1 ⟨rfl, m1⟩
        have M1 := hide m1
        clear m1
        go_wp2_with fail
        have K1 := hide ((unhide hK).mod (unhide M1) (fun _ _ x => x))
        have C1 : w1.cell? ⟨kb, 22 + i, none⟩ = some (.map (some m)) := by rw [(unhide K1).has.cell, keep_far _ _ i hi, (unhide S0).ptm]
        refine (tellOf_walk kb (22 + i) m k (w.heap.size + 1) (lv x 0) (lv x 1) (lv x 2) (lv x 3) most false _ v w1 (by omega) hmost (tells_len _ _ (by simp; omega)) C1 hkb ((unhide hB).still (unhide M1))).mono ?_
        rintro e w2 ⟨rfl, v2, B2, m2⟩
        have M2 := hide m2
        have BB2 := hide B2
        clear m2 B2
        go_wp2
        go_roundw
        · refine ⟨k + 1, v2, by simp, by omega, hide ((unhide K1).mod (unhide M2) (fun j hj e => ?_)), hide ?_, hide (((unhide hM).trans ((unhide M1).mono (fun _ _ x => x.elim))).trans ((unhide M2).mono (fun j _ x => ?_))), hide ((unhide M2).has ((unhide M1).has (unhide hR) (fun x => x)) ?_)⟩
          · have h1 := (unhide H).old j hj
            have h2 := (unhide S0).om
            rcases e with e | e
            · omega
            · rcases h2 with h2 | h2
              · rw [e] at hj; exact hj ((unhide HF).old _ (by omega)).2
              · omega
          · rw [unhide HSU, tells_append]
            exact unhide BB2
          · rcases x with x | x
            · exact .inl x
            · exact .inr (.inl x)
          · have h2 := (unhide S0).om
            rintro (e | e)
            · omega
            · rcases h2 with h2 | h2
              · have := ((unhide HF).old m (by omega)).1; omega
              · omega
        · simp [intOf]; omega
end Go.Proofs.Ythhibagcpjeihaa
/- A keeper tells a follower what is news: Follow. -/
namespace Go.Proofs.Ythhibagcpjeihaa
open Go.RowKit
open Go.ChangeMaps (setBlock)
open M
set_option linter.unusedVariables false
set_option linter.unusedSimpArgs false
set_option maxRecDepth 100000
set_option maxHeartbeats 2000000

theorem FolX.mod {w w' : World} {S : Nat → Prop} {ow om : Nat → Nat} {kb : Nat} {tl : Nat → Option (List FEnt)} (h : FolX w ow om kb tl) (hm : Mod S w w') (h1 : ¬ S kb) (h2 : ∀ k, om k ≠ 0 → ¬ S k) : FolX w' ow om kb tl :=
  have hc : ∀ o v, w.cell? ⟨kb, o, none⟩ = some v → w'.cell? ⟨kb, o, none⟩ = some v := fun o v hc => by
    have hlt := World.block_lt_of_cell? w _ hc
    rw [World.cell?_of_block (w := w) (hm.block _ hlt h1)]
    exact hc
  ⟨fun i hi ht => hc _ _ (h.un i hi ht), fun i hi es ht => by
    obtain ⟨m, clock, a1, a2, a3, a4⟩ := h.is i hi es ht
    exact ⟨m, clock, hc _ _ a1, a2, mod_fol hm a3 (h2 m (by omega)), a4⟩, fun k hk => ⟨Nat.lt_of_lt_of_le (h.old k hk).1 hm.size, (h.old k hk).2⟩⟩

theorem TellX.moved {w W w3 w4 : World} {ow om : Nat → Nat} {kb : Nat} {now : Int} {pt : Nat → Option Nat} {fl : Nat → Option (Pla × List Sea)} {tl : Nat → Option (List FEnt)} {i : Nat} {v : Value} {T : Tel} (h : TellX W ow om kb now pt fl tl i w3 v T)
    (h0 : FolX w ow om kb tl) (k0 : KeepX w ow kb now pt fl) (hw : Mod No w W) (hs : w.heap.size < W.heap.size) (h4 : Mod (fun j => j = w.heap.size) w3 w4) : TellX w ow om kb now pt fl tl i w4 v T := by
  obtain ⟨pt', hk, hp⟩ := h.keep
  obtain ⟨om', f1, f2⟩ := h.fol
  have kl := k0.has.lt
  refine ⟨⟨pt', hk.mod h4 (fun k hk e => by have := k0.old k hk; omega), hp⟩, ⟨om', f1.mod h4 (by omega) (fun k hk e => ?_), fun k hk => f2 k (by omega)⟩, ?_, h4.owns h.row (fun k hk e => by have := h.own k hk; omega), fun k hk => by have := h.own k hk; omega⟩
  · subst e
    rw [f2 _ hs] at hk
    have := h0.old _ hk
    omega
  · exact ((hw.mono (fun _ _ x => x.elim)).trans h.mod).trans' h4 (fun k hk hl => absurd hl (by omega))

/-- A bulletin, as it is told. -/
def bullV (fresh : Bool) (v : Value) (more : Bool) : Value := .agg #[.bool fresh, v, .bool more]

theorem follow_no {w : World} (kb : Nat) (f most x : Int) (hx : (¬ (0 ≤ f ∧ f < 8) ∧ x = 14) ∨ ((0 ≤ f ∧ f < 8) ∧ ¬ (1 ≤ most ∧ most ≤ 50) ∧ x = 12)) :
    Calls Try.prog 28 #[.pointer (some ⟨kb, 0, none⟩), .int .i64 f, .int .i64 most] w fun e w' => e = .returned (.tuple #[bullV false (.slice none 0 0) false, .int .i64 x]) ∧ Mod No w w' := by
  unfold bullV
  rcases hx with ⟨h1, rfl⟩ | ⟨h1, h2, rfl⟩
  · rcases (show f < 0 ∨ (¬ f < 0 ∧ 8 ≤ f) by omega) with h | ⟨h, h'⟩
    all_goals
      go_enter Try.func28, Try.ntmps28
      go_wp2
      refine bodyPost_ret (by simp [results, Try.results28, go_sem]; try rfl) rfl ?_
      exact ⟨rfl, by repeat' (first | with_reducible exact Mod.refl No w | refine Mod.drewN ?_ _ | refine Mod.alloc ?_ _ | refine Mod.setCell ?_ (.inr (Nat.le_refl _)) _)⟩
  · obtain ⟨h3, h4⟩ := h1
    have h5 : ¬ f < 0 := by omega
    have h6 : ¬ 8 ≤ f := by omega
    rcases (show most < 1 ∨ (¬ most < 1 ∧ 50 < most) by omega) with h | ⟨h, h'⟩
    all_goals
      go_enter Try.func28, Try.ntmps28
      go_wp2
      refine bodyPost_ret (by simp [results, Try.results28, go_sem]; try rfl) rfl ?_
      exact ⟨rfl, by repeat' (first | with_reducible exact Mod.refl No w | refine Mod.drewN ?_ _ | refine Mod.alloc ?_ _ | refine Mod.setCell ?_ (.inr (Nat.le_refl _)) _)⟩

theorem follow_any {w : World} {ow om : Nat → Nat} {kb : Nat} {now : Int} {pt : Nat → Option Nat} {fl : Nat → Option (Pla × List Sea)} {tl : Nat → Option (List FEnt)} (h : KeepX w ow kb now pt fl) (hf : FolX w ow om kb tl) (i : Nat) (hi : i < 8) (most : Int) (hmost : 1 ≤ most ∧ most ≤ 50) :
    Calls Try.prog 28 #[.pointer (some ⟨kb, 0, none⟩), .int .i64 i, .int .i64 most] w fun e w' => ∃ v clock,
      e = .returned (.tuple #[bullV (tl i).isNone v (tells most ⟨[], false, (tl i).getD [], clock⟩ (itemsK fl 21)).more, .int .i64 0]) ∧ TellX w ow om kb now pt fl tl i w' v (tells most ⟨[], false, (tl i).getD [], clock⟩ (itemsK fl 21)) := by
  have HT := hide fun W (hW : Mod No w W) => tellF_walk (h.mod hW (fun _ _ x => x)) (hf.still hW) i hi most hmost
  have H := hide h
  have HF := hide hf
  have hl := h.has.lt
  clear h hf
  have h5 : ¬ (i : Int) < 0 := by omega
  have h6 : ¬ 8 ≤ (i : Int) := by omega
  have h6' : (i : Int) < 8 := by omega
  have h7 : ¬ most < 1 := by omega
  have h8 : ¬ 50 < most := by omega
  go_enter Try.func28, Try.ntmps28
  go_wp2_with fail
  have M0 := hide ((Mod.refl No w).alloc (.cells #[.bool false, .slice none 0 0, .bool false] 74))
  have R0 := hide (Has.new w #[.bool false, .slice none 0 0, .bool false] 74)
  have NR := hide (show ¬ (w.heap.size = kb ∨ om w.heap.size ≠ 0) from by
    rintro (e | e)
    · omega
    · have := ((unhide HF).old _ e).1; omega)
  go_region_with (go_at_call 52; refine ((unhide HT) _ (unhide M0).drew).mono ?_; rintro e w3 ⟨v, clock, rfl, hx⟩; obtain ⟨sa, scp, rfl⟩ := slice_of_owns hx.row; have r3 := hx.mod.has (unhide R0).drew (unhide NR); have c3 := r3.cell; have f3 := r3.frozen; have l3 := r3.lt; have HX := hide hx; clear hx r3)
  have d0 : w3.cell? ⟨w.heap.size, 0, none⟩ = some (.bool false) := c3 0
  have d1 : w3.cell? ⟨w.heap.size, 1, none⟩ = some (.slice none 0 0) := c3 1
  have d2 : w3.cell? ⟨w.heap.size, 2, none⟩ = some (.bool false) := c3 2
  have HMV := hide fun W hW => (unhide HX).moved (w4 := W) (unhide HF) (unhide H) (unhide M0).drew (by simp) hW
  go_wp2
  refine bodyPost_ret (by simp [results, Try.results28, go_sem, d0, d1, d2]; try rfl) rfl ?_
  refine ⟨_, clock, rfl, (unhide HMV) _ ?_⟩
  repeat' (first | with_reducible exact Mod.refl _ w3 | refine Mod.drewN ?_ _ | refine Mod.at ?_ _ _)

/-- What a bulletin's making leaves, on a tape that does not fail. -/
structure TellM (w : World) (ow om : Nat → Nat) (kb : Nat) (now : Int) (fl : Nat → Option (Pla × List Sea)) (n : Nat) (tl : Nat → Option (List FEnt)) (i : Nat) (w' : World) (v : Value) (T : Tel) : Prop where
  keep : KeepM w' ow kb now fl n
  fol : ∃ om', FolX w' ow om' kb (fun j => if j = i then some T.es else tl j) ∧ ∀ k, k < w.heap.size → om' k = om k
  mod : Mod (fun j => j = kb ∨ om j ≠ 0) w w'
  row : w'.ownsRow 0 78 3 v T.news.length (T.news.flatMap nwL)
  own : ∀ k, v.ownBlock = some k → w.heap.size ≤ k

theorem KeepT.told {w w' : World} {ow om : Nat → Nat} {kb : Nat} {now : Int} {pt : Nat → Option Nat} {fl : Nat → Option (Pla × List Sea)} {K : KS} {tl : Nat → Option (List FEnt)} {i : Nat} {v : Value} {T : Tel} (h : KeepT w ow kb now pt fl K) (hf : FolX w ow om kb tl) (hx : TellX w ow om kb now pt fl tl i w' v T) : ∃ pt', KeepT w' ow kb now pt' fl K := by
  obtain ⟨pt', hk, hp⟩ := hx.keep
  refine ⟨pt', hk, by rw [hp 29 (by omega)]; exact h.ptr, ?_, ?_, h.tape.mod hx.mod (fun k hk e => ?_)⟩
  · have := h.file
    unfold fileN at this ⊢
    rw [hp 30 (by omega)]
    exact this
  · have := h.torn
    unfold tornB at this ⊢
    rw [hp 31 (by omega)]
    exact this
  · rcases e with e | e
    · rw [e, h.keep.mine] at hk; omega
    · have := (hf.old k e).2; omega

theorem follow_m {w : World} {ow om : Nat → Nat} {kb : Nat} {now : Int} {fl : Nat → Option (Pla × List Sea)} {n : Nat} {tl : Nat → Option (List FEnt)} (h : KeepM w ow kb now fl n) (hf : FolX w ow om kb tl) (i : Nat) (hi : i < 8) (most : Int) (hmost : 1 ≤ most ∧ most ≤ 50) :
    Calls Try.prog 28 #[.pointer (some ⟨kb, 0, none⟩), .int .i64 i, .int .i64 most] w fun e w' => ∃ v clock,
      e = .returned (.tuple #[bullV (tl i).isNone v (tells most ⟨[], false, (tl i).getD [], clock⟩ (itemsK fl 21)).more, .int .i64 0]) ∧ TellM w ow om kb now fl n tl i w' v (tells most ⟨[], false, (tl i).getD [], clock⟩ (itemsK fl 21)) := by
  obtain ⟨pt, K, h1, h2⟩ := h
  refine (follow_any h1.keep hf i hi most hmost).mono ?_
  rintro e w' ⟨v, clock, he, hx⟩
  obtain ⟨pt', hk⟩ := h1.told hf hx
  exact ⟨v, clock, he, ⟨pt', K, hk, h2⟩, hx.fol, hx.mod, hx.row, hx.own⟩
end Go.Proofs.Ythhibagcpjeihaa
/- Tables of numbers in memory; what is told of all classes of all flights. -/
namespace Go.Proofs.Ythhibagcpjeihaa
open Go.RowKit
open Go.ChangeMaps (setBlock)
open M
set_option linter.unusedVariables false
set_option linter.unusedSimpArgs false
set_option maxRecDepth 100000
set_option maxHeartbeats 2000000

/-- A table of numbers. -/
def tab (f : Nat → Int) (n : Nat) : Array Value := ((List.range n).map fun j => Value.int .i64 (f j)).toArray
theorem tab_size (f : Nat → Int) (n : Nat) : (tab f n).size = n := by simp [tab]
theorem tab_get (f : Nat → Int) (n o : Nat) (ho : o < n) : (tab f n)[o]? = some (.int .i64 (f o)) := by simp [tab, ho]
theorem tab_out (f : Nat → Int) (n o : Nat) (ho : n ≤ o) : (tab f n)[o]? = none := by simp [tab, ho]
theorem tab_set (f : Nat → Int) (n o : Nat) (v : Int) : (tab f n).setIfInBounds o (.int .i64 v) = tab (fun j => if j = o then v else f j) n := by
  apply Array.ext_getElem?
  intro i
  rw [Array.getElem?_setIfInBounds, tab_size]
  by_cases h : i < n
  · rw [tab_get _ _ _ h, tab_get _ _ _ h]
    by_cases e : o = i
    · subst e; simp [h]
    · have e' : ¬ i = o := fun x => e x.symm
      simp [e, e']
  · rw [tab_out _ _ _ (by omega), tab_out _ _ _ (by omega)]
    by_cases e : o = i
    · subst e; simp [h]
    · simp [e]
theorem tab_congr {f g : Nat → Int} {n : Nat} (h : ∀ j, j < n → f j = g j) : tab f n = tab g n := by
  unfold tab
  congr 1
  exact List.map_congr_left fun j hj => by rw [h j (List.mem_range.1 hj)]
theorem tab_one (f : Nat → Int) (n : Nat) : (tab f n).all (·.oneCell') = true := by
  simp [tab, Value.oneCell']

theorem results_box {P : Program} {fn : Func} {a : Tmp} {t : TypeId} (h : fn.results = #[.cell a t]) {tmps : Array Value} {b : Nat} {cells : Array Value} {T : TypeId} {w : World} (ha : tmps[a]? = some (.pointer (some ⟨b, 0, none⟩))) (hb : Has w b cells T)
    (hu : (P.underlying t).map (·.isRow) = some true) (hi : (P.info? t).map (·.size) = some cells.size) : (results fn tmps).run P w = .ok (.agg cells) w := by
  cases hd : P.underlying t with
  | none => rw [hd] at hu; simp at hu
  | some d =>
    rw [hd] at hu
    have hl := run_loadVar_mid (P := P) w b 0 t cells.toList d (hb.range 0 _ (fun j v hv => by rw [Nat.zero_add]; simpa using hv)) hd (by simpa using hu) (by simpa using hi)
    rw [show cells.toList.toArray = cells from by simp] at hl
    simp [results, h, ha, asAddr, hl]

def leftT (fl : Nat → Option (Pla × List Sea)) (j : Nat) : Int := if (leftK fl (j / 4 : Nat) (j % 4 : Nat)).2 = 0 then (leftK fl (j / 4 : Nat) (j % 4 : Nat)).1 else -1
theorem sizeLT : (Try.prog.info? 69).map (·.size) = some 84 := by kernel_rfl
theorem rowLT : (Try.prog.underlying 69).map (·.isRow) = some true := by kernel_rfl
theorem zeroLT : Try.zeroCells69 = tab (fun _ => 0) 84 := by kernel_rfl

theorem leftT_walk {w : World} {ow : Nat → Nat} {kb : Nat} {now : Int} {fl : Nat → Option (Pla × List Sea)} (h : KeepH w ow kb now fl) :
    Calls Try.prog 29 #[.pointer (some ⟨kb, 0, none⟩)] w fun e w' => e = .returned (.agg (tab (leftT fl) 84)) ∧ Mod No w w' := by
  have HL := hide fun W (hW : Mod No w W) (n c : Int) => left_any (h.mod hW (fun _ _ x => x)) n c
  clear h
  go_enter Try.func29, Try.ntmps29
  go_wp2_with fail
  go_loopw [4] (fun x wr => ∃ n : Nat, x = .int .i64 n ∧ n ≤ 21 ∧ Hid (Mod No w wr) ∧ Hid (Has wr w.heap.size (tab (fun _ => 0) 84) 69) ∧ Hid (Has wr (w.heap.size + 1) (tab (fun j => if j < 4 * n then leftT fl j else 0) 84) 69)) (fun x _ => 21 - (intOf x).toNat)
  case atStart =>
    rw [zeroLT]
    refine ⟨0, rfl, by omega, ((Mod.refl No w).alloc _).alloc _, (Has.new w _ _).alloc _, hide ?_⟩
    have := Has.new (w.alloc (.cells (tab (fun _ => 0) 84) 69)) (tab (fun _ => 0) 84) 69
    rw [World.size_alloc] at this
    rw [tab_congr (f := fun j => if j < 4 * 0 then leftT fl j else 0) (g := fun _ => 0) (fun j _ => if_neg (by omega))]
    exact this
  case round =>
    obtain ⟨n, rfl, hn, hm, h0, h1⟩ := hrel
    by_cases h21 : n = 21
    · subst h21
      have hcond : ¬ ((21 : Nat) : Int) ≤ 20 := by omega
      have e9 : tab (fun j => if j < 4 * 21 then leftT fl j else 0) 84 = tab (leftT fl) 84 := tab_congr (fun j hj => if_pos (by omega))
      rw [e9] at h1
      go_upto_region 12 with fail
      refine wp_region_list ?_
      refine (wpList_load_has rfl 69 _ rfl (w.heap.size + 1) 0 rfl (tab (leftT fl) 84) 69 (unhide h1) (tab (leftT fl) 84) (fun j v h => by rw [Nat.zero_add]; simpa using h) rowLT (by rw [tab_size]; exact sizeLT) ?_)
      refine (wpList_store_has rfl 69 _ _ rfl (w.heap.size) (tab (leftT fl) 84) rfl rfl (tab (fun _ => 0) 84) 69 (unhide h0) (by rw [tab_size, tab_size]) (by rw [tab_size]; exact sizeLT) (tab_one _ _) ?_)
      intro w5 h5 m5
      have H5 := hide h5
      have M5 := hide ((unhide hm).trans' (S := No) m5 (fun i e hl => by subst e; omega))
      clear m5 h5 h0 h1 hm
      go_wp2
      refine bodyPost_ret (results_box Try.results29 rfl (unhide H5) rowLT (by rw [tab_size]; exact sizeLT)) rfl ?_
      exact ⟨rfl, unhide M5⟩
    have hcond : (n : Int) ≤ 20 := by omega
    go_wp2_with fail
    go_loopw [5, 6, 7] (fun y _ _ wx => ∃ c : Nat, y = .int .i64 c ∧ c ≤ 4 ∧ Hid (Mod No w wx) ∧ Hid (Has wx w.heap.size (tab (fun _ => 0) 84) 69) ∧ Hid (Has wx (w.heap.size + 1) (tab (fun j => if j < 4 * n + c then leftT fl j else 0) 84) 69)) (fun y _ _ _ => 4 - (intOf y).toNat)
    case atStart => exact ⟨0, rfl, by omega, hm, h0, h1⟩
    case round =>
      obtain ⟨c, rfl, hc, hm2, h02, h12⟩ := hrel
      by_cases h4 : c = 4
      · subst h4
        have hcond2 : ¬ ((4 : Nat) : Int) < 4 := by omega
        go_wp2
        exact ⟨⟨n + 1, by simp, by omega, hm2, h02, by rw [show 4 * (n + 1) = 4 * n + 4 by omega]; exact h12⟩, by simp [intOf]; omega⟩
      have hcond2 : (c : Int) < 4 := by omega
      go_wp2_with fail
      refine ((unhide HL) _ (unhide hm2) n c).mono ?_
      rintro e w3 ⟨rfl, m3⟩
      have H12 := m3.has (unhide h12) (fun x => x)
      have H02 := hide (m3.has (unhide h02) (fun x => x))
      have M3 := hide ((unhide hm2).trans m3)
      have EL : leftT fl (n * 4 + c) = if (leftK fl n c).2 = 0 then (leftK fl n c).1 else -1 := by
        unfold leftT
        rw [show (n * 4 + c) / 4 = n by omega, show (n * 4 + c) % 4 = c by omega]
      have cx : w3.cell? ⟨w.heap.size + 1, n * 4 + c, none⟩ = some (.int .i64 (if n * 4 + c < 4 * n + c then leftT fl (n * 4 + c) else 0)) := by rw [H12.cell]; exact tab_get _ _ _ (by omega)
      have f12 := H12.frozen
      have l12 := H12.lt
      have FIN := hide (fun v (hv : v = leftT fl (n * 4 + c)) => (show Has (w3.setCell ⟨w.heap.size + 1, n * 4 + c, none⟩ (.int .i64 v)) (w.heap.size + 1) (tab (fun j => if j < 4 * n + (c + 1) then leftT fl j else 0) 84) 69 from by
        have h := H12.set (n * 4 + c) (.int .i64 v)
        rw [tab_set] at h
        rw [tab_congr (f := fun j => if j < 4 * n + (c + 1) then leftT fl j else 0) (g := fun j => if j = n * 4 + c then v else if j < 4 * n + c then leftT fl j else 0)]
        · exact h
        · intro j hj
          by_cases e : j = n * 4 + c
          · rw [if_pos e, if_pos (by omega), e, hv]
          · rw [if_neg e]
            by_cases e2 : j < 4 * n + c
            · rw [if_pos e2, if_pos (by omega)]
            · rw [if_neg e2, if_neg (by omega)]))
      have FIN2 := hide (fun v1 v (hv : v = leftT fl (n * 4 + c)) => (show Has ((w3.setCell ⟨w.heap.size + 1, n * 4 + c, none⟩ (.int .i64 v1)).setCell ⟨w.heap.size + 1, n * 4 + c, none⟩ (.int .i64 v)) (w.heap.size + 1) (tab (fun j => if j < 4 * n + (c + 1) then leftT fl j else 0) 84) 69 from by
        have h := (H12.set (n * 4 + c) (.int .i64 v1)).set (n * 4 + c) (.int .i64 v)
        rw [tab_set, tab_set] at h
        rw [tab_congr (f := fun j => if j < 4 * n + (c + 1) then leftT fl j else 0) (g := fun j => if j = n * 4 + c then v else if j = n * 4 + c then v1 else if j < 4 * n + c then leftT fl j else 0)]
        · exact h
        · intro j hj
          by_cases e : j = n * 4 + c
          · rw [if_pos e, if_pos (by omega), e, hv]
          · rw [if_neg e, if_neg e]
            by_cases e2 : j < 4 * n + c
            · rw [if_pos e2, if_pos (by omega)]
            · rw [if_neg e2, if_neg (by omega)]))
      have HH12 := hide H12
      clear m3 h12 h02 hm2 H12
      generalize leftT fl (n * 4 + c) = lt at *
      generalize (if n * 4 + c < 4 * n + c then lt else 0) = old at *
      generalize (leftK fl n c).1 = vl at *
      generalize (leftK fl n c).2 = er at *
      have hEL := hide EL
      clear EL
      by_cases her : er = 0
      · have her' : (er != 0) = false := by simp [her]
        go_wp2
        exact ⟨⟨c + 1, by simp, by omega, (unhide M3).setCell (.inr (Nat.le_succ _)) _, (unhide H02).set_ne (by simp) _, (unhide FIN) _ (by rw [unhide hEL, if_pos her])⟩, by simp [intOf]; omega⟩
      · have her' : (er != 0) = true := by simp [her]
        go_wp2
        refine ⟨⟨c + 1, by simp, by omega, ((unhide M3).setCell (.inr (Nat.le_succ _)) _).setCell (.inr (Nat.le_succ _)) _, ((unhide H02).set_ne (by simp) _).set_ne (by simp) _, ?_⟩, by simp [intOf]; omega⟩
        exact (unhide FIN2) _ _ (by rw [unhide hEL, if_neg her])
end Go.Proofs.Ythhibagcpjeihaa
