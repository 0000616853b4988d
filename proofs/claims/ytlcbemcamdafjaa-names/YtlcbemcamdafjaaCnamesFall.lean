import Derived.Test.YtlcbemcamdafjaaCnamesTape4
import Derived.Deep.DeepCutAuto
import Derived.OpenShut
/- The fall. -/
namespace Go.Proofs.Ytlcbemcamdafjaa
open Go.RowKit
set_option linter.unusedVariables false
set_option linter.unusedSimpArgs false
set_option maxRecDepth 100000

/-- How many bytes that were not synced last. -/
def fallN (keep : List Int) (i : Nat) (f : TFile) : Nat := if i < keep.length then (min (max (keep.getD i 0) 0) ((f.xs.length : Int) - f.last)).toNat else 0

theorem fallN_le (keep : List Int) (i : Nat) (f : TFile) (h : f.last ≤ f.xs.length) : f.last + fallN keep i f ≤ f.xs.length := by
  unfold fallN
  split
  · omega
  · omega

/-- A byte, spoilt. -/
def spoilt (s : Int) : Value → Value
  | .int .u8 x => .int .u8 (bits BinOp.xor .u8 x s)
  | v => v

/-- What is left of a file's bytes. -/
def fallXs (keep : List Int) (i : Nat) (s : Int) (f : TFile) : List Value :=
  if fallN keep i f = 0 then f.xs.take (f.last + fallN keep i f) else (f.xs.take (f.last + fallN keep i f)).set (f.last + fallN keep i f - 1) (spoilt s (f.xs.getD (f.last + fallN keep i f - 1) undef))

theorem fallXs_len (keep : List Int) (i : Nat) (s : Int) (f : TFile) (h : f.last ≤ f.xs.length) : (fallXs keep i s f).length = f.last + fallN keep i f := by
  have := fallN_le keep i f h
  unfold fallXs
  split <;> simp <;> omega

theorem fallXs_bytes (keep : List Int) (i : Nat) (s : Int) (f : TFile) (h : f.last ≤ f.xs.length) (hb : ∀ x ∈ f.xs, ∃ n : Int, x = .int .u8 n ∧ 0 ≤ n ∧ n < 256) :
    ∀ x ∈ fallXs keep i s f, ∃ n : Int, x = .int .u8 n ∧ 0 ≤ n ∧ n < 256 := by
  have hle := fallN_le keep i f h
  intro x hx
  unfold fallXs at hx
  split at hx
  · exact hb x (List.mem_of_mem_take hx)
  · rcases List.mem_or_eq_of_mem_set hx with h1 | h1
    · exact hb x (List.mem_of_mem_take h1)
    · have hlt : f.last + fallN keep i f - 1 < f.xs.length := by omega
      obtain ⟨n, hn, _, _⟩ := hb (f.xs[f.last + fallN keep i f - 1]) (List.getElem_mem hlt)
      have hg : f.xs.getD (f.last + fallN keep i f - 1) undef = .int .u8 n := by simp [List.getD, List.getElem?_eq_getElem hlt, hn]
      rw [hg] at h1
      subst h1
      have hw := wf_bits BinOp.xor .u8 n s
      simp [Lit.wf, IntKind.min, IntKind.max, IntKind.signed, IntKind.bits] at hw
      exact ⟨_, rfl, by omega, by omega⟩

theorem owns_take {w : World} {e : TypeId} {ao : Option Addr} {n cap m : Nat} {xs : List Value} (h : w.ownsRow 0 e 1 (.slice ao n cap) n xs) (hm : m ≤ n) : w.ownsRow 0 e 1 (.slice ao m cap) m (xs.take m) := by
  have hl := h.1
  refine ⟨by rw [List.length_take]; omega, ?_⟩
  rcases h.2 with ⟨h1, h2⟩ | ⟨g, c, cur, hv, hb, hg, hnc, hcm, hcs, ht⟩
  · injection h1 with a1 a2 a3
    subst a1 a3
    exact .inl ⟨by rw [show m = 0 by omega], by omega⟩
  · injection hv with a1 a2 a3
    subst a1 a3
    refine .inr ⟨g, cap, cur, rfl, hb, hg, by omega, hcm, hcs, ?_⟩
    rw [← ht, List.take_take, Nat.mul_one, Nat.mul_one, Nat.min_eq_left hm]

theorem owns_set {w : World} {e : TypeId} {g n cap j : Nat} {xs : List Value} (h : w.ownsRow 0 e 1 (.slice (some ⟨g, 0, none⟩) n cap) n xs) (hj : j < n) (u : Value) :
    (w.setCell ⟨g, j, none⟩ u).ownsRow 0 e 1 (.slice (some ⟨g, 0, none⟩) n cap) n (xs.set j u) := by
  refine ⟨by rw [List.length_set]; exact h.1, ?_⟩
  rcases h.2 with ⟨h1, h2⟩ | ⟨g', c, cur, hv, hb, hg, hnc, hcm, hcs, ht⟩
  · injection h1 with a1 a2 a3
    cases a1
  · injection hv with a1 a2 a3
    subst a3
    injection a1 with a1
    injection a1 with a1
    subst a1
    refine .inr ⟨g, cap, cur.setIfInBounds j u, rfl, hb, (Has.set (T := e) hg j u), hnc, hcm, by simpa using hcs, ?_⟩
    rw [← ht, Array.toList_setIfInBounds, List.take_set]


theorem fall_step0 {S : Nat → Prop} {w : World} {b : Nat} {t : TTape} (h : t.ok S w b) (i : Nat) (hi : i < 4) {ao : Option Addr} {cap m : Nat} (hv : (t.get i).v = .slice ao (t.get i).xs.length cap) (hm : m ≤ (t.get i).xs.length) :
    (t.put ⟨.slice ao m cap, (t.get i).xs.take m, m⟩ i).ok S ((w.setCell ⟨b, i * 2, none⟩ (.slice ao m cap)).setCell ⟨b, i * 2 + 1, none⟩ (.int .i64 m)) b ∧
      Mod S w ((w.setCell ⟨b, i * 2, none⟩ (.slice ao m cap)).setCell ⟨b, i * 2 + 1, none⟩ (.int .i64 m)) := by
  have hg := h.get i hi
  have ho := hg.owns
  rw [hv] at ho
  have ho' := owns_take ho hm
  have hne : (Value.slice ao m cap).ownBlock ≠ some b := by
    have := hg.ne h.has
    rw [hv] at this
    cases ao <;> simp_all [Value.ownBlock]
  have hst : ∀ k, (Value.slice ao m cap).ownBlock = some k → (t.get i).v.ownBlock = some k := fun k hk => by
    rw [hv]
    cases ao <;> simp_all [Value.ownBlock]
  have hml : m = ((t.get i).xs.take m).length := by rw [List.length_take]; omega
  refine ⟨h.put i hi _ (((Mod.refl _ w).setCell (p := ⟨b, i * 2, none⟩) (.inl (.inl rfl)) _).setCell (p := ⟨b, i * 2 + 1, none⟩) (.inl (.inl rfl)) _) ?_ ?_ (fun _ x => x) (fun k hk => .inl (hst k hk)), ?_⟩
  · have := (h.has.set (i * 2) (.slice ao m cap)).set (i * 2 + 1) (.int .i64 m)
    rwa [cells_put _ _ ((t.get i).xs.take m) _ i hi] at this
  · refine ⟨?_, by rw [← hml]; exact Nat.le_refl _, by rw [← hml]; have := hg.len; omega, fun x hx => hg.bytes x (List.mem_of_mem_take hx), fun k hk => hg.inn k (hst k hk)⟩
    rw [← hml]
    exact owns_setCell_ne (owns_setCell_ne ho' hne _) hne _
  · exact ((Mod.refl _ w).setCell (p := ⟨b, i * 2, none⟩) (.inl h.inn) _).setCell (p := ⟨b, i * 2 + 1, none⟩) (.inl h.inn) _

theorem setCell_comm (w : World) {a b : Addr} (h : a.block ≠ b.block) (u v : Value) : (w.setCell a u).setCell b v = (w.setCell b v).setCell a u := by
  unfold World.setCell
  congr 1
  apply Array.ext_getElem?
  intro k
  simp only [Array.getElem?_modify]
  by_cases h1 : b.block = k
  · subst h1
    simp [h]
  · by_cases h2 : a.block = k
    · subst h2
      simp [h1]
    · simp [h1, h2]

theorem fall_step1 {S : Nat → Prop} {w : World} {b : Nat} {t : TTape} (h : t.ok S w b) (i : Nat) (hi : i < 4) {g cap k : Nat} (hv : (t.get i).v = .slice (some ⟨g, 0, none⟩) (t.get i).xs.length cap) (hm : k + 1 ≤ (t.get i).xs.length)
    (x : Int) (hx : 0 ≤ x ∧ x < 256) :
    (t.put ⟨.slice (some ⟨g, 0, none⟩) (k + 1) cap, ((t.get i).xs.take (k + 1)).set k (.int .u8 x), k + 1⟩ i).ok S
        (((w.setCell ⟨b, i * 2, none⟩ (.slice (some ⟨g, 0, none⟩) (k + 1) cap)).setCell ⟨g, k, none⟩ (.int .u8 x)).setCell ⟨b, i * 2 + 1, none⟩ (.int .i64 (k + 1 : Nat))) b ∧
      Mod S w (((w.setCell ⟨b, i * 2, none⟩ (.slice (some ⟨g, 0, none⟩) (k + 1) cap)).setCell ⟨g, k, none⟩ (.int .u8 x)).setCell ⟨b, i * 2 + 1, none⟩ (.int .i64 (k + 1 : Nat))) := by
  have hg := h.get i hi
  have ho := hg.owns
  have hgb : g ≠ b := by
    have := hg.ne h.has
    rw [hv] at this
    simpa [Value.ownBlock] using this
  have hgS : S g := hg.inn g (by rw [hv]; rfl)
  rw [hv] at ho
  have ho' := owns_take ho hm
  have hne : (Value.slice (some ⟨g, 0, none⟩) (k + 1) cap).ownBlock ≠ some b := by simpa [Value.ownBlock] using hgb
  have ho2 := owns_set (owns_setCell_ne (a := ⟨b, i * 2, none⟩) ho' hne (.slice (some ⟨g, 0, none⟩) (k + 1) cap)) (Nat.lt_succ_self k) (.int .u8 x)
  have hml : k + 1 = (((t.get i).xs.take (k + 1)).set k (.int .u8 x)).length := by rw [List.length_set, List.length_take]; omega
  have hT : Touch b (t.get i) g := .inr (by rw [hv]; rfl)
  refine ⟨h.put i hi _ ((((Mod.refl _ w).setCell (p := ⟨b, i * 2, none⟩) (.inl (.inl rfl)) _).setCell (p := ⟨g, k, none⟩) (.inl hT) _).setCell (p := ⟨b, i * 2 + 1, none⟩) (.inl (.inl rfl)) _) ?_ ?_ (fun _ x => x)
    (fun k hk => .inl (by rw [hv]; simpa [Value.ownBlock] using hk)), ?_⟩
  · have := ((h.has.set (i * 2) (.slice (some ⟨g, 0, none⟩) (k + 1) cap)).set_ne (a := ⟨g, k, none⟩) (fun e => hgb e.symm) (.int .u8 x)).set (i * 2 + 1) (.int .i64 (k + 1 : Nat))
    rwa [cells_put _ _ (((t.get i).xs.take (k + 1)).set k (.int .u8 x)) _ i hi] at this
  · refine ⟨?_, by rw [← hml]; exact Nat.le_refl _, by rw [← hml]; have := hg.len; omega, fun y hy => ?_, fun j hj => ?_⟩
    · rw [← hml]
      exact owns_setCell_ne ho2 hne _
    · rcases List.mem_or_eq_of_mem_set hy with h1 | h1
      · exact hg.bytes y (List.mem_of_mem_take h1)
      · exact ⟨x, h1, hx⟩
    · simp [Value.ownBlock] at hj
      subst hj
      exact hgS
  · exact (((Mod.refl _ w).setCell (p := ⟨b, i * 2, none⟩) (.inl h.inn) _).setCell (p := ⟨g, k, none⟩) (.inl hgS) _).setCell (p := ⟨b, i * 2 + 1, none⟩) (.inl h.inn) _

theorem fall_close {S : Nat → Prop} {w wr w' : World} {b i : Nat} {t t' : TTape} {keep : List Int} {s : Int} (hi : i < 4) (hmod : Mod S w wr)
    (hA : ∀ j, j < i → (t'.get j).xs = fallXs keep j s (t.get j) ∧ (t'.get j).last = (fallXs keep j s (t.get j)).length) (hB : ∀ j, i ≤ j → j < 4 → t'.get j = t.get j) (hr : t'.room = t.room) (hf : t'.fuse = t.fuse)
    (g : TFile) (hx : g.xs = fallXs keep i s (t.get i)) (hl : g.last = (fallXs keep i s (t.get i)).length) (h : (t'.put g i).ok S w' b ∧ Mod S wr w') :
    ∃ (i' : Nat) (t2 : TTape), i' ≤ 4 ∧ Value.int IntKind.i64 ((i : Int) + 1) = Value.int .i64 (i' : Int) ∧ t2.ok S w' b ∧ Mod S w w' ∧
      (∀ j, j < i' → (t2.get j).xs = fallXs keep j s (t.get j) ∧ (t2.get j).last = (fallXs keep j s (t.get j)).length) ∧ (∀ j, i' ≤ j → j < 4 → t2.get j = t.get j) ∧ t2.room = t.room ∧ t2.fuse = t.fuse := by
  refine ⟨i + 1, t'.put g i, by omega, rfl, h.1, hmod.trans h.2, fun j hj => ?_, fun j hj hj4 => ?_, ?_, ?_⟩
  · rw [get_put _ _ _ _ hi (by omega)]
    split
    · rename_i e; subst e; exact ⟨hx, hl⟩
    · exact hA j (by omega)
  · rw [get_put _ _ _ _ hi hj4, if_neg (by omega)]
    exact hB j (by omega) hj4
  · rw [(put_room _ _ _).1, hr]
  · rw [(put_room _ _ _).2, hf]

theorem fall_loop (b : Nat) (keep : List Int) (t : TTape) (kc : Nat) (ko : Option Addr) (s : Int) (S : Nat → Prop) (w : World) (h : t.ok S w b)
    (hm2 : keep.length ≤ 17592186044416) (hk : Reads w (.slice ko keep.length kc) keep.length (keep.map (Value.int .i64))) (hkb : ∀ k, (Value.slice ko keep.length kc).ownBlock = some k → ¬ S k) :
    Calls Try.prog 34 #[.pointer (some ⟨b, 0, none⟩), .slice ko keep.length kc, .int .u8 s] w fun e w' => e = .returned (.tuple #[]) ∧
      ∃ t' : TTape, t'.ok S w' b ∧ Mod S w w' ∧ (∀ i, i < 4 → (t'.get i).xs = fallXs keep i s (t.get i) ∧ (t'.get i).last = (fallXs keep i s (t.get i)).length) ∧ t'.room = t.room ∧ t'.fuse = -1 := by
  have H := hide h
  have HK := hide hk
  have HKB := hide hkb
  clear hk hkb h
  generalize hm : keep.length = m at *
  have HM := hide hm
  clear hm
  go_enter Try.func34, Try.ntmps34
  go_wp2
  go_loopw [9] (fun c wr => ∃ (i : Nat) (t' : TTape), i ≤ 4 ∧ c = .int .i64 i ∧ t'.ok S wr b ∧ Mod S w wr ∧
      (∀ j, j < i → (t'.get j).xs = fallXs keep j s (t.get j) ∧ (t'.get j).last = (fallXs keep j s (t.get j)).length) ∧ (∀ j, i ≤ j → j < 4 → t'.get j = t.get j) ∧ t'.room = t.room ∧ t'.fuse = t.fuse) (fun i _ => 4 - (intOf i).toNat)
  case atStart => exact ⟨0, t, by omega, rfl, unhide H, Mod.refl _ _, fun j hj => by omega, fun j _ _ => rfl, rfl, rfl⟩
  case round =>
    obtain ⟨i, t', hi, rfl, hok, hmod, hA, hB, hr, hf⟩ := hrel
    have HA := hide hA
    have HBB := hide hB
    have HR := hide hr
    have HF := hide hf
    have HMOD := hide hmod
    have HOK := hide hok
    clear hA hB hr hf hmod hok
    by_cases hi4 : i < 4
    · have hi' : (i : Int) < 4 := by omega
      have ef : t'.get i = t.get i := (unhide HBB) i (Nat.le_refl _) hi4
      have hfile := (unhide HOK).get i hi4
      rw [ef] at hfile
      have HFILE := hide hfile
      have h0 := (unhide HOK).has.cell (i * 2)
      have h1 := (unhide HOK).has.cell (i * 2 + 1)
      have hz := (unhide HOK).has.frozen
      have hbb := (unhide HOK).has
      have HBLK := hide hbb
      clear hbb
      rw [(cells_v _ i hi4).1, ef] at h0
      rw [(cells_v _ i hi4).2, ef] at h1
      have EF := hide ef
      clear ef
      generalize hF : t.get i = f at *
      have HF0 := hide hF
      clear hF
      obtain ⟨ao, cap, hv, hlen⟩ := slice_form hfile
      have hcap : f.xs.length ≤ cap := by
        rcases hfile.owns.2 with ⟨h1, h2⟩ | ⟨g, c, cur, hv2, _, _, hnc, _⟩
        · omega
        · rw [hv] at hv2; injection hv2 with _ _ a3; omega
      rw [hv] at h0
      have HV := hide hv
      have hll := hfile.last
      clear hv hfile
      generalize hL : f.xs.length = len at *
      generalize hl : f.last = last at *
      have HL := hide hL
      have Hl := hide hl
      clear hL hl
      go_upto_if 20 with fail
      go_cut [8] (fun s8 wx => s8 = .int .i64 ((fallN keep i f : Nat) : Int) ∧ ∃ nq, wx = wr.drewN nq)
      case first =>
        by_cases him : i < m
        · have him' : (i : Int) < m := by omega
          have hN : fallN keep i f = (min (max (keep.getD i 0) 0) ((len : Int) - last)).toNat := by
            unfold fallN
            rw [if_pos (by rw [unhide HM]; exact him), unhide HL, unhide Hl]
          have hq : ∃ p, ko = some p ∧ wr.cell? (p.add i) = some (.int .i64 (keep.getD i 0)) := by
            rcases (unhide HK).mod (unhide HMOD) (unhide HKB) with ⟨_, h0⟩ | ⟨p, c, hp, hq⟩
            · omega
            · injection hp with a1 _ _
              exact ⟨p, a1, hq i _ (by simp [unhide HM, him])⟩
          obtain ⟨p, rfl, hq⟩ := hq
          generalize keep.getD i 0 = q at hq hN
          rcases Int.lt_or_le 0 q with hq0 | hq0
          · rcases Int.lt_or_le ((len : Int) - last) q with hq1 | hq1
            · have hN' : fallN keep i f = len - last := by omega
              have HN := hide hN'
              clear hN hN'
              go_wp2
              go_quiet (fail)
              all_goals go_wp2
              all_goals go_meet
              all_goals exact ⟨by rw [unhide HN]; congr 1; omega, _, rfl⟩
            · have hN' : ((fallN keep i f : Nat) : Int) = q := by omega
              have HN := hide hN'
              clear hN hN'
              go_wp2
              go_quiet (fail)
              all_goals go_wp2
              all_goals go_meet
              all_goals exact ⟨by rw [unhide HN], _, rfl⟩
          · have hN' : fallN keep i f = 0 := by omega
            have HN := hide hN'
            clear hN hN'
            go_wp2
            go_quiet (fail)
            all_goals go_wp2
            all_goals go_meet
            all_goals exact ⟨by rw [unhide HN]; first | rfl | (congr 1; omega), _, rfl⟩
        · have him' : ¬ (i : Int) < m := by omega
          have hN : fallN keep i f = 0 := by
            unfold fallN
            rw [if_neg (by rw [unhide HM]; exact him)]
          have HN := hide hN
          clear hN
          go_wp2
          all_goals go_meet
          all_goals exact ⟨by rw [unhide HN]; rfl, 0, rfl⟩
      case rest =>
        obtain ⟨rfl, nq, rfl⟩ := hcut
        have hle : last + fallN keep i f ≤ len := by have := fallN_le keep i f (by rw [unhide HL, unhide Hl]; exact hll); rw [unhide HL, unhide Hl] at this; exact this
        generalize hn : fallN keep i f = n at *
        have HN := hide hn
        clear hn
        by_cases hn0 : n = 0
        · subst hn0
          rw [show (((0 : Nat) : Int)) = 0 from rfl]
          go_wp2_with fail
          go_region
          go_wp2
          have st := fall_step0 (m := last) (ao := ao) (cap := cap) ((unhide HOK).mod0 ((Mod.refl No wr).drewN (nq + 1))) i hi4 (by rw [unhide EF, unhide HL]; exact unhide HV) (by rw [unhide EF, unhide HL]; exact hll)
          have ex : f.xs.take last = fallXs keep i s f := by unfold fallXs; rw [if_pos (unhide HN), unhide HN, unhide Hl]; rfl
          have el : last = (fallXs keep i s f).length := by rw [← ex, List.length_take, unhide HL]; omega
          refine ⟨?_, by simp [intOf]; omega⟩
          rw [unhide EF] at st
          exact fall_close hi4 (unhide HMOD) (unhide HA) (unhide HBB) (unhide HR) (unhide HF) _ (by rw [unhide HF0]; exact ex) (by rw [unhide HF0]; exact el) ⟨st.1, ((Mod.refl S wr).drewN _).trans st.2⟩
        · obtain ⟨k, hk⟩ : ∃ k, n = k + 1 := ⟨n - 1, by omega⟩
          subst hk
          have gg : ∃ g x, ao = some ⟨g, 0, none⟩ ∧ g ≠ b ∧ wr.cell? ⟨g, last + k, none⟩ = some (.int .u8 x) ∧ wr.frozen? ⟨g, last + k, none⟩ = false ∧ f.xs[last + k]? = some (.int .u8 x) := by
            have hfile := unhide HFILE
            have ho := hfile.owns
            have hlt : last + k < f.xs.length := by rw [unhide HL]; omega
            rcases ho.2 with ⟨h1, h2⟩ | ⟨g, c, cur, hv2, _, hg2, _⟩
            · omega
            · obtain ⟨x, hx, _, _⟩ := hfile.bytes (f.xs[last + k]) (List.getElem_mem hlt)
              have hx' : f.xs[last + k]? = some (.int .u8 x) := by rw [List.getElem?_eq_getElem hlt, hx]
              have hc := ho.cells (g := g) (by rw [hv2]; rfl) (last + k) (.int .u8 x) hx'
              have ea : (⟨g, 0, none⟩ : Addr).add (last + k) = ⟨g, last + k, none⟩ := by unfold Addr.add; split <;> simp_all
              rw [ea] at hc
              rw [unhide HV] at hv2
              injection hv2 with a1 _ _
              refine ⟨g, x, a1, ?_, hc, Has.frozen (T := 5) hg2 _, hx'⟩
              rintro rfl
              exact hfile.ne (unhide HBLK) (by rw [unhide HV, a1]; rfl)
          obtain ⟨g, x, rfl, hgb, hx, hfx, hxx⟩ := gg
          have HXX := hide hxx
          clear hxx
          go_wp2_with fail
          go_region
          go_wp2
          go_region
          go_wp2
          have hw := wf_bits BinOp.xor .u8 x s
          simp [Lit.wf, IntKind.min, IntKind.max, IntKind.signed, IntKind.bits] at hw
          have st := fall_step1 (k := last + k) (g := g) (cap := cap) ((unhide HOK).mod0 ((Mod.refl No wr).drewN (nq + 1))) i hi4 (by rw [unhide EF, unhide HL]; exact unhide HV) (by rw [unhide EF, unhide HL]; omega) (bits BinOp.xor .u8 x s) ⟨by omega, by omega⟩
          have ex : (f.xs.take (last + k + 1)).set (last + k) (.int .u8 (bits BinOp.xor .u8 x s)) = fallXs keep i s f := by
            unfold fallXs
            rw [if_neg (by rw [unhide HN]; omega), unhide HN, unhide Hl, show last + (k + 1) - 1 = last + k from by omega]
            have hgd : f.xs.getD (last + k) undef = .int .u8 x := by simp [List.getD, unhide HXX]
            rw [hgd]
            rfl
          have el : last + k + 1 = (fallXs keep i s f).length := by rw [← ex, List.length_set, List.length_take, unhide HL]; omega
          refine ⟨?_, by simp [intOf]; omega⟩
          rw [unhide EF] at st
          have hcl := fall_close hi4 (unhide HMOD) (unhide HA) (unhide HBB) (unhide HR) (unhide HF) _ (by rw [unhide HF0]; exact ex) (by rw [unhide HF0]; exact el) ⟨st.1, ((Mod.refl S wr).drewN _).trans st.2⟩
          have e1 : last + k + 1 = last + (k + 1) := by omega
          have e2 : ((last + (k + 1) : Nat) : Int) = (last : Int) + ((k : Int) + 1) := by omega
          rw [e1, e2] at hcl
          obtain ⟨i', t2, r1, r2, r3, r4, r5⟩ := hcl
          exact ⟨i', t2, r1, r2, r3.mod0 (Mod.refl No _).drew, r4.drew, r5⟩
    · obtain rfl : i = 4 := by omega
      have h9 := (unhide HOK).has.cell 9
      have hz := (unhide HOK).has.frozen 9
      rw [show t'.cells[9]? = some (.int .i64 t'.fuse) from rfl] at h9
      go_wp2
      go_end0
      refine ⟨rfl, { t' with fuse := -1 }, (unhide HOK).fuse (-1), (unhide HMOD).setCell (p := ⟨b, 9, none⟩) (.inl (unhide HOK).inn) _, fun i hi => ?_, unhide HR, rfl⟩
      rw [get_fuse]
      exact (unhide HA) i hi
end Go.Proofs.Ytlcbemcamdafjaa
