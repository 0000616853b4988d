import Derived.Test.YthhibagcpjeihaaGTape3ToTape5
import Derived.Deep.DeepCutAuto
import Derived.OpenShut
/- The fall. -/
namespace Go.Proofs.Ythhibagcpjeihaa
open Go.RowKit
set_option linter.unusedVariables false
set_option linter.unusedSimpArgs false
set_option maxRecDepth 100000

/-- How many bytes that were not synced last. -/
def fallN (keep : List Int) (i : Nat) (f : TFile) : Nat := if i < keep.length then (min (max (keep.getD i 0) 0) ((f.xs.length : Int) - f.last)).toNat else 0

theorem fallN_le (keep : List Int) (i : Nat) (f : TFile) (h : f.last ≤ f.xs.length) : f.last + fallN keep i f ≤ f.xs.length := by
  unfold fallN
  split
  · omega
  · omega

/-- A byte, spoilt. -/
def spoilt (s : Int) : Value → Value
  | .int .u8 x => .int .u8 (bits BinOp.xor .u8 x s)
  | v => v

/-- What is left of a file's bytes. -/
def fallXs (keep : List Int) (i : Nat) (s : Int) (f : TFile) : List Value :=
  if fallN keep i f = 0 then f.xs.take (f.last + fallN keep i f) else (f.xs.take (f.last + fallN keep i f)).set (f.last + fallN keep i f - 1) (spoilt s (f.xs.getD (f.last + fallN keep i f - 1) undef))

theorem fallXs_len (keep : List Int) (i : Nat) (s : Int) (f : TFile) (h : f.last ≤ f.xs.length) : (fallXs keep i s f).length = f.last + fallN keep i f := by
  have := fallN_le keep i f h
  unfold fallXs
  split <;> simp <;> omega

theorem fallXs_bytes (keep : List Int) (i : Nat) (s : Int) (f : TFile) (h : f.last ≤ f.xs.length) (hb : ∀ x ∈ f.xs, ∃ n : Int, x = .int .u8 n ∧ 0 ≤ n ∧ n < 256) :
    ∀ x ∈ fallXs keep i s f, ∃ n : Int, x = .int .u8 n ∧ 0 ≤ n ∧ n < 256 := by
  have hle := fallN_le keep i f h
  intro x hx
  unfold fallXs at hx
  split at hx
  · exact hb x (List.mem_of_mem_take hx)
  · rcases List.mem_or_eq_of_mem_set hx with h1 | h1
    · exact hb x (List.mem_of_mem_take h1)
    · have hlt : f.last + fallN keep i f - 1 < f.xs.length := by omega
      obtain ⟨n, hn, _, _⟩ := hb (f.xs[f.last + fallN keep i f - 1]) (List.getElem_mem hlt)
      have hg : f.xs.getD (f.last + fallN keep i f - 1) undef = .int .u8 n := by simp [List.getD, List.getElem?_eq_getElem hlt, hn]
      rw [hg] at h1
      subst h1
      have hw := wf_bits BinOp.xor .u8 n s
      simp [Lit.wf, IntKind.min, IntKind.max, IntKind.signed, IntKind.bits] at hw
      exact ⟨_, rfl, by omega, by omega⟩

theorem owns_take {w : World} {e : TypeId} {ao : Option Addr} {n cap m : Nat} {xs : List Value} (h : w.ownsRow 0 e 1 (.slice ao n cap) n xs) (hm : m ≤ n) : w.ownsRow 0 e 1 (.slice ao m cap) m (xs.take m) := by
  have hl := h.1
  refine ⟨by rw [List.length_take]; omega, ?_⟩
  rcases h.2 with ⟨h1, h2⟩ | ⟨g, c, cur, hv, hb, hg, hnc, hcm, hcs, ht⟩
  · injection h1 with a1 a2 a3
    subst a1 a3
    exact .inl ⟨by rw [show m = 0 by omega], by omega⟩
  · injection hv with a1 a2 a3
    subst a1 a3
    refine .inr ⟨g, cap, cur, rfl, hb, hg, by omega, hcm, hcs, ?_⟩
    rw [← ht, List.take_take, Nat.mul_one, Nat.mul_one, Nat.min_eq_left hm]

theorem owns_set {w : World} {e : TypeId} {g n cap j : Nat} {xs : List Value} (h : w.ownsRow 0 e 1 (.slice (some ⟨g, 0, none⟩) n cap) n xs) (hj : j < n) (u : Value) :
    (w.setCell ⟨g, j, none⟩ u).ownsRow 0 e 1 (.slice (some ⟨g, 0, none⟩) n cap) n (xs.set j u) := by
  refine ⟨by rw [List.length_set]; exact h.1, ?_⟩
  rcases h.2 with ⟨h1, h2⟩ | ⟨g', c, cur, hv, hb, hg, hnc, hcm, hcs, ht⟩
  · injection h1 with a1 a2 a3
    cases a1
  · injection hv with a1 a2 a3
    subst a3
    injection a1 with a1
    injection a1 with a1
    subst a1
    refine .inr ⟨g, cap, cur.setIfInBounds j u, rfl, hb, (Has.set (T := e) hg j u), hnc, hcm, by simpa using hcs, ?_⟩
    rw [← ht, Array.toList_setIfInBounds, List.take_set]


theorem fall_step0 {S : Nat → Prop} {w : World} {b : Nat} {t : TTape} (h : t.ok S w b) (i : Nat) (hi : i < 4) {ao : Option Addr} {cap m : Nat} (hv : (t.get i).v = .slice ao (t.get i).xs.length cap) (hm : m ≤ (t.get i).xs.length) :
    (t.put ⟨.slice ao m cap, (t.get i).xs.take m, m⟩ i).ok S ((w.setCell ⟨b, i * 2, none⟩ (.slice ao m cap)).setCell ⟨b, i * 2 + 1, none⟩ (.int .i64 m)) b ∧
      Mod S w ((w.setCell ⟨b, i * 2, none⟩ (.slice ao m cap)).setCell ⟨b, i * 2 + 1, none⟩ (.int .i64 m)) := by
  have hg := h.get i hi
  have ho := hg.owns
  rw [hv] at ho
  have ho' := owns_take ho hm
  have hne : (Value.slice ao m cap).ownBlock ≠ some b := by
    have := hg.ne h.has
    rw [hv] at this
    cases ao <;> simp_all [Value.ownBlock]
  have hst : ∀ k, (Value.slice ao m cap).ownBlock = some k → (t.get i).v.ownBlock = some k := fun k hk => by
    rw [hv]
    cases ao <;> simp_all [Value.ownBlock]
  have hml : m = ((t.get i).xs.take m).length := by rw [List.length_take]; omega
  refine ⟨h.put i hi _ (((Mod.refl _ w).setCell (p := ⟨b, i * 2, none⟩) (.inl (.inl rfl)) _).setCell (p := ⟨b, i * 2 + 1, none⟩) (.inl (.inl rfl)) _) ?_ ?_ (fun _ x => x) (fun k hk => .inl (hst k hk)), ?_⟩
  · have := (h.has.set (i * 2) (.slice ao m cap)).set (i * 2 + 1) (.int .i64 m)
    rwa [cells_put _ _ ((t.get i).xs.take m) _ i hi] at this
  · refine ⟨?_, by rw [← hml]; exact Nat.le_refl _, by rw [← hml]; have := hg.len; omega, fun x hx => hg.bytes x (List.mem_of_mem_take hx), fun k hk => hg.inn k (hst k hk)⟩
    rw [← hml]
    exact owns_setCell_ne (owns_setCell_ne ho' hne _) hne _
  · exact ((Mod.refl _ w).setCell (p := ⟨b, i * 2, none⟩) (.inl h.inn) _).setCell (p := ⟨b, i * 2 + 1, none⟩) (.inl h.inn) _

theorem setCell_comm (w : World) {a b : Addr} (h : a.block ≠ b.block) (u v : Value) : (w.setCell a u).setCell b v = (w.setCell b v).setCell a u := by
  unfold World.setCell
  congr 1
  apply Array.ext_getElem?
  intro k
  simp only [Array.getElem?_modify]
  by_cases h1 : b.block = k
  · subst h1
    simp [h]
  · by_cases h2 : a.block = k
    · subst h2
      simp [h1]
    · simp [h1, h2]

theorem fall_step1 {S : Nat → Prop} {w : World} {b : Nat} {t : TTape} (h : t.ok S w b) (i : Nat) (hi : i < 4) {g cap k : Nat} (hv : (t.get i).v = .slice (some ⟨g, 0, none⟩) (t.get i).xs.length cap) (hm : k + 1 ≤ (t.get i).xs.length)
    (x : Int) (hx : 0 ≤ x ∧ x < 256) :
    (t.put ⟨.slice (some ⟨g, 0, none⟩) (k + 1) cap, ((t.get i).xs.take (k + 1)).set k (.int .u8 x), k + 1⟩ i).ok S
        (((w.setCell ⟨b, i * 2, none⟩ (.slice (some ⟨g, 0, none⟩) (k + 1) cap)).setCell ⟨g, k, none⟩ (.int .u8 x)).setCell ⟨b, i * 2 + 1, none⟩ (.int .i64 (k + 1 : Nat))) b ∧
      Mod S w (((w.setCell ⟨b, i * 2, none⟩ (.slice (some ⟨g, 0, none⟩) (k + 1) cap)).setCell ⟨g, k, none⟩ (.int .u8 x)).setCell ⟨b, i * 2 + 1, none⟩ (.int .i64 (k + 1 : Nat))) := by
  have hg := h.get i hi
  have ho := hg.owns
  have hgb : g ≠ b := by
    have := hg.ne h.has
    rw [hv] at this
    simpa [Value.ownBlock] using this
  have hgS : S g := hg.inn g (by rw [hv]; rfl)
  rw [hv] at ho
  have ho' := owns_take ho hm
  have hne : (Value.slice (some ⟨g, 0, none⟩) (k + 1) cap).ownBlock ≠ some b := by simpa [Value.ownBlock] using hgb
  have ho2 := owns_set (owns_setCell_ne (a := ⟨b, i * 2, none⟩) ho' hne (.slice (some ⟨g, 0, none⟩) (k + 1) cap)) (Nat.lt_succ_self k) (.int .u8 x)
  have hml : k + 1 = (((t.get i).xs.take (k + 1)).set k (.int .u8 x)).length := by rw [List.length_set, List.length_take]; omega
  have hT : Touch b (t.get i) g := .inr (by rw [hv]; rfl)
  refine ⟨h.put i hi _ ((((Mod.refl _ w).setCell (p := ⟨b, i * 2, none⟩) (.inl (.inl rfl)) _).setCell (p := ⟨g, k, none⟩) (.inl hT) _).setCell (p := ⟨b, i * 2 + 1, none⟩) (.inl (.inl rfl)) _) ?_ ?_ (fun _ x => x)
    (fun k hk => .inl (by rw [hv]; simpa [Value.ownBlock] using hk)), ?_⟩
  · have := ((h.has.set (i * 2) (.slice (some ⟨g, 0, none⟩) (k + 1) cap)).set_ne (a := ⟨g, k, none⟩) (fun e => hgb e.symm) (.int .u8 x)).set (i * 2 + 1) (.int .i64 (k + 1 : Nat))
    rwa [cells_put _ _ (((t.get i).xs.take (k + 1)).set k (.int .u8 x)) _ i hi] at this
  · refine ⟨?_, by rw [← hml]; exact Nat.le_refl _, by rw [← hml]; have := hg.len; omega, fun y hy => ?_, fun j hj => ?_⟩
    · rw [← hml]
      exact owns_setCell_ne ho2 hne _
    · rcases List.mem_or_eq_of_mem_set hy with h1 | h1
      · exact hg.bytes y (List.mem_of_mem_take h1)
      · exact ⟨x, h1, hx⟩
    · simp [Value.ownBlock] at hj
      subst hj
      exact hgS
  · exact (((Mod.refl _ w).setCell (p := ⟨b, i * 2, none⟩) (.inl h.inn) _).setCell (p := ⟨g, k, none⟩) (.inl hgS) _).setCell (p := ⟨b, i * 2 + 1, none⟩) (.inl h.inn) _

theorem fall_close {S : Nat → Prop} {w wr w' : World} {b i : Nat} {t t' : TTape} {keep : List Int} {s : Int} (hi : i < 4) (hmod : Mod S w wr)
    (hA : ∀ j, j < i → (t'.get j).xs = fallXs keep j s (t.get j) ∧ (t'.get j).last = (fallXs keep j s (t.get j)).length) (hB : ∀ j, i ≤ j → j < 4 → t'.get j = t.get j) (hr : t'.room = t.room) (hf : t'.fuse = t.fuse)
    (g : TFile) (hx : g.xs = fallXs keep i s (t.get i)) (hl : g.last = (fallXs keep i s (t.get i)).length) (h : (t'.put g i).ok S w' b ∧ Mod S wr w') :
    ∃ (i' : Nat) (t2 : TTape), i' ≤ 4 ∧ Value.int IntKind.i64 ((i : Int) + 1) = Value.int .i64 (i' : Int) ∧ t2.ok S w' b ∧ Mod S w w' ∧
      (∀ j, j < i' → (t2.get j).xs = fallXs keep j s (t.get j) ∧ (t2.get j).last = (fallXs keep j s (t.get j)).length) ∧ (∀ j, i' ≤ j → j < 4 → t2.get j = t.get j) ∧ t2.room = t.room ∧ t2.fuse = t.fuse := by
  refine ⟨i + 1, t'.put g i, by omega, rfl, h.1, hmod.trans h.2, fun j hj => ?_, fun j hj hj4 => ?_, ?_, ?_⟩
  · rw [get_put _ _ _ _ hi (by omega)]
    split
    · rename_i e; subst e; exact ⟨hx, hl⟩
    · exact hA j (by omega)
  · rw [get_put _ _ _ _ hi hj4, if_neg (by omega)]
    exact hB j (by omega) hj4
  · rw [(put_room _ _ _).1, hr]
  · rw [(put_room _ _ _).2, hf]

theorem fall_loop (b : Nat) (keep : List Int) (t : TTape) (kc : Nat) (ko : Option Addr) (s : Int) (S : Nat → Prop) (w : World) (h : t.ok S w b)
    (hm2 : keep.length ≤ 17592186044416) (hk : Reads w (.slice ko keep.length kc) keep.length (keep.map (Value.int .i64))) (hkb : ∀ k, (Value.slice ko keep.length kc).ownBlock = some k → ¬ S k) :
    Calls Try.prog 31 #[.pointer (some ⟨b, 0, none⟩), .slice ko keep.length kc, .int .u8 s] w fun e w' => e = .returned (.tuple #[]) ∧
      ∃ t' : TTape, t'.ok S w' b ∧ Mod S w w' ∧ (∀ i, i < 4 → (t'.get i).xs = fallXs keep i s (t.get i) ∧ (t'.get i).last = (fallXs keep i s (t.get i)).length) ∧ t'.room = t.room ∧ t'.fuse = -1 := by
  have H := hide h
  have HK := hide hk
  have HKB := hide hkb
  clear hk hkb h
  generalize hm : keep.length = m at *
  have HM := hide hm
  clear hm
  go_enter Try.func31, Try.ntmps31
  go_wp2
  go_loopw [9] (fun c wr => ∃ (i : Nat) (t' : TTape), i ≤ 4 ∧ c = .int .i64 i ∧ t'.ok S wr b ∧ Mod S w wr ∧
      (∀ j, j < i → (t'.get j).xs = fallXs keep j s (t.get j) ∧ (t'.get j).last = (fallXs keep j s (t.get j)).length) ∧ (∀ j, i ≤ j → j < 4 → t'.get j = t.get j) ∧ t'.room = t.room ∧ t'.fuse = t.fuse) (fun i _ => 4 - (intOf i).toNat)
  case atStart => exact ⟨0, t, by omega, rfl, unhide H, Mod.refl _ _, fun j hj => by omega, fun j _ _ => rfl, rfl, rfl⟩
  case round =>
    obtain ⟨i, t', hi, rfl, hok, hmod, hA, hB, hr, hf⟩ := hrel
    have HA := hide hA
    have HBB := hide hB
    have HR := hide hr
    have HF := hide hf
    have HMOD := hide hmod
    have HOK := hide hok
    clear hA hB hr hf hmod hok
    by_cases hi4 : i < 4
    · have hi' : (i : Int) < 4 := by omega
      have ef : t'.get i = t.get i := (unhide HBB) i (Nat.le_refl _) hi4
      have hfile := (unhide HOK).get i hi4
      rw [ef] at hfile
      have HFILE := hide hfile
      have h0 := (unhide HOK).has.cell (i * 2)
      have h1 := (unhide HOK).has.cell (i * 2 + 1)
      have hz := (unhide HOK).has.frozen
      have hbb := (unhide HOK).has
      have HBLK := hide hbb
      clear hbb
      rw [(cells_v _ i hi4).1, ef] at h0
      rw [(cells_v _ i hi4).2, ef] at h1
      have EF := hide ef
      clear ef
      generalize hF : t.get i = f at *
      have HF0 := hide hF
      clear hF
      obtain ⟨ao, cap, hv, hlen⟩ := slice_form hfile
      have hcap : f.xs.length ≤ cap := by
        rcases hfile.owns.2 with ⟨h1, h2⟩ | ⟨g, c, cur, hv2, _, _, hnc, _⟩
        · omega
        · rw [hv] at hv2; injection hv2 with _ _ a3; omega
      rw [hv] at h0
      have HV := hide hv
      have hll := hfile.last
      clear hv hfile
      generalize hL : f.xs.length = len at *
      generalize hl : f.last = last at *
      have HL := hide hL
      have Hl := hide hl
      clear hL hl
      go_upto_if 20 with fail
      go_cut [8] (fun s8 wx => s8 = .int .i64 ((fallN keep i f : Nat) : Int) ∧ ∃ nq, wx = wr.drewN nq)
      case first =>
        by_cases him : i < m
        · have him' : (i : Int) < m := by omega
          have hN : fallN keep i f = (min (max (keep.getD i 0) 0) ((len : Int) - last)).toNat := by
            unfold fallN
            rw [if_pos (by rw [unhide HM]; exact him), unhide HL, unhide Hl]
          have hq : ∃ p, ko = some p ∧ wr.cell? (p.add i) = some (.int .i64 (keep.getD i 0)) := by
            rcases (unhide HK).mod (unhide HMOD) (unhide HKB) with ⟨_, h0⟩ | ⟨p, c, hp, hq⟩
            · omega
            · injection hp with a1 _ _
              exact ⟨p, a1, hq i _ (by simp [unhide HM, him])⟩
          obtain ⟨p, rfl, hq⟩ := hq
          generalize keep.getD i 0 = q at hq hN
          rcases Int.lt_or_le 0 q with hq0 | hq0
          · rcases Int.lt_or_le ((len : Int) - last) q with hq1 | hq1
            · have hN' : fallN keep i f = len - last := by omega
              have HN := hide hN'
              clear hN hN'
              go_wp2
              go_quiet (fail)
              all_goals go_wp2
              all_goals go_meet
              all_goals exact ⟨by rw [unhide HN]; congr 1; omega, _, rfl⟩
            · have hN' : ((fallN keep i f : Nat) : Int) = q := by omega
              have HN := hide hN'
              clear hN hN'
              go_wp2
              go_quiet (fail)
              all_goals go_wp2
              all_goals go_meet
              all_goals exact ⟨by rw [unhide HN], _, rfl⟩
          · have hN' : fallN keep i f = 0 := by omega
            have HN := hide hN'
            clear hN hN'
            go_wp2
            go_quiet (fail)
            all_goals go_wp2
            all_goals go_meet
            all_goals exact ⟨by rw [unhide HN]; first | rfl | (congr 1; omega), _, rfl⟩
        · have him' : ¬ (i : Int) < m := by omega
          have hN : fallN keep i f = 0 := by
            unfold fallN
            rw [if_neg (by rw [unhide HM]; exact him)]
          have HN := hide hN
          clear hN
          go_wp2
          all_goals go_meet
          all_goals exact ⟨by rw [unhide HN]; rfl, 0, rfl⟩
      case rest =>
        obtain ⟨rfl, nq, rfl⟩ := hcut
        have hle : last + fallN keep i f ≤ len := by have := fallN_le keep i f (by rw [unhide HL, unhide Hl]; exact hll); rw [unhide HL, unhide Hl] at this; exact this
        generalize hn : fallN keep i f = n at *
        have HN := hide hn
        clear hn
        by_cases hn0 : n = 0
        · subst hn0
          rw [show (((0 : Nat) : Int)) = 0 from rfl]
          go_wp2_with fail
          go_region
          go_wp2
          have st := fall_step0 (m := last) (ao := ao) (cap := cap) ((unhide HOK).mod0 ((Mod.refl No wr).drewN (nq + 1))) i hi4 (by rw [unhide EF, unhide HL]; exact unhide HV) (by rw [unhide EF, unhide HL]; exact hll)
          have ex : f.xs.take last = fallXs keep i s f := by unfold fallXs; rw [if_pos (unhide HN), unhide HN, unhide Hl]; rfl
          have el : last = (fallXs keep i s f).length := by rw [← ex, List.length_take, unhide HL]; omega
          refine ⟨?_, by simp [intOf]; omega⟩
          rw [unhide EF] at st
          exact fall_close hi4 (unhide HMOD) (unhide HA) (unhide HBB) (unhide HR) (unhide HF) _ (by rw [unhide HF0]; exact ex) (by rw [unhide HF0]; exact el) ⟨st.1, ((Mod.refl S wr).drewN _).trans st.2⟩
        · obtain ⟨k, hk⟩ : ∃ k, n = k + 1 := ⟨n - 1, by omega⟩
          subst hk
          have gg : ∃ g x, ao = some ⟨g, 0, none⟩ ∧ g ≠ b ∧ wr.cell? ⟨g, last + k, none⟩ = some (.int .u8 x) ∧ wr.frozen? ⟨g, last + k, none⟩ = false ∧ f.xs[last + k]? = some (.int .u8 x) := by
            have hfile := unhide HFILE
            have ho := hfile.owns
            have hlt : last + k < f.xs.length := by rw [unhide HL]; omega
            rcases ho.2 with ⟨h1, h2⟩ | ⟨g, c, cur, hv2, _, hg2, _⟩
            · omega
            · obtain ⟨x, hx, _, _⟩ := hfile.bytes (f.xs[last + k]) (List.getElem_mem hlt)
              have hx' : f.xs[last + k]? = some (.int .u8 x) := by rw [List.getElem?_eq_getElem hlt, hx]
              have hc := ho.cells (g := g) (by rw [hv2]; rfl) (last + k) (.int .u8 x) hx'
              have ea : (⟨g, 0, none⟩ : Addr).add (last + k) = ⟨g, last + k, none⟩ := by unfold Addr.add; split <;> simp_all
              rw [ea] at hc
              rw [unhide HV] at hv2
              injection hv2 with a1 _ _
              refine ⟨g, x, a1, ?_, hc, Has.frozen (T := 5) hg2 _, hx'⟩
              rintro rfl
              exact hfile.ne (unhide HBLK) (by rw [unhide HV, a1]; rfl)
          obtain ⟨g, x, rfl, hgb, hx, hfx, hxx⟩ := gg
          have HXX := hide hxx
          clear hxx
          go_wp2_with fail
          go_region
          go_wp2
          go_region
          go_wp2
          have hw := wf_bits BinOp.xor .u8 x s
          simp [Lit.wf, IntKind.min, IntKind.max, IntKind.signed, IntKind.bits] at hw
          have st := fall_step1 (k := last + k) (g := g) (cap := cap) ((unhide HOK).mod0 ((Mod.refl No wr).drewN (nq + 1))) i hi4 (by rw [unhide EF, unhide HL]; exact unhide HV) (by rw [unhide EF, unhide HL]; omega) (bits BinOp.xor .u8 x s) ⟨by omega, by omega⟩
          have ex : (f.xs.take (last + k + 1)).set (last + k) (.int .u8 (bits BinOp.xor .u8 x s)) = fallXs keep i s f := by
            unfold fallXs
            rw [if_neg (by rw [unhide HN]; omega), unhide HN, unhide Hl, show last + (k + 1) - 1 = last + k from by omega]
            have hgd : f.xs.getD (last + k) undef = .int .u8 x := by simp [List.getD, unhide HXX]
            rw [hgd]
            rfl
          have el : last + k + 1 = (fallXs keep i s f).length := by rw [← ex, List.length_set, List.length_take, unhide HL]; omega
          refine ⟨?_, by simp [intOf]; omega⟩
          rw [unhide EF] at st
          have hcl := fall_close hi4 (unhide HMOD) (unhide HA) (unhide HBB) (unhide HR) (unhide HF) _ (by rw [unhide HF0]; exact ex) (by rw [unhide HF0]; exact el) ⟨st.1, ((Mod.refl S wr).drewN _).trans st.2⟩
          have e1 : last + k + 1 = last + (k + 1) := by omega
          have e2 : ((last + (k + 1) : Nat) : Int) = (last : Int) + ((k : Int) + 1) := by omega
          rw [e1, e2] at hcl
          obtain ⟨i', t2, r1, r2, r3, r4, r5⟩ := hcl
          exact ⟨i', t2, r1, r2, r3.mod0 (Mod.refl No _).drew, r4.drew, r5⟩
    · obtain rfl : i = 4 := by omega
      have h9 := (unhide HOK).has.cell 9
      have hz := (unhide HOK).has.frozen 9
      rw [show t'.cells[9]? = some (.int .i64 t'.fuse) from rfl] at h9
      go_wp2
      go_end0
      refine ⟨rfl, { t' with fuse := -1 }, (unhide HOK).fuse (-1), (unhide HMOD).setCell (p := ⟨b, 9, none⟩) (.inl (unhide HOK).inn) _, fun i hi => ?_, unhide HR, rfl⟩
      rw [get_fuse]
      exact (unhide HA) i hi
end Go.Proofs.Ythhibagcpjeihaa
/- The tape's own test: a script of its methods, each by its contract. -/
namespace Go.Proofs.Ythhibagcpjeihaa
open Go.RowKit
set_option linter.unusedVariables false
set_option linter.unusedSimpArgs false
set_option maxRecDepth 100000

/-- An empty file. -/
def nilF : TFile := ⟨.slice none 0 0, [], 0⟩
theorem nilF_ok (S : Nat → Prop) (w : World) : nilF.ok S w :=
  ⟨World.ownsRow_nil _ _ _ _, by simp [nilF], by simp [nilF], fun x hx => by simp [nilF] at hx, fun k hk => by simp [nilF, Value.ownBlock] at hk⟩
theorem nilF_apart : nilF.apart nilF := fun k hk => by simp [nilF, Value.ownBlock] at hk

theorem new_ok (w : World) (n : Int) : (⟨nilF, nilF, nilF, nilF, n, -1⟩ : TTape).ok (fun k => w.heap.size ≤ k) (w.alloc (.cells (⟨nilF, nilF, nilF, nilF, n, -1⟩ : TTape).cells 103)) w.heap.size :=
  ⟨Has.new _ _ _, Nat.le_refl _, nilF_ok _ _, nilF_ok _ _, nilF_ok _ _, nilF_ok _ _, nilF_apart, nilF_apart, nilF_apart, nilF_apart, nilF_apart, nilF_apart⟩

/-- A literal of bytes, just laid. -/
theorem lit_reads (w : World) (l : List Value) (T : TypeId) : Reads (w.alloc (.cells l.toArray T)) (.slice (some ⟨w.heap.size, 0, none⟩) l.length l.length) l.length l := by
  refine .inr ⟨⟨w.heap.size, 0, none⟩, _, rfl, fun j u hu => ?_⟩
  have h := (Has.new w l.toArray T).cell j
  have ea : (⟨w.heap.size, 0, none⟩ : Addr).add j = ⟨w.heap.size, j, none⟩ := by unfold Addr.add; split <;> simp_all
  rw [ea, h]
  simpa using hu

theorem bytes_ok (l : List Int) (h : l.all (fun n => decide (0 ≤ n ∧ n < 256)) = true) : ∀ x ∈ bytesOf l, ∃ n : Int, x = .int .u8 n ∧ 0 ≤ n ∧ n < 256 := fun x hx => by
  obtain ⟨n, hn, rfl⟩ := List.mem_map.1 hx
  have := List.all_eq_true.1 h n hn
  simp at this
  exact ⟨n, rfl, this.1, this.2⟩

theorem ap_yes (B b : Nat) (t : TTape) (i : Nat) (hi : i < 4) (w : World) (l : List Int) (n : Nat) (hn : l.length = n) (h : t.ok (fun k => B ≤ k) w b)
    (hl : l.all (fun n => decide (0 ≤ n ∧ n < 256)) = true)
    (hm : (t.get i).xs.length + n ≤ 17592186044416) (hroom : t.used + n ≤ t.room) (hf : -4611686018427387904 ≤ t.fuse ∧ t.fuse ≤ 4611686018427387904) (h0 : t.fuse ≠ 0) :
    Calls Try.prog 38 #[.pointer (some ⟨b, 0, none⟩), .int .i64 i, .slice (some ⟨w.heap.size, 0, none⟩) n n] (w.alloc (.cells (bytesOf l).toArray 5)) fun e w' => e = .returned (.bool true) ∧
      (∃ v', ({ t.put ⟨v', (t.get i).xs ++ bytesOf l, (t.get i).last⟩ i with fuse := burnt t.fuse } : TTape).ok (fun k => B ≤ k) w' b) ∧ Mod (fun k => B ≤ k) w w' := by
  subst hn
  have hlen : (bytesOf l).length = l.length := by simp [bytesOf]
  have hr := lit_reads w (bytesOf l) 5
  rw [hlen] at hr
  have hB : B ≤ w.heap.size := by have := h.has.lt; have := h.inn; omega
  have h' := h.mod0 ((Mod.refl No w).alloc (.cells (bytesOf l).toArray 5))
  refine (append_yes b t i hi _ _ h' (some ⟨w.heap.size, 0, none⟩) l.length l.length (bytesOf l) hr ?_ hlen (bytes_ok l hl) hm hroom hf h0).mono ?_
  · have := h.has.lt
    simp [Value.ownBlock]
    omega
  · rintro e w' ⟨rfl, ⟨v', hv⟩, hmod⟩
    refine ⟨rfl, ⟨v', hv.wide (fun k hk => ?_)⟩, ((Mod.refl _ w).alloc _).trans hmod⟩
    rcases hk with hk | hk
    · exact hk
    · simp at hk; omega

theorem ap_no (B b : Nat) (t : TTape) (i : Nat) (hi : i < 4) (w : World) (l : List Int) (n : Nat) (hn : l.length = n) (h : t.ok (fun k => B ≤ k) w b) (hm : n ≤ 17592186044416) (hno : t.room < t.used + n) :
    Calls Try.prog 38 #[.pointer (some ⟨b, 0, none⟩), .int .i64 i, .slice (some ⟨w.heap.size, 0, none⟩) n n] (w.alloc (.cells (bytesOf l).toArray 5)) fun e w' => e = .returned (.bool false) ∧
      t.ok (fun k => B ≤ k) w' b ∧ Mod (fun k => B ≤ k) w w' := by
  have h' := h.mod0 ((Mod.refl No w).alloc (.cells (bytesOf l).toArray 5))
  refine (append_no b t i hi _ _ h' (some ⟨w.heap.size, 0, none⟩) n n hm hno).mono ?_
  rintro e w' ⟨rfl, hmod⟩
  exact ⟨rfl, h'.mod0 hmod, ((Mod.refl _ w).alloc _).trans (hmod.mono (fun _ _ x => x.elim))⟩

/-- A file read, and held against a literal. -/
theorem is_lit (w : World) (v : Value) (l1 l2 : List Int) (n : Nat) (hn : l2.length = n) (h1 : w.ownsRow 0 5 1 v (bytesOf l1).length (bytesOf l1)) (b1 : l1.length ≤ 17592186044416) (b2 : l2.length ≤ 17592186044416) :
    Calls Try.prog 39 #[v, .slice (some ⟨w.heap.size, 0, none⟩) n n] (w.alloc (.cells (bytesOf l2).toArray 5)) fun e w' => e = .returned (.bool (decide (l1 = l2))) ∧ Mod No w w' := by
  subst hn
  have hl1 : (bytesOf l1).length = l1.length := by simp [bytesOf]
  have hl2 : (bytesOf l2).length = l2.length := by simp [bytesOf]
  rw [hl1] at h1
  refine (is_any _ v (.slice (some ⟨w.heap.size, 0, none⟩) l2.length l2.length) l1 l2 (h1.alloc _) ⟨by rw [hl2, Nat.mul_one], .inr ⟨w.heap.size, l2.length, (bytesOf l2).toArray, rfl, Nat.zero_le _, Has.new w _ _, Nat.le_refl _, by unfold maxLen; omega, by simp [hl2], by rw [List.toList_toArray, Nat.mul_one, ← hl2]; exact List.take_length⟩⟩ b1 b2).mono ?_
  rintro e w' ⟨rfl, hm⟩
  exact ⟨rfl, ((Mod.refl _ w).alloc _).trans hm⟩
theorem is_nil (w : World) (v : Value) (l1 : List Int) (h1 : w.ownsRow 0 5 1 v (bytesOf l1).length (bytesOf l1)) (b1 : l1.length ≤ 17592186044416) :
    Calls Try.prog 39 #[v, .slice none 0 0] w fun e w' => e = .returned (.bool (decide (l1 = []))) ∧ Mod No w w' := by
  have hl1 : (bytesOf l1).length = l1.length := by simp [bytesOf]
  rw [hl1] at h1
  exact is_any _ v (.slice none 0 0) l1 [] h1 (World.ownsRow_nil _ _ _ _) b1 (by simp)

theorem Mod.to_no {B : Nat} {w w' : World} (h : Mod (fun k => B ≤ k) w w') (hB : w.heap.size ≤ B) : Mod No w w' := h.mono (fun k hk hb => by have hb' : B ≤ k := hb; omega)

theorem ap_dead (b : Nat) (S : Nat → Prop) (t : TTape) (i : Nat) (hi : i < 4) (w : World) (l : List Int) (n : Nat) (h : t.ok S w b) (hm : n ≤ 17592186044416) (hroom : t.used + n ≤ t.room) (h0 : t.fuse = 0) :
    Calls Try.prog 38 #[.pointer (some ⟨b, 0, none⟩), .int .i64 i, .slice (some ⟨w.heap.size, 0, none⟩) n n] (w.alloc (.cells (bytesOf l).toArray 5)) fun e w' => e = .returned (.bool false) ∧ t.ok S w' b ∧ Mod S w w' := by
  have h' := h.mod0 ((Mod.refl No w).alloc (.cells (bytesOf l).toArray 5))
  refine (append_dead b t i hi S _ h' (some ⟨w.heap.size, 0, none⟩) n n hm hroom h0).mono ?_
  rintro e w' ⟨rfl, hok, hmod⟩
  exact ⟨rfl, hok, ((Mod.refl _ w).alloc _).trans hmod⟩

theorem fallen0 (v : Value) : fallXs [2] 0 64 ⟨v, bytesOf [1, 2, 3, 4, 5], 2⟩ = bytesOf [1, 2, 3, 68] := by rfl
theorem fallen1 (v : Value) : fallXs [2] 1 64 ⟨v, bytesOf [6], 0⟩ = bytesOf [] := by rfl
theorem fallen2 : fallXs [2] 2 64 nilF = bytesOf [] := by rfl
theorem fallen3 : fallXs [2] 3 64 nilF = bytesOf [] := by rfl

set_option maxHeartbeats 4000000 in
theorem reel_any (w : World) : Calls Try.prog 13 #[] w fun e w' => e = .returned (.bool true) ∧ Mod No w w' := by
  go_enter Try.func13, Try.ntmps13
  go_wp2_with fail
  -- New
  refine (new_any 6 _).mono ?_
  rintro e w1 ⟨rfl, rfl⟩
  have h1 := new_ok w 6
  have hm1 : Mod (fun k => w.heap.size ≤ k) w (w.alloc (.cells (⟨nilF, nilF, nilF, nilF, 6, -1⟩ : TTape).cells 103)) := (Mod.refl _ _).alloc _
  generalize hW : w.alloc (.cells (⟨nilF, nilF, nilF, nilF, 6, -1⟩ : TTape).cells 103) = w1 at *
  rw [show w.alloc (.cells (⟨⟨.slice none 0 0, [], 0⟩, ⟨.slice none 0 0, [], 0⟩, ⟨.slice none 0 0, [], 0⟩, ⟨.slice none 0 0, [], 0⟩, 6, -1⟩ : TTape).cells 103) = w1 from hW]
  clear hW
  generalize hb : w.heap.size = b at *
  have HB := hide hb
  have M1 := hide hm1
  have H1 := hide h1
  clear hm1 hb h1
  go_wp2_with fail
  -- Append 0 [1, 2]
  have fz : (-4611686018427387904 : Int) ≤ -1 ∧ (-1 : Int) ≤ 4611686018427387904 := by decide
  have fz0 : (-1 : Int) ≠ 0 := by decide
  have FZ := hide fz
  have FZ0 := hide fz0
  clear fz fz0
  refine (ap_yes b b _ 0 (by omega) w1 [1, 2] 2 rfl (unhide H1) rfl (by decide) (by decide) (unhide FZ) (unhide FZ0)).mono ?_
  rintro e w2 ⟨rfl, ⟨v2, h2⟩, m2⟩
  have h2' : (⟨⟨v2, bytesOf [1, 2], 0⟩, nilF, nilF, nilF, 6, -1⟩ : TTape).ok (fun k => b ≤ k) w2 b := h2
  have H2 := hide h2'
  have M2 := hide ((unhide M1).trans m2)
  clear h2 h2' m2 H1 M1
  go_wp2_with fail
  -- Sync 0
  refine (sync_core b _ 0 (by omega) _ w2 (unhide H2) (unhide FZ) (unhide FZ0)).mono ?_
  rintro e w3 ⟨rfl, h3, m3⟩
  have h3' : (⟨⟨v2, bytesOf [1, 2], 2⟩, nilF, nilF, nilF, 6, -1⟩ : TTape).ok (fun k => b ≤ k) w3 b := h3
  have H3 := hide h3'
  have M3 := hide ((unhide M2).trans (m3.mono (fun k _ e => by rw [e]; exact Nat.le_refl _)))
  clear h3 h3' m3 H2 M2
  go_wp2_with fail
  -- Append 0 [3, 4, 5]
  refine (ap_yes b b _ 0 (by omega) w3 [3, 4, 5] 3 rfl (unhide H3) rfl (show 2 + 3 ≤ 17592186044416 by decide) (show ((2 : Nat) : Int) + ((3 : Nat) : Int) ≤ 6 by decide) (unhide FZ) (unhide FZ0)).mono ?_
  rintro e w4 ⟨rfl, ⟨v4, h4⟩, m4⟩
  have h4' : (⟨⟨v4, bytesOf [1, 2, 3, 4, 5], 2⟩, nilF, nilF, nilF, 6, -1⟩ : TTape).ok (fun k => b ≤ k) w4 b := h4
  have H4 := hide h4'
  have M4 := hide ((unhide M3).trans m4)
  clear h4 h4' m4 H3 M3
  go_wp2_with fail
  -- Append 1 [6, 7]: no room
  refine (ap_no b b _ 1 (by omega) w4 [6, 7] 2 rfl (unhide H4) (by decide) (show (6 : Int) < ((5 : Nat) : Int) + ((2 : Nat) : Int) by decide)).mono ?_
  rintro e w5 ⟨rfl, h5, m5⟩
  have H5 := hide h5
  have M5 := hide ((unhide M4).trans m5)
  clear h5 m5 H4 M4
  go_wp2_with fail
  -- Append 4 nil: no such file
  refine (append_bad b 4 (by decide) w5 none 0 0).mono ?_
  rintro e w5' ⟨rfl, rfl⟩
  go_wp2_with fail
  -- Append 1 [6]
  refine (ap_yes b b _ 1 (by omega) w5' [6] 1 rfl (unhide H5) rfl (show 0 + 1 ≤ 17592186044416 by decide) (show ((5 : Nat) : Int) + ((1 : Nat) : Int) ≤ 6 by decide) (unhide FZ) (unhide FZ0)).mono ?_
  rintro e w6 ⟨rfl, ⟨v6, h6⟩, m6⟩
  have h6' : (⟨⟨v4, bytesOf [1, 2, 3, 4, 5], 2⟩, ⟨v6, bytesOf [6], 0⟩, nilF, nilF, 6, -1⟩ : TTape).ok (fun k => b ≤ k) w6 b := h6
  have H6 := hide h6'
  have M6 := hide ((unhide M5).trans m6)
  clear h6 h6' m6 H5 M5
  go_wp2_with fail
  -- Read 0
  refine (read_any b _ 0 (by omega) _ w6 (unhide H6)).mono ?_
  rintro e w7 ⟨v7, rfl, o7, -, m7⟩
  have O7 := hide o7
  have H7 := hide ((unhide H6).mod0 m7)
  have M7 := hide ((unhide M6).trans (m7.mono (fun _ _ x => x.elim)))
  obtain ⟨a7, c7, hv7⟩ := slice_of_owns o7
  subst hv7
  clear o7 m7 H6 M6
  go_wp2_with fail
  refine (is_lit w7 _ [1, 2, 3, 4, 5] [1, 2, 3, 4, 5] 5 rfl (unhide O7) (by decide) (by decide)).mono ?_
  rintro e w8 ⟨rfl, m8⟩
  have H8 := hide ((unhide H7).mod0 m8)
  have M8 := hide ((unhide M7).trans (m8.mono (fun _ _ x => x.elim)))
  clear m8 H7 M7 O7
  rw [show decide ([(1 : Int), 2, 3, 4, 5] = [1, 2, 3, 4, 5]) = true from rfl]
  go_wp2_with fail
  -- Copy
  refine (copy_any b _ _ w8 (unhide H8)).mono ?_
  rintro e w9 ⟨g, rfl, hg, tc, hc, m9, htc, hroom, hfuse⟩
  have H9 := hide ((unhide H8).narrow.mod0 m9)
  have M9 := hide ((unhide M8).trans (m9.mono (fun _ _ x => x.elim)))
  have HC := hide hc
  have HTC := hide htc
  have GG := hide hg
  clear m9 H8 M8 hc htc hg hroom hfuse
  go_wp2_with fail
  -- Fall [2] 64
  have hs8 : ∀ k, w8.heap.size ≤ k → ¬ (b ≤ k ∧ k < w8.heap.size) := fun k h1 h2 => by omega
  have HS8 := hide hs8
  have hl9 : w8.heap.size ≤ w9.heap.size := Nat.le_trans (unhide GG) (Nat.le_of_lt (unhide HC).has.lt)
  have HL9 := hide hl9
  clear hs8 hl9
  refine (fall_loop b [2] _ 1 (some ⟨w9.heap.size, 0, none⟩) 64 _ _ ((unhide H9).mod0 ((Mod.refl No w9).alloc _)) (by decide) (lit_reads w9 [.int .i64 2] 3) (fun k hk => by
    simp [Value.ownBlock] at hk
    exact (unhide HS8) k (by have := unhide HL9; omega))).mono ?_
  rintro e w10 ⟨rfl, t2, h10, m10, hx, hroom, hfuse⟩
  have hx0 : (t2.get 0).xs = bytesOf [1, 2, 3, 68] := (hx 0 (by omega)).1.trans (fallen0 v4)
  have hx1 : (t2.get 1).xs = bytesOf [] := (hx 1 (by omega)).1.trans (fallen1 v6)
  have hx2 : (t2.get 2).xs = bytesOf [] := (hx 2 (by omega)).1.trans fallen2
  have hx3 : (t2.get 3).xs = bytesOf [] := (hx 3 (by omega)).1.trans fallen3
  have m10' : Mod (fun k => b ≤ k ∧ k < w8.heap.size) w9 w10 := ((Mod.refl _ w9).alloc _).trans m10
  have X0 := hide hx0
  have X1 := hide hx1
  have X2 := hide hx2
  have X3 := hide hx3
  have R2 := hide hroom
  have F2 := hide hfuse
  have H10 := hide h10
  have C10 := hide ((unhide HC).mod m10' (fun k hk => (unhide HS8) k hk))
  have M10 := hide ((unhide M9).trans (m10'.mono (fun k _ h => h.1)))
  clear hx0 hx1 hx2 hx3 hroom hfuse h10 m10 m10' hx H9 M9 HC
  go_wp2_with fail
  -- Read 0
  refine (read_any b t2 0 (by omega) _ w10 (unhide H10)).mono ?_
  rintro e w11 ⟨v11, rfl, o11, -, m11⟩
  rw [unhide X0] at o11
  have O11 := hide o11
  have H11 := hide ((unhide H10).mod0 m11)
  have C11 := hide ((unhide C10).mod0 m11)
  have M11 := hide ((unhide M10).trans (m11.mono (fun _ _ x => x.elim)))
  obtain ⟨a11, c11, hv11⟩ := slice_of_owns o11
  subst hv11
  clear o11 m11 H10 C10 M10
  go_wp2_with fail
  refine (is_lit w11 _ [1, 2, 3, 68] [1, 2, 3, 68] 4 rfl (unhide O11) (by decide) (by decide)).mono ?_
  rintro e w12 ⟨rfl, m12⟩
  have H12 := hide ((unhide H11).mod0 m12)
  have C12 := hide ((unhide C11).mod0 m12)
  have M12 := hide ((unhide M11).trans (m12.mono (fun _ _ x => x.elim)))
  clear m12 H11 M11 C11 O11
  rw [show decide ([(1 : Int), 2, 3, 68] = [1, 2, 3, 68]) = true from rfl]
  go_wp2_with fail
  -- Read 1
  refine (read_any b t2 1 (by omega) _ w12 (unhide H12)).mono ?_
  rintro e w13 ⟨v13, rfl, o13, -, m13⟩
  rw [unhide X1] at o13
  have O13 := hide o13
  have H13 := hide ((unhide H12).mod0 m13)
  have C13 := hide ((unhide C12).mod0 m13)
  have M13 := hide ((unhide M12).trans (m13.mono (fun _ _ x => x.elim)))
  obtain ⟨a13, c13, hv13⟩ := slice_of_owns o13
  subst hv13
  clear o13 m13 H12 C12 M12
  go_wp2_with fail
  refine (is_nil w13 _ [] (unhide O13) (by decide)).mono ?_
  rintro e w14 ⟨rfl, m14⟩
  have H14 := hide ((unhide H13).mod0 m14)
  have C14 := hide ((unhide C13).mod0 m14)
  have M14 := hide ((unhide M13).trans (m14.mono (fun _ _ x => x.elim)))
  clear m14 H13 M13 C13 O13
  rw [show decide (([] : List Int) = []) = true from rfl]
  go_wp2_with fail
  -- the copy's Read 1
  have hk1 : (tc.get 1).xs = bytesOf [6] := ((unhide HTC) 1 (by omega)).1
  have K1 := hide hk1
  clear hk1
  refine (read_any g tc 1 (by omega) _ w14 (unhide C14)).mono ?_
  rintro e w15 ⟨v15, rfl, o15, -, m15⟩
  rw [unhide K1] at o15
  have O15 := hide o15
  have H15 := hide ((unhide H14).mod0 m15)
  have M15 := hide ((unhide M14).trans (m15.mono (fun _ _ x => x.elim)))
  obtain ⟨a15, c15, hv15⟩ := slice_of_owns o15
  subst hv15
  clear o15 m15 H14 C14 M14
  go_wp2_with fail
  refine (is_lit w15 _ [6] [6] 1 rfl (unhide O15) (by decide) (by decide)).mono ?_
  rintro e w16 ⟨rfl, m16⟩
  have H16 := hide ((unhide H15).mod0 m16)
  have M16 := hide ((unhide M15).trans (m16.mono (fun _ _ x => x.elim)))
  clear m16 H15 M15 O15
  rw [show decide ([(6 : Int)] = [6]) = true from rfl]
  go_wp2_with fail
  -- Fuse 1
  refine (fuse_any b 1 w16 _ (unhide H16).has (show 9 < 10 by decide)).mono ?_
  rintro e w17 ⟨rfl, rfl⟩
  have h17 := (unhide H16).fuse 1
  have m17 := (unhide M16).setCell (p := ⟨b, 9, none⟩) (.inl (Nat.le_refl _)) (.int .i64 1)
  generalize w16.setCell ⟨b, 9, none⟩ (.int .i64 1) = w17 at *
  have H17 := hide h17
  have M17 := hide m17
  clear h17 m17 H16 M16
  go_wp2_with fail
  -- Clear 0
  have fy : (-4611686018427387904 : Int) ≤ 1 ∧ (1 : Int) ≤ 4611686018427387904 := by decide
  have fy0 : (1 : Int) ≠ 0 := by decide
  have FY := hide fy
  have FY0 := hide fy0
  clear fy fy0
  refine (clear_yes b _ 0 (by omega) _ w17 (unhide H17) (unhide FY) (unhide FY0)).mono ?_
  rintro e w18 ⟨rfl, h18, m18⟩
  have h18' : ∃ t3 : TTape, t3.ok (fun k => b ≤ k ∧ k < w8.heap.size) w18 b ∧ t3.fuse = 0 ∧ t3.room = 6 ∧ t3.used = 0 ∧ (t3.get 0).xs = bytesOf [] := by
    refine ⟨_, h18, rfl, unhide R2, ?_, rfl⟩
    show 0 + (t2.get 1).xs.length + (t2.get 2).xs.length + (t2.get 3).xs.length = 0
    rw [unhide X1, unhide X2, unhide X3]
    rfl
  obtain ⟨t3, h3, f3, r3, u3, x3⟩ := h18'
  have T3 := hide h3
  have M18 := hide ((unhide M17).trans (m18.mono (fun k _ e => by rw [e]; exact Nat.le_refl _)))
  have F3 := hide f3
  have R3 := hide r3
  have U3 := hide u3
  have X30 := hide x3
  clear h3 f3 r3 u3 x3 h18 m18 H17 M17 X0 X1 X2 X3 R2 F2
  go_wp2_with fail
  -- Append 2 [9]: dead
  refine (ap_dead b _ t3 2 (by omega) w18 [9] 1 (unhide T3) (by decide) (by rw [unhide U3, unhide R3]; decide) (unhide F3)).mono ?_
  rintro e w19 ⟨rfl, h19, m19⟩
  have H19 := hide h19
  have M19 := hide ((unhide M18).trans (m19.mono (fun k _ e => e.1)))
  clear h19 m19 M18 T3
  go_wp2_with fail
  -- Sync 0: dead
  refine (sync_dead b t3 0 (by omega) _ w19 (unhide H19) (unhide F3)).mono ?_
  rintro e w20 ⟨rfl, h20, m20⟩
  have H20 := hide h20
  have M20 := hide ((unhide M19).trans (m20.mono (fun k _ e => by rw [e]; exact Nat.le_refl _)))
  clear h20 m20 M19 H19
  go_wp2_with fail
  -- Read 0
  refine (read_any b t3 0 (by omega) _ w20 (unhide H20)).mono ?_
  rintro e w21 ⟨v21, rfl, o21, -, m21⟩
  rw [unhide X30] at o21
  have O21 := hide o21
  have H21 := hide ((unhide H20).mod0 m21)
  have M21 := hide ((unhide M20).trans (m21.mono (fun _ _ x => x.elim)))
  obtain ⟨a21, c21, hv21⟩ := slice_of_owns o21
  subst hv21
  clear o21 m21 H20 M20
  go_wp2_with fail
  refine (is_nil w21 _ [] (unhide O21) (by decide)).mono ?_
  rintro e w22 ⟨rfl, m22⟩
  have H22 := hide ((unhide H21).mod0 m22)
  have M22 := hide ((unhide M21).trans (m22.mono (fun _ _ x => x.elim)))
  clear m22 H21 M21 O21
  rw [show decide (([] : List Int) = []) = true from rfl]
  go_wp2_with fail
  -- Room, Fits 6, Fits 7
  refine (room_any b 6 w22 _ (unhide H22).has (by rw [← unhide R3]; rfl)).mono ?_
  rintro e w22' ⟨rfl, rfl⟩
  go_wp2_with fail
  refine (fits_any b t3 6 w22' (unhide H22) (by decide) (by decide)).mono ?_
  rintro e w23 ⟨rfl, m23⟩
  have hd : decide ((t3.used : Int) + 6 ≤ t3.room) = true := by rw [unhide U3, unhide R3]; decide
  rw [hd]
  have H23 := hide ((unhide H22).mod0 m23)
  have M23 := hide ((unhide M22).trans (m23.mono (fun _ _ x => x.elim)))
  clear m23 H22 M22 hd
  go_wp2_with fail
  refine (fits_any b t3 7 w23 (unhide H23) (by decide) (by decide)).mono ?_
  rintro e w24 ⟨rfl, m24⟩
  have hd : decide ((t3.used : Int) + 7 ≤ t3.room) = false := by rw [unhide U3, unhide R3]; decide
  rw [hd]
  have M24 := hide ((unhide M23).trans (m24.mono (fun _ _ x => x.elim)))
  clear m24 H23 M23 hd
  go_wp2_with fail
  go_ret
  exact ⟨rfl, (unhide M24).to_no (by rw [unhide HB]; exact Nat.le_refl _)⟩

theorem names_any (w : World) : Calls Try.prog 3 #[] w fun e w' => e = .returned (.bool true) ∧ Mod No w w' := by
  go_enter Try.func3, Try.ntmps3
  go_wp2_with (first | (go_at_call 13; refine (reel_any _).mono ?_; rintro e w1 ⟨rfl, hm⟩) | go_in)
  go_ret
  exact ⟨rfl, hm⟩
end Go.Proofs.Ythhibagcpjeihaa
