import Derived.Test.YthhibagcpjeihaaLTape3ToWr1
import Derived.Deep.DeepCutAuto
import Derived.OpenShut
import Derived.Test.YthhibagcpjeihaaLRp3ToKeep1
import Derived.Test.YthhibagcpjeihaaLKeepGToDsk2
import Derived.Test.YthhibagcpjeihaaLSto3ToSav2
namespace Go.Proofs.Ythhibagcpjeihaa
open Go.RowKit
set_option linter.unusedVariables false
set_option linter.unusedSimpArgs false
set_option maxRecDepth 100000
def fallN (keep : List Int) (i : Nat) (f : TFile) : Nat := if i < keep.length then (min (max (keep.getD i 0) 0) ((f.xs.length : Int) - f.last)).toNat else 0
theorem fallN_le (keep : List Int) (i : Nat) (f : TFile) (h : f.last ≤ f.xs.length) : f.last + fallN keep i f ≤ f.xs.length := by
 unfold fallN
 split
 ·omega
 ·omega
def spoilt (s : Int) : Value → Value
 | .int .u8 x => .int .u8 (bits BinOp.xor .u8 x s)
 | v => v
def fallXs (keep : List Int) (i : Nat) (s : Int) (f : TFile) : List Value :=
 if fallN keep i f = 0 then f.xs.take (f.last + fallN keep i f) else (f.xs.take (f.last + fallN keep i f)).set (f.last + fallN keep i f - 1) (spoilt s (f.xs.getD (f.last + fallN keep i f - 1) undef))
theorem owns_take {w : World} {e : TypeId} {ao : Option Addr} {n cap m : Nat} {xs : List Value} (h : w.ownsRow 0 e 1 (.slice ao n cap) n xs) (hm : m ≤ n) : w.ownsRow 0 e 1 (.slice ao m cap) m (xs.take m) := by
 have hl := h.1
 refine ⟨by rw [List.length_take]; omega, ?_⟩
 rcases h.2 with ⟨h1, h2⟩ | ⟨g, c, cur, hv, hb, hg, hnc, hcm, hcs, ht⟩
 ·injection h1 with a1 a2 a3
  subst a1 a3
  exact .inl ⟨by rw [show m = 0 by omega], by omega⟩
 ·injection hv with a1 a2 a3
  subst a1 a3
  refine .inr ⟨g, cap, cur, rfl, hb, hg, by omega, hcm, hcs, ?_⟩
  rw [← ht, List.take_take, Nat.mul_one, Nat.mul_one, Nat.min_eq_left hm]
theorem owns_set {w : World} {e : TypeId} {g n cap j : Nat} {xs : List Value} (h : w.ownsRow 0 e 1 (.slice (some ⟨g, 0, none⟩) n cap) n xs) (hj : j < n) (u : Value) :
  (w.setCell ⟨g, j, none⟩ u).ownsRow 0 e 1 (.slice (some ⟨g, 0, none⟩) n cap) n (xs.set j u) := by
 refine ⟨by rw [List.length_set]; exact h.1, ?_⟩
 rcases h.2 with ⟨h1, h2⟩ | ⟨g', c, cur, hv, hb, hg, hnc, hcm, hcs, ht⟩
 ·injection h1 with a1 a2 a3
  cases a1
 ·injection hv with a1 a2 a3
  subst a3
  injection a1 with a1
  injection a1 with a1
  subst a1
  refine .inr ⟨g, cap, cur.setIfInBounds j u, rfl, hb, (Has.set (T := e) hg j u), hnc, hcm, by simpa using hcs, ?_⟩
  rw [← ht, Array.toList_setIfInBounds, List.take_set]
theorem fall_step0 {S : Nat → Prop} {w : World} {b : Nat} {t : TTape} (h : t.ok S w b) (i : Nat) (hi : i < 4) {ao : Option Addr} {cap m : Nat} (hv : (t.get i).v = .slice ao (t.get i).xs.length cap) (hm : m ≤ (t.get i).xs.length) :
  (t.put ⟨.slice ao m cap, (t.get i).xs.take m, m⟩ i).ok S ((w.setCell ⟨b, i * 2, none⟩ (.slice ao m cap)).setCell ⟨b, i * 2 + 1, none⟩ (.int .i64 m)) b ∧
   Mod S w ((w.setCell ⟨b, i * 2, none⟩ (.slice ao m cap)).setCell ⟨b, i * 2 + 1, none⟩ (.int .i64 m)) := by
 have hg := h.get i hi
 have ho := hg.owns
 rw [hv] at ho
 have ho' := owns_take ho hm
 have hne : (Value.slice ao m cap).ownBlock ≠ some b := by
  have := hg.ne h.has
  rw [hv] at this
  cases ao <;> simp_all [Value.ownBlock]
 have hst : ∀ k, (Value.slice ao m cap).ownBlock = some k → (t.get i).v.ownBlock = some k := fun k hk => by
  rw [hv]
  cases ao <;> simp_all [Value.ownBlock]
 have hml : m = ((t.get i).xs.take m).length := by rw [List.length_take]; omega
 refine ⟨h.put i hi _ (((Mod.refl _ w).setCell (p := ⟨b, i * 2, none⟩) (.inl (.inl rfl)) _).setCell (p := ⟨b, i * 2 + 1, none⟩) (.inl (.inl rfl)) _) ?_ ?_ (fun _ x => x) (fun k hk => .inl (hst k hk)), ?_⟩
 ·have := (h.has.set (i * 2) (.slice ao m cap)).set (i * 2 + 1) (.int .i64 m)
  rwa [cells_put _ _ ((t.get i).xs.take m) _ i hi] at this
 ·refine ⟨?_, by rw [← hml]; exact Nat.le_refl _, by rw [← hml]; have := hg.len; omega, fun x hx => hg.bytes x (List.mem_of_mem_take hx), fun k hk => hg.inn k (hst k hk)⟩
  rw [← hml]
  exact owns_setCell_ne (owns_setCell_ne ho' hne _) hne _
 ·exact ((Mod.refl _ w).setCell (p := ⟨b, i * 2, none⟩) (.inl h.inn) _).setCell (p := ⟨b, i * 2 + 1, none⟩) (.inl h.inn) _
theorem fall_step1 {S : Nat → Prop} {w : World} {b : Nat} {t : TTape} (h : t.ok S w b) (i : Nat) (hi : i < 4) {g cap k : Nat} (hv : (t.get i).v = .slice (some ⟨g, 0, none⟩) (t.get i).xs.length cap) (hm : k + 1 ≤ (t.get i).xs.length)
  (x : Int) (hx : 0 ≤ x ∧ x < 256) :
  (t.put ⟨.slice (some ⟨g, 0, none⟩) (k + 1) cap, ((t.get i).xs.take (k + 1)).set k (.int .u8 x), k + 1⟩ i).ok S
    (((w.setCell ⟨b, i * 2, none⟩ (.slice (some ⟨g, 0, none⟩) (k + 1) cap)).setCell ⟨g, k, none⟩ (.int .u8 x)).setCell ⟨b, i * 2 + 1, none⟩ (.int .i64 (k + 1 : Nat))) b ∧
   Mod S w (((w.setCell ⟨b, i * 2, none⟩ (.slice (some ⟨g, 0, none⟩) (k + 1) cap)).setCell ⟨g, k, none⟩ (.int .u8 x)).setCell ⟨b, i * 2 + 1, none⟩ (.int .i64 (k + 1 : Nat))) := by
 have hg := h.get i hi
 have ho := hg.owns
 have hgb : g ≠ b := by
  have := hg.ne h.has
  rw [hv] at this
  simpa [Value.ownBlock] using this
 have hgS : S g := hg.inn g (by rw [hv]; rfl)
 rw [hv] at ho
 have ho' := owns_take ho hm
 have hne : (Value.slice (some ⟨g, 0, none⟩) (k + 1) cap).ownBlock ≠ some b := by simpa [Value.ownBlock] using hgb
 have ho2 := owns_set (owns_setCell_ne (a := ⟨b, i * 2, none⟩) ho' hne (.slice (some ⟨g, 0, none⟩) (k + 1) cap)) (Nat.lt_succ_self k) (.int .u8 x)
 have hml : k + 1 = (((t.get i).xs.take (k + 1)).set k (.int .u8 x)).length := by rw [List.length_set, List.length_take]; omega
 have hT : Touch b (t.get i) g := .inr (by rw [hv]; rfl)
 refine ⟨h.put i hi _ ((((Mod.refl _ w).setCell (p := ⟨b, i * 2, none⟩) (.inl (.inl rfl)) _).setCell (p := ⟨g, k, none⟩) (.inl hT) _).setCell (p := ⟨b, i * 2 + 1, none⟩) (.inl (.inl rfl)) _) ?_ ?_ (fun _ x => x)
  (fun k hk => .inl (by rw [hv]; simpa [Value.ownBlock] using hk)), ?_⟩
 ·have := ((h.has.set (i * 2) (.slice (some ⟨g, 0, none⟩) (k + 1) cap)).set_ne (a := ⟨g, k, none⟩) (fun e => hgb e.symm) (.int .u8 x)).set (i * 2 + 1) (.int .i64 (k + 1 : Nat))
  rwa [cells_put _ _ (((t.get i).xs.take (k + 1)).set k (.int .u8 x)) _ i hi] at this
 ·refine ⟨?_, by rw [← hml]; exact Nat.le_refl _, by rw [← hml]; have := hg.len; omega, fun y hy => ?_, fun j hj => ?_⟩
  ·rw [← hml]
   exact owns_setCell_ne ho2 hne _
  ·rcases List.mem_or_eq_of_mem_set hy with h1 | h1
   ·exact hg.bytes y (List.mem_of_mem_take h1)
   ·exact ⟨x, h1, hx⟩
  ·simp [Value.ownBlock] at hj
   subst hj
   exact hgS
 ·exact (((Mod.refl _ w).setCell (p := ⟨b, i * 2, none⟩) (.inl h.inn) _).setCell (p := ⟨g, k, none⟩) (.inl hgS) _).setCell (p := ⟨b, i * 2 + 1, none⟩) (.inl h.inn) _
theorem fall_close {S : Nat → Prop} {w wr w' : World} {b i : Nat} {t t' : TTape} {keep : List Int} {s : Int} (hi : i < 4) (hmod : Mod S w wr)
  (hA : ∀ j, j < i → (t'.get j).xs = fallXs keep j s (t.get j) ∧ (t'.get j).last = (fallXs keep j s (t.get j)).length) (hB : ∀ j, i ≤ j → j < 4 → t'.get j = t.get j) (hr : t'.room = t.room) (hf : t'.fuse = t.fuse)
  (g : TFile) (hx : g.xs = fallXs keep i s (t.get i)) (hl : g.last = (fallXs keep i s (t.get i)).length) (h : (t'.put g i).ok S w' b ∧ Mod S wr w') :
  ∃ (i' : Nat) (t2 : TTape), i' ≤ 4 ∧ Value.int IntKind.i64 ((i : Int) + 1) = Value.int .i64 (i' : Int) ∧ t2.ok S w' b ∧ Mod S w w' ∧
   (∀ j, j < i' → (t2.get j).xs = fallXs keep j s (t.get j) ∧ (t2.get j).last = (fallXs keep j s (t.get j)).length) ∧ (∀ j, i' ≤ j → j < 4 → t2.get j = t.get j) ∧ t2.room = t.room ∧ t2.fuse = t.fuse := by
 refine ⟨i + 1, t'.put g i, by omega, rfl, h.1, hmod.trans h.2, fun j hj => ?_, fun j hj hj4 => ?_, ?_, ?_⟩
 ·rw [get_put _ _ _ _ hi (by omega)]
  split
  ·rename_i e; subst e; exact ⟨hx, hl⟩
  ·exact hA j (by omega)
 ·rw [get_put _ _ _ _ hi hj4, if_neg (by omega)]
  exact hB j (by omega) hj4
 ·rw [(put_room _ _ _).1, hr]
 ·rw [(put_room _ _ _).2, hf]
theorem fall_loop (b : Nat) (keep : List Int) (t : TTape) (kc : Nat) (ko : Option Addr) (s : Int) (S : Nat → Prop) (w : World) (h : t.ok S w b)
  (hm2 : keep.length ≤ 9223372036854775807) (hk : Reads w (.slice ko keep.length kc) keep.length (keep.map (Value.int .i64))) (hkb : 0 < keep.length → ∀ k, (Value.slice ko keep.length kc).ownBlock = some k → ¬ S k) :
  Calls Try.prog 31 #[.pointer (some ⟨b, 0, none⟩), .slice ko keep.length kc, .int .u8 s] w fun e w' => e = .returned (.tuple #[]) ∧
   ∃ t' : TTape, t'.ok S w' b ∧ Mod S w w' ∧ (∀ i, i < 4 → (t'.get i).xs = fallXs keep i s (t.get i) ∧ (t'.get i).last = (fallXs keep i s (t.get i)).length) ∧ t'.room = t.room ∧ t'.fuse = -1 := by
 have H := hide h
 have HK := hide hk
 have HKB := hide hkb
 clear hk hkb h
 generalize hm : keep.length = m at *
 have HM := hide hm
 clear hm
 go_enter Try.func31, Try.ntmps31
 go_wp2
 go_loopw [9] (fun c wr => ∃ (i : Nat) (t' : TTape), i ≤ 4 ∧ c = .int .i64 i ∧ t'.ok S wr b ∧ Mod S w wr ∧
   (∀ j, j < i → (t'.get j).xs = fallXs keep j s (t.get j) ∧ (t'.get j).last = (fallXs keep j s (t.get j)).length) ∧ (∀ j, i ≤ j → j < 4 → t'.get j = t.get j) ∧ t'.room = t.room ∧ t'.fuse = t.fuse) (fun i _ => 4 - (intOf i).toNat)
 case atStart => exact ⟨0, t, by omega, rfl, unhide H, Mod.refl _ _, fun j hj => by omega, fun j _ _ => rfl, rfl, rfl⟩
 case round =>
  obtain ⟨i, t', hi, rfl, hok, hmod, hA, hB, hr, hf⟩ := hrel
  have HA := hide hA
  have HBB := hide hB
  have HR := hide hr
  have HF := hide hf
  have HMOD := hide hmod
  have HOK := hide hok
  clear hA hB hr hf hmod hok
  by_cases hi4 : i < 4
  ·have hi' : (i : Int) < 4 := by omega
   have ef : t'.get i = t.get i := (unhide HBB) i (Nat.le_refl _) hi4
   have hfile := (unhide HOK).get i hi4
   rw [ef] at hfile
   have HFILE := hide hfile
   have h0 := (unhide HOK).has.cell (i * 2)
   have h1 := (unhide HOK).has.cell (i * 2 + 1)
   have hz := (unhide HOK).has.frozen
   have hbb := (unhide HOK).has
   have HBLK := hide hbb
   clear hbb
   rw [(cells_v _ i hi4).1, ef] at h0
   rw [(cells_v _ i hi4).2, ef] at h1
   have EF := hide ef
   clear ef
   generalize hF : t.get i = f at *
   have HF0 := hide hF
   clear hF
   obtain ⟨ao, cap, hv, hlen⟩ := slice_form hfile
   have hcap : f.xs.length ≤ cap := by
    rcases hfile.owns.2 with ⟨h1, h2⟩ | ⟨g, c, cur, hv2, _, _, hnc, _⟩
    ·omega
    ·rw [hv] at hv2; injection hv2 with _ _ a3; omega
   rw [hv] at h0
   have HV := hide hv
   have hll := hfile.last
   clear hv hfile
   generalize hL : f.xs.length = len at *
   generalize hl : f.last = last at *
   have HL := hide hL
   have Hl := hide hl
   clear hL hl
   go_upto_if 20 with fail
   go_cut [8] (fun s8 wx => s8 = .int .i64 ((fallN keep i f : Nat) : Int) ∧ ∃ nq, wx = wr.drewN nq)
   case first =>
    by_cases him : i < m
    ·have him' : (i : Int) < m := by omega
     have hN : fallN keep i f = (min (max (keep.getD i 0) 0) ((len : Int) - last)).toNat := by
      unfold fallN
      rw [if_pos (by rw [unhide HM]; exact him), unhide HL, unhide Hl]
     have hq : ∃ p, ko = some p ∧ wr.cell? (p.add i) = some (.int .i64 (keep.getD i 0)) := by
      rcases (unhide HK).mod (unhide HMOD) ((unhide HKB) (by have := unhide HM; omega)) with ⟨_, h0⟩ | ⟨p, c, hp, hq⟩
      ·omega
      ·injection hp with a1 _ _
       exact ⟨p, a1, hq i _ (by simp [unhide HM, him])⟩
     obtain ⟨p, rfl, hq⟩ := hq
     generalize keep.getD i 0 = q at hq hN
     rcases Int.lt_or_le 0 q with hq0 | hq0
     ·rcases Int.lt_or_le ((len : Int) - last) q with hq1 | hq1
      ·have hN' : fallN keep i f = len - last := by omega
       have HN := hide hN'
       clear hN hN'
       go_wp2
       go_quiet (fail)
       all_goals go_wp2
       all_goals go_meet
       all_goals exact ⟨by rw [unhide HN]; congr 1; omega, _, rfl⟩
      ·have hN' : ((fallN keep i f : Nat) : Int) = q := by omega
       have HN := hide hN'
       clear hN hN'
       go_wp2
       go_quiet (fail)
       all_goals go_wp2
       all_goals go_meet
       all_goals exact ⟨by rw [unhide HN], _, rfl⟩
     ·have hN' : fallN keep i f = 0 := by omega
      have HN := hide hN'
      clear hN hN'
      go_wp2
      go_quiet (fail)
      all_goals go_wp2
      all_goals go_meet
      all_goals exact ⟨by rw [unhide HN]; first | rfl | (congr 1; omega), _, rfl⟩
    ·have him' : ¬ (i : Int) < m := by omega
     have hN : fallN keep i f = 0 := by
      unfold fallN
      rw [if_neg (by rw [unhide HM]; exact him)]
     have HN := hide hN
     clear hN
     go_wp2
     all_goals go_meet
     all_goals exact ⟨by rw [unhide HN]; rfl, 0, rfl⟩
   case rest =>
    obtain ⟨rfl, nq, rfl⟩ := hcut
    have hle : last + fallN keep i f ≤ len := by have := fallN_le keep i f (by rw [unhide HL, unhide Hl]; exact hll); rw [unhide HL, unhide Hl] at this; exact this
    generalize hn : fallN keep i f = n at *
    have HN := hide hn
    clear hn
    by_cases hn0 : n = 0
    ·subst hn0
     rw [show (((0 : Nat) : Int)) = 0 from rfl]
     go_wp2_with fail
     go_region
     go_wp2
     have st := fall_step0 (m := last) (ao := ao) (cap := cap) ((unhide HOK).mod0 ((Mod.refl No wr).drewN (nq + 1))) i hi4 (by rw [unhide EF, unhide HL]; exact unhide HV) (by rw [unhide EF, unhide HL]; exact hll)
     have ex : f.xs.take last = fallXs keep i s f := by unfold fallXs; rw [if_pos (unhide HN), unhide HN, unhide Hl]; rfl
     have el : last = (fallXs keep i s f).length := by rw [← ex, List.length_take, unhide HL]; omega
     refine ⟨?_, by simp [intOf]; omega⟩
     rw [unhide EF] at st
     exact fall_close hi4 (unhide HMOD) (unhide HA) (unhide HBB) (unhide HR) (unhide HF) _ (by rw [unhide HF0]; exact ex) (by rw [unhide HF0]; exact el) ⟨st.1, ((Mod.refl S wr).drewN _).trans st.2⟩
    ·obtain ⟨k, hk⟩ : ∃ k, n = k + 1 := ⟨n - 1, by omega⟩
     subst hk
     have gg : ∃ g x, ao = some ⟨g, 0, none⟩ ∧ g ≠ b ∧ wr.cell? ⟨g, last + k, none⟩ = some (.int .u8 x) ∧ wr.frozen? ⟨g, last + k, none⟩ = false ∧ f.xs[last + k]? = some (.int .u8 x) := by
      have hfile := unhide HFILE
      have ho := hfile.owns
      have hlt : last + k < f.xs.length := by rw [unhide HL]; omega
      rcases ho.2 with ⟨h1, h2⟩ | ⟨g, c, cur, hv2, _, hg2, _⟩
      ·omega
      ·obtain ⟨x, hx, _, _⟩ := hfile.bytes (f.xs[last + k]) (List.getElem_mem hlt)
       have hx' : f.xs[last + k]? = some (.int .u8 x) := by rw [List.getElem?_eq_getElem hlt, hx]
       have hc := ho.cells (g := g) (by rw [hv2]; rfl) (last + k) (.int .u8 x) hx'
       have ea : (⟨g, 0, none⟩ : Addr).add (last + k) = ⟨g, last + k, none⟩ := by unfold Addr.add; split <;> simp_all
       rw [ea] at hc
       rw [unhide HV] at hv2
       injection hv2 with a1 _ _
       refine ⟨g, x, a1, ?_, hc, Has.frozen (T := 5) hg2 _, hx'⟩
       rintro rfl
       exact hfile.ne (unhide HBLK) (by rw [unhide HV, a1]; rfl)
     obtain ⟨g, x, rfl, hgb, hx, hfx, hxx⟩ := gg
     have HXX := hide hxx
     clear hxx
     go_wp2_with fail
     go_region
     go_wp2
     go_region
     go_wp2
     have hw := wf_bits BinOp.xor .u8 x s
     simp [Lit.wf, IntKind.min, IntKind.max, IntKind.signed, IntKind.bits] at hw
     have st := fall_step1 (k := last + k) (g := g) (cap := cap) ((unhide HOK).mod0 ((Mod.refl No wr).drewN (nq + 1))) i hi4 (by rw [unhide EF, unhide HL]; exact unhide HV) (by rw [unhide EF, unhide HL]; omega) (bits BinOp.xor .u8 x s) ⟨by omega, by omega⟩
     have ex : (f.xs.take (last + k + 1)).set (last + k) (.int .u8 (bits BinOp.xor .u8 x s)) = fallXs keep i s f := by
      unfold fallXs
      rw [if_neg (by rw [unhide HN]; omega), unhide HN, unhide Hl, show last + (k + 1) - 1 = last + k from by omega]
      have hgd : f.xs.getD (last + k) undef = .int .u8 x := by simp [List.getD, unhide HXX]
      rw [hgd]
      rfl
     have el : last + k + 1 = (fallXs keep i s f).length := by rw [← ex, List.length_set, List.length_take, unhide HL]; omega
     refine ⟨?_, by simp [intOf]; omega⟩
     rw [unhide EF] at st
     have hcl := fall_close hi4 (unhide HMOD) (unhide HA) (unhide HBB) (unhide HR) (unhide HF) _ (by rw [unhide HF0]; exact ex) (by rw [unhide HF0]; exact el) ⟨st.1, ((Mod.refl S wr).drewN _).trans st.2⟩
     have e1 : last + k + 1 = last + (k + 1) := by omega
     have e2 : ((last + (k + 1) : Nat) : Int) = (last : Int) + ((k : Int) + 1) := by omega
     rw [e1, e2] at hcl
     obtain ⟨i', t2, r1, r2, r3, r4, r5⟩ := hcl
     exact ⟨i', t2, r1, r2, r3.mod0 (Mod.refl No _).drew, r4.drew, r5⟩
  ·obtain rfl : i = 4 := by omega
   have h9 := (unhide HOK).has.cell 9
   have hz := (unhide HOK).has.frozen 9
   rw [show t'.cells[9]? = some (.int .i64 t'.fuse) from rfl] at h9
   go_wp2
   go_end0
   refine ⟨rfl, { t' with fuse := -1 }, (unhide HOK).fuse (-1), (unhide HMOD).setCell (p := ⟨b, 9, none⟩) (.inl (unhide HOK).inn) _, fun i hi => ?_, unhide HR, rfl⟩
   rw [get_fuse]
   exact (unhide HA) i hi
open M
def fallK (keep : List Int) (i : Nat) (n l : Nat) : Nat := if i < keep.length then (min (max (keep.getD i 0) 0) ((n : Int) - l)).toNat else 0
def fallB (keep : List Int) (i : Nat) (s : Int) (b : List Int) (l : Nat) : List Int :=
 if fallK keep i b.length l = 0 then b.take l else b.take (l + fallK keep i b.length l - 1) ++ [bits BinOp.xor .u8 (b.getD (l + fallK keep i b.length l - 1) 0) s]
def fallT (T : TP) (keep : List Int) (s : Int) : TP := ⟨fun i => if i < 4 then fallB keep i s (T.b i) (T.last i) else T.b i, fun i => if i < 4 then (fallB keep i s (T.b i) (T.last i)).length else T.last i, T.room, -1⟩
def fuseT (T : TP) (n : Int) : TP := ⟨T.b, T.last, T.room, n⟩
theorem fallK_le (keep : List Int) (i n l : Nat) (h : l ≤ n) : l + fallK keep i n l ≤ n := by
 unfold fallK
 split <;> omega
theorem set_last {α : Type} (l : List α) (n : Nat) (hn : n + 1 ≤ l.length) (x : α) : (l.take (n + 1)).set n x = l.take n ++ [x] := by
 apply List.ext_getElem
 ·simp; omega
 ·intro j h1 h2
  simp only [List.length_set, List.length_take] at h1
  rw [List.getElem_set]
  by_cases e : n = j
  ·subst e
   rw [if_pos rfl, List.getElem_append_right (by rw [List.length_take]; omega)]
   simp
  ·rw [if_neg e, List.getElem_take, List.getElem_append_left (by simp; omega), List.getElem_take]
theorem fallXs_u8 {keep : List Int} {i : Nat} {s : Int} {f : TFile} {b : List Int} {l : Nat} (hx : f.xs = u8s b) (hl : f.last = l) (h : l ≤ b.length) : fallXs keep i s f = u8s (fallB keep i s b l) := by
 have hk : fallN keep i f = fallK keep i b.length l := by
  unfold fallN fallK
  rw [hx, hl, u8s_len]
 have hle := fallK_le keep i b.length l h
 unfold fallXs fallB
 rw [hk, hl, hx]
 by_cases h0 : fallK keep i b.length l = 0
 ·rw [if_pos h0, if_pos h0, h0, Nat.add_zero]
  unfold u8s
  rw [List.map_take]
 ·rw [if_neg h0, if_neg h0]
  obtain ⟨k, hk'⟩ : ∃ k, fallK keep i b.length l = k + 1 := ⟨_, (Nat.succ_pred h0).symm⟩
  rw [hk'] at hle ⊢
  have e1 : l + (k + 1) - 1 = l + k := by omega
  rw [e1, show l + (k + 1) = (l + k) + 1 by omega, set_last _ _ (by rw [u8s_len]; omega)]
  have hg : (u8s b).getD (l + k) undef = .int .u8 (b.getD (l + k) 0) := by
   unfold u8s
   simp only [List.getD_eq_getElem?_getD, List.getElem?_map]
   rw [List.getElem?_eq_getElem (by omega)]
   rfl
  rw [hg]
  unfold u8s
  rw [List.map_append, List.map_take]
  rfl
theorem fall_t {w : World} {S : Nat → Prop} {tb : Nat} {T : TP} (h : TapeH w S tb T) (keep : List Int) (kc : Nat) (ko : Option Addr) (s : Int) (hm2 : keep.length ≤ 9223372036854775807) (hk : Reads w (.slice ko keep.length kc) keep.length (keep.map (Value.int .i64))) (hkb : 0 < keep.length → ∀ k, (Value.slice ko keep.length kc).ownBlock = some k → ¬ S k) :
  Calls Try.prog 31 #[.pointer (some ⟨tb, 0, none⟩), .slice ko keep.length kc, .int .u8 s] w fun e w' => e = .returned (.tuple #[]) ∧ TapeH w' S tb (fallT T keep s) ∧ Mod S w w' := by
 have hlast := fun i hi => (h.last i hi).1
 obtain ⟨⟨t, h1, h2, h3, h4⟩, h5⟩ := h
 refine (fall_loop tb keep t kc ko s S w h1 hm2 hk hkb).mono ?_
 rintro e w' ⟨rfl, t', q1, q2, q3, q4, q5⟩
 refine ⟨rfl, ⟨⟨t', q1, fun i hi => ?_, by rw [q4, h3]; rfl, by rw [q5]; rfl⟩, by show (-9223372036854775808 : Int) ≤ -1 ∧ (-1 : Int) ≤ 9223372036854775807; decide⟩, q2⟩
 have e := fallXs_u8 (keep := keep) (i := i) (s := s) (h2 i hi).1 (h2 i hi).2 (hlast i hi)
 refine ⟨?_, ?_⟩
 ·rw [(q3 i hi).1, e]
  show _ = u8s (if i < 4 then fallB keep i s (T.b i) (T.last i) else T.b i)
  rw [if_pos hi]
 ·rw [(q3 i hi).2, e, u8s_len]
  show _ = (if i < 4 then (fallB keep i s (T.b i) (T.last i)).length else T.last i)
  rw [if_pos hi]
theorem copy_t {w : World} {S : Nat → Prop} {tb : Nat} {T : TP} (h : TapeH w S tb T) :
  Calls Try.prog 32 #[.pointer (some ⟨tb, 0, none⟩)] w fun e w' => ∃ g : Nat, e = .returned (.pointer (some ⟨g, 0, none⟩)) ∧ w.heap.size ≤ g ∧ TapeH w' (fun k => w.heap.size ≤ k) g T ∧ Mod No w w' := by
 obtain ⟨⟨t, h1, h2, h3, h4⟩, h5⟩ := h
 refine (copy_any tb t S w h1).mono ?_
 rintro e w' ⟨g, rfl, hg, t', q1, q2, q3, q4, q5⟩
 exact ⟨g, rfl, hg, ⟨⟨t', q1, fun i hi => ⟨(q3 i hi).1.trans (h2 i hi).1, (q3 i hi).2.trans (h2 i hi).2⟩, q4.trans h3, q5.trans h4⟩, h5⟩, q2⟩
theorem fuse_t {w : World} {S : Nat → Prop} {tb : Nat} {T : TP} (h : TapeH w S tb T) (n : Int) (hn : -9223372036854775808 ≤ n ∧ n ≤ 9223372036854775807) :
  Calls Try.prog 34 #[.pointer (some ⟨tb, 0, none⟩), .int .i64 n] w fun e w' => e = .returned (.tuple #[]) ∧ TapeH w' S tb (fuseT T n) ∧ Mod (· = tb) w w' := by
 obtain ⟨⟨t, h1, h2, h3, h4⟩, h5⟩ := h
 refine (fuse_any tb n w _ h1.has (by unfold TTape.cells; simp)).mono ?_
 rintro e w' ⟨rfl, rfl⟩
 exact ⟨rfl, ⟨⟨_, h1.fuse n, fun i hi => by rw [get_fuse]; exact h2 i hi, h3, rfl⟩, hn⟩, (Mod.refl (fun k => k = tb) w).setCell (p := ⟨tb, 9, none⟩) (.inl rfl) _⟩
theorem recsB_snoc : ∀ (rs : List (List Ent)) (r : List Ent) (now : Int), recsB now (rs ++ [r]) = recsB now rs ++ recB (recsNow now rs) r
 | [], r, now => by simp [recsB, recsNow]
 | x :: rs, r, now => by
  show recB now x ++ recsB (entsNow now x) (rs ++ [r]) = _
  rw [recsB_snoc rs r]
  simp [recsB, recsNow]
theorem RsFit.snoc : ∀ {rs : List (List Ent)} {r : List Ent} {now : Int}, RsFit now rs → EsFit (recsNow now rs) r → r.length < 9223372036854775808 → RsFit now (rs ++ [r])
 | [], r, now, _, h, hl => ⟨⟨h, hl⟩, trivial⟩
 | x :: rs, r, now, hh, h, hl => ⟨hh.1, RsFit.snoc hh.2 h hl⟩
theorem recsNow_snoc : ∀ (rs : List (List Ent)) (r : List Ent) (now : Int), recsNow now (rs ++ [r]) = entsNow (recsNow now rs) r
 | [], r, now => rfl
 | x :: rs, r, now => recsNow_snoc rs r (entsNow now x)
theorem entOf_now {now now' : Int} {fl fl' : Fls} {c : Cmd} (hd : doK now fl c = (0, now', fl')) : entNow now (entOf now c) = now' := by
 have h8 : c.kind = 8 → now' = now + c.time := fun k => by
  unfold doK at hd
  rw [if_neg (by omega), if_pos k] at hd
  split at hd
  ·injection hd with _ hd
   injection hd with e _
   exact e.symm
  ·exact absurd hd (by simp)
 have hn8 : c.kind ≠ 8 → now' = now := fun k => by
  unfold doK at hd
  repeat' split at hd
  all_goals first
   | contradiction
   |(injection hd with h1 h2; injection h2 with h2 h3; omega)
 unfold entNow
 by_cases k : c.kind = 8
 ·have e : (entOf now c).kind = 6 := by unfold entOf; simp [k]
  rw [if_pos e, h8 k]
  rfl
 ·have e : (entOf now c).kind ≠ 6 := by
   unfold entOf
   simp only
   repeat' split
   all_goals omega
  rw [if_neg e, hn8 k]
structure DiskM (T : TP) (f : Nat) (now : Int) (fl : Fls) (rs : List (List Ent)) (t : List Int) : Prop where
 hf : f < 2
 fit : RsFit 0 rs
 play : PlayE 0 noFl rs.flatten now fl
 time : recsNow 0 rs = now
 eq : T.b f = recsB 0 rs ++ t
 low : (recsB 0 rs).length ≤ T.last f
 b2 : T.b 2 = []
 b3 : T.b 3 = []
def TornP (now : Int) (t : List Int) : Prop := t ≠ [] ∧ recP now t = none
structure DiskL (T : TP) (f : Nat) (torn : Bool) (now : Int) (fl : Fls) (B : Int) : Prop where
 ex : ∃ rs t, DiskM T f now fl rs t ∧ (torn = false → t = []) ∧ (torn = true → TornP now t)
 oth : T.b (1 - f) = []
 last : T.last f = (T.b f).length
 size : ((T.b f).length : Int) ≤ B
def OthP (T : TP) (g : Nat) (now : Int) (fl : Fls) : Prop := T.b g = [] ∨ (TornP 0 (T.b g) ∧ T.last g = (T.b g).length) ∨ (T.b g = recB 0 (wholeEs now fl) ∧ wholeEs now fl ≠ [])
structure DiskC (T : TP) (now : Int) (fl : Fls) (mb : Option (Int × Fls)) (B C : Int) : Prop where
 ex : ∃ f rs t, DiskM T f now fl rs t ∧ ((T.b f).length : Int) ≤ B ∧ ((T.b (1 - f)).length : Int) ≤ C ∧
  (((t = [] ∨ (TornP now t ∧ T.last f = (T.b f).length)) ∧ OthP T (1 - f) now fl) ∨
   (∃ c now' fl', mb = some (now', fl') ∧ doK now fl c = (0, now', fl') ∧ t = recB now [entOf now c] ∧ T.b (1 - f) = []))
theorem DiskL.hf {T : TP} {f : Nat} {torn : Bool} {now : Int} {fl : Fls} {B : Int} (h : DiskL T f torn now fl B) : f < 2 := by
 obtain ⟨rs, t, h1, _⟩ := h.ex
 exact h1.hf
theorem DiskL.close {T : TP} {f : Nat} {torn : Bool} {now : Int} {fl : Fls} {B C : Int} (h : DiskL T f torn now fl B) (hC : 0 ≤ C) (mb : Option (Int × Fls)) : DiskC T now fl mb B C := by
 obtain ⟨rs, t, h1, h2, h3⟩ := h.ex
 refine ⟨f, rs, t, h1, h.size, by rw [h.oth]; exact hC, .inl ⟨?_, .inl h.oth⟩⟩
 cases torn with
 | false => exact .inl (h2 rfl)
 | true => exact .inr ⟨h3 rfl, h.last⟩
theorem DiskL.used {T : TP} {f : Nat} {torn : Bool} {now : Int} {fl : Fls} {B : Int} (h : DiskL T f torn now fl B) : T.used = (T.b f).length := by
 obtain ⟨rs, t, h1, _⟩ := h.ex
 have := h.oth
 have h2 := h1.b2
 have h3 := h1.b3
 unfold TP.used
 have hf := h1.hf
 have : f = 0 ∨ f = 1 := by omega
 rcases this with rfl | rfl
 ·rw [show (1 - 0 : Nat) = 1 from rfl] at *
  simp [*]
 ·rw [show (1 - 1 : Nat) = 0 from rfl] at *
  simp [*]
theorem DiskL.zero (n : Int) (fu : Int) {B : Int} (hB : 0 ≤ B) : DiskL ⟨fun _ => [], fun _ => 0, n, fu⟩ 0 false 0 noFl B :=
 ⟨⟨[], [], ⟨by omega, trivial, ⟨rfl, rfl⟩, rfl, rfl, Nat.le_refl _, rfl, rfl⟩, fun _ => rfl, fun e => (by cases e)⟩, rfl, rfl, by simpa using hB⟩
theorem DiskL.fuse {T : TP} {f : Nat} {torn : Bool} {now : Int} {fl : Fls} {B : Int} (h : DiskL T f torn now fl B) (n : Int) : DiskL (fuseT T n) f torn now fl B := by
 obtain ⟨⟨rs, t, h1, h2, h3⟩, h4, h5, h6⟩ := h
 exact ⟨⟨rs, t, ⟨h1.hf, h1.fit, h1.play, h1.time, h1.eq, h1.low, h1.b2, h1.b3⟩, h2, h3⟩, h4, h5, h6⟩
theorem DiskL.more {T : TP} {f : Nat} {torn : Bool} {now : Int} {fl : Fls} {B B' : Int} (h : DiskL T f torn now fl B) (hB : B ≤ B') : DiskL T f torn now fl B' := ⟨h.ex, h.oth, h.last, Int.le_trans h.size hB⟩
theorem DiskC.more {T : TP} {now : Int} {fl : Fls} {mb : Option (Int × Fls)} {B C B' C' : Int} (h : DiskC T now fl mb B C) (hB : B ≤ B') (hC : C ≤ C') : DiskC T now fl mb B' C' := by
 obtain ⟨f, rs, t, h1, h2, h3, h4⟩ := h.ex
 exact ⟨f, rs, t, h1, Int.le_trans h2 hB, Int.le_trans h3 hC, h4⟩
theorem DiskM.lay {T T' : TP} {f : Nat} {now now' : Int} {fl fl' : Fls} {rs : List (List Ent)} {c : Cmd} {N : Int} (h : DiskM T f now fl rs []) (hF : FlOk N now fl) (hd : doK now fl c = (0, now', fl')) (hb : T'.b f = T.b f ++ recB now [entOf now c]) (hl : T'.last f = (T.b f ++ recB now [entOf now c]).length) (h2 : T'.b 2 = []) (h3 : T'.b 3 = []) :
  DiskM T' f now' fl' (rs ++ [[entOf now c]]) [] := by
 have hfit := entOf_fit hF hd
 have he : recsB 0 (rs ++ [[entOf now c]]) = T.b f ++ recB now [entOf now c] := by
  rw [recsB_snoc, h.time, h.eq]
  simp
 refine ⟨h.hf, RsFit.snoc h.fit ⟨by rw [h.time]; exact hfit, trivial⟩ (by simp), ?_, ?_, by rw [hb, he]; simp, by rw [he, hl]; exact Nat.le_refl _, h2, h3⟩
 ·rw [List.flatten_append]
  exact playE_append _ h.play (playE_one (.inl ⟨c, rfl, hd⟩))
 ·rw [recsNow_snoc, h.time]
  exact entOf_now hd
structure SavedD (K K' : KS) (e : Int) (now now' : Int) (fl fl' : Fls) (B C : Int) : Prop where
 ok : e = 0 → K'.live = true ∧ DiskL K'.T K'.file K'.torn now' fl' (B + 60)
 space : e = 15 → K'.live = true ∧ DiskL K'.T K'.file K'.torn now fl B ∧ K.T.room < B + C + 60
 dead : e = 16 → K'.live = false ∧ K'.T.fuse = 0 ∧ DiskC K'.T now fl (some (now', fl')) (B + 60) C
 err : e = 0 ∨ e = 15 ∨ e = 16
 room : K'.T.room = K.T.room
 tb : K'.tb = K.tb
theorem lay_disk {K : KS} {now now' : Int} {fl fl' : Fls} {B C N : Int} {c : Cmd} (h : DiskL K.T K.file K.torn now fl B) (hl : K.live = true) (ht : K.torn = false) (hF : FlOk N now fl) (hd : doK now fl c = (0, now', fl')) (hC : 0 ≤ C) :
  SavedD K (layK K (recB now [entOf now c])).2 (layK K (recB now [entOf now c])).1 now now' fl fl' B C := by
 have hk := ent_kind now c
 have hlen := rec1_len ((entOf_fit hF hd).c (by omega))
 have hused := h.used
 have hcl := (h.close hC (some (now', fl'))).more (show B ≤ B + 60 by omega) (Int.le_refl C)
 have hh := h
 obtain ⟨⟨rs, t, hm, h2, _⟩, ho, hlast, hsz⟩ := h
 obtain rfl := h2 ht
 have hf := hm.hf
 unfold layK
 rw [if_neg (by simp [hl])]
 simp only
 rcases layP_cases K.T K.file (recB now [entOf now c]) with ⟨e, p⟩ | ⟨e, p, q⟩ | ⟨e, q, p⟩
 ·rw [e]
  generalize (layP K.T K.file (recB now [entOf now c])).2 = T' at *
  have hbf : T'.b K.file = K.T.b K.file ++ recB now [entOf now c] := by rw [p.b, if_pos rfl]
  have hlf : T'.last K.file = (K.T.b K.file ++ recB now [entOf now c]).length := by rw [p.last, if_pos rfl]
  have hM := hm.lay (T' := T') hF hd hbf hlf (by rw [p.b, if_neg (by omega)]; exact hm.b2) (by rw [p.b, if_neg (by omega)]; exact hm.b3)
  refine ⟨fun _ => ⟨by simp, ⟨_, [], hM, fun _ => rfl, fun e => ?_⟩, ?_, ?_, ?_⟩, fun e => by omega, fun e => by omega, .inl rfl, p.room, rfl⟩
  ·have e : K.torn = true := e
   rw [ht] at e; cases e
  ·show T'.b (1 - K.file) = []
   rw [p.b, if_neg (by omega)]
   exact ho
  ·show T'.last K.file = (T'.b K.file).length
   rw [hlf, hbf]
  ·show ((T'.b K.file).length : Int) ≤ B + 60
   rw [hbf, List.length_append]
   omega
 ·rw [e, p]
  refine ⟨fun e => by omega, fun _ => ⟨by simp, hh, by omega⟩, fun e => by omega, .inr (.inl rfl), rfl, rfl⟩
 ·rw [e]
  generalize (layP K.T K.file (recB now [entOf now c])).2 = T' at *
  rcases p with rfl | p
  ·exact ⟨fun e => by omega, fun e => by omega, fun _ => ⟨by simp, q, hcl⟩, .inr (.inr rfl), rfl, rfl⟩
  ·have hbf : T'.b K.file = K.T.b K.file ++ recB now [entOf now c] := by rw [p.b, if_pos rfl]
   have hbo : T'.b (1 - K.file) = [] := by rw [p.b, if_neg (by omega)]; exact ho
   refine ⟨fun e => by omega, fun e => by omega, fun _ => ⟨by simp, q, ⟨K.file, rs, recB now [entOf now c], ⟨hf, hm.fit, hm.play, hm.time, by rw [hbf, hm.eq]; simp, by rw [p.last, if_pos rfl]; exact hm.low, by rw [p.b, if_neg (by omega)]; exact hm.b2, by rw [p.b, if_neg (by omega)]; exact hm.b3⟩, ?_, ?_, .inr ⟨c, now', fl', rfl, hd, rfl, hbo⟩⟩⟩, .inr (.inr rfl), p.room, rfl⟩
   ·rw [hbf, List.length_append]; omega
   ·rw [hbo]; exact hC
theorem rep_disk {T : TP} {f : Nat} {torn : Bool} {now : Int} {fl : Fls} {B C N : Int} (h : DiskL T f torn now fl B) (hF : FlOk N now fl) (hw : ((wholeK now fl).length : Int) ≤ C) (hL : ∀ i, i < 4 → T.last i ≤ (T.b i).length) :
  ((repP T f (wholeK now fl)).1 = 0 ∧ DiskL (repP T f (wholeK now fl)).2 (1 - f) false now fl C ∧ (repP T f (wholeK now fl)).2.room = T.room) ∨
  ((repP T f (wholeK now fl)).1 = 15 ∧ (repP T f (wholeK now fl)).2 = T ∧ T.room < B + C) ∨
  ((repP T f (wholeK now fl)).1 = 16 ∧ (repP T f (wholeK now fl)).2.fuse = 0 ∧ (repP T f (wholeK now fl)).2.room = T.room ∧ ∀ mb, DiskC (repP T f (wholeK now fl)).2 now fl mb B C) := by
 have hf := h.hf
 have hused := h.used
 have hC : 0 ≤ C := by omega
 have hcl := h.close hC
 have hplay := wholeEs_play hF
 have hfit := wholeEs_fit hF
 have hnow := wholeEs_now hF
 have hln := esTo_len now fl 21
 rw [esTo_all] at hln
 obtain ⟨⟨rs, t, hm, h2, h3⟩, ho, hlast, hsz⟩ := h
 rcases repP_cases T hf (wholeK now fl) with ⟨e, p1, p2, p3⟩ | ⟨e, p, q⟩ | ⟨e, q, p⟩
 ·refine .inl ⟨e, ?_, p3⟩
  generalize (repP T f (wholeK now fl)).2 = T' at *
  have hb1 : T'.b (1 - f) = wholeK now fl := by rw [p1, if_neg (by omega), if_pos rfl, ho]; rfl
  have hll : T'.last (1 - f) = (wholeK now fl).length := by
   rw [p2, if_neg (by omega), if_pos rfl]
   by_cases hz : wholeK now fl = []
   ·have := hL (1 - f) (by omega)
    rw [ho] at this
    simp only [List.length_nil] at this
    rw [if_pos hz, hz]
    simp only [List.length_nil]
    omega
   ·rw [if_neg hz, ho]; rfl
  by_cases hz : wholeEs now fl = []
  ·have hwk : wholeK now fl = [] := by unfold wholeK; rw [if_pos hz]
   rw [hz] at hplay
   refine ⟨⟨[], [], ⟨by omega, trivial, hplay, ?_, by rw [hb1, hwk]; rfl, Nat.zero_le _, ?_, ?_⟩, fun _ => rfl, fun e => by cases e⟩, ?_, by rw [hll, hb1], by rw [hb1]; exact hw⟩
   ·exact hplay.1.symm
   ·rw [p1, if_neg (by omega), if_neg (by omega)]; exact hm.b2
   ·rw [p1, if_neg (by omega), if_neg (by omega)]; exact hm.b3
   ·rw [show 1 - (1 - f) = f by omega, p1, if_pos rfl]
  ·have hwk : wholeK now fl = recB 0 (wholeEs now fl) := by unfold wholeK; rw [if_neg hz]
   have hrs : recsB 0 [wholeEs now fl] = wholeK now fl := by rw [hwk]; simp [recsB]
   refine ⟨⟨[wholeEs now fl], [], ⟨by omega, ⟨⟨hfit, by omega⟩, trivial⟩, by simpa using hplay, hnow, by rw [hb1, hrs]; simp, by rw [hrs, hll]; exact Nat.le_refl _, ?_, ?_⟩, fun _ => rfl, fun e => by cases e⟩, ?_, by rw [hll, hb1], by rw [hb1]; exact hw⟩
   ·rw [p1, if_neg (by omega), if_neg (by omega)]; exact hm.b2
   ·rw [p1, if_neg (by omega), if_neg (by omega)]; exact hm.b3
   ·rw [show 1 - (1 - f) = f by omega, p1, if_pos rfl]
 ·exact .inr (.inl ⟨e, p, by omega⟩)
 ·refine .inr (.inr ⟨e, q, ?_, ?_⟩)
  ·rcases p with p | ⟨_, l, p⟩
   ·rw [p]
   ·exact p.room
  ·generalize (repP T f (wholeK now fl)).2 = T' at *
   intro mb
   rcases p with rfl | ⟨hz, l, p⟩
   ·exact hcl mb
   ·have hb1 : T'.b (1 - f) = wholeK now fl := by rw [p.b, if_pos rfl, ho]; rfl
    have hbf : T'.b f = T.b f := by rw [p.b, if_neg (by omega)]
    have hlf : T'.last f = T.last f := by rw [p.last, if_neg (by omega)]
    have hzz : wholeEs now fl ≠ [] := fun e => hz (by unfold wholeK; rw [if_pos e])
    have hwk : wholeK now fl = recB 0 (wholeEs now fl) := by unfold wholeK; rw [if_neg hzz]
    refine ⟨f, rs, t, ⟨hf, hm.fit, hm.play, hm.time, by rw [hbf]; exact hm.eq, by rw [hlf]; exact hm.low, by rw [p.b, if_neg (by omega)]; exact hm.b2, by rw [p.b, if_neg (by omega)]; exact hm.b3⟩, by rw [hbf]; exact hsz, by rw [hb1]; exact hw, .inl ⟨?_, .inr (.inr ⟨by rw [hb1, hwk], hzz⟩)⟩⟩
    cases torn with
    | false => exact .inl (h2 rfl)
    | true => exact .inr ⟨h3 rfl, by rw [hbf, hlf]; exact hlast⟩
theorem save_disk {K : KS} {now now' : Int} {fl fl' : Fls} {B C N : Int} {c : Cmd} (h : DiskL K.T K.file K.torn now fl B) (hl : K.live = true) (hF : FlOk N now fl) (hd : doK now fl c = (0, now', fl')) (hw : ((wholeK now fl).length : Int) ≤ C) (hCB : C ≤ B) (hL : ∀ i, i < 4 → K.T.last i ≤ (K.T.b i).length) :
  SavedD K (saveK K (wholeK now fl) (recB now [entOf now c])).2 (saveK K (wholeK now fl) (recB now [entOf now c])).1 now now' fl fl' B C := by
 have hC : 0 ≤ C := by omega
 unfold saveK
 by_cases ht : K.torn = true
 ·rw [if_pos ht, replaceK_eq hl]
  simp only
  rcases rep_disk h hF hw hL with ⟨e, p, q⟩ | ⟨e, p, q⟩ | ⟨e, q, r, p⟩
  ·rw [if_pos e]
   have k1 : (repK K (repP K.T K.file (wholeK now fl))).live = true := by unfold repK; simp [e]
   have k2 : (repK K (repP K.T K.file (wholeK now fl))).torn = false := by unfold repK; simp [e]
   have k3 : (repK K (repP K.T K.file (wholeK now fl))).file = 1 - K.file := by unfold repK; simp [e]
   have k4 : (repK K (repP K.T K.file (wholeK now fl))).T = (repP K.T K.file (wholeK now fl)).2 := rfl
   have k5 : (repK K (repP K.T K.file (wholeK now fl))).tb = K.tb := rfl
   rw [← k4] at p q
   rw [← k3] at p
   generalize repK K (repP K.T K.file (wholeK now fl)) = K1 at *
   obtain ⟨s1, s2, s3, s4, s5, s6⟩ := lay_disk (by rw [k2]; exact p) k1 k2 hF hd hC
   exact ⟨fun e => ⟨(s1 e).1, (s1 e).2.more (by omega)⟩, fun e => ⟨(s2 e).1, (s2 e).2.1.more hCB, by have := (s2 e).2.2; omega⟩, fun e => ⟨(s3 e).1, (s3 e).2.1, (s3 e).2.2.more (by omega) (Int.le_refl _)⟩, s4, by rw [s5, q], by rw [s6, k5]⟩
  ·rw [if_neg (by omega), e]
   have k1 : (repK K (repP K.T K.file (wholeK now fl))) = K := by
    unfold repK
    rw [p, e]
    obtain ⟨a, b, c, d, t⟩ := K
    simp only at hl
    subst hl
    rfl
   rw [k1]
   exact ⟨fun e => by omega, fun _ => ⟨hl, h, by omega⟩, fun e => by omega, .inr (.inl rfl), rfl, rfl⟩
  ·rw [if_neg (by omega), e]
   exact ⟨fun e => by omega, fun e => by omega, fun _ => ⟨by unfold repK; simp [e], q, (p _).more (by omega) (Int.le_refl _)⟩, .inr (.inr rfl), r, rfl⟩
 ·rw [if_neg ht]
  exact lay_disk h hl (by simpa using ht) hF hd hC
structure PackedD (K K' : KS) (e : Int) (now : Int) (fl : Fls) (B C : Int) : Prop where
 ok : e = 0 → K'.live = true ∧ DiskL K'.T K'.file K'.torn now fl C
 space : e = 15 → K'.live = true ∧ DiskL K'.T K'.file K'.torn now fl B ∧ K.T.room < B + C
 dead : e = 16 → K'.live = false ∧ K'.T.fuse = 0 ∧ ∀ mb, DiskC K'.T now fl mb B C
 err : e = 0 ∨ e = 15 ∨ e = 16
 room : K'.T.room = K.T.room
 tb : K'.tb = K.tb
theorem pack_disk {K : KS} {now : Int} {fl : Fls} {B C N : Int} (h : DiskL K.T K.file K.torn now fl B) (hl : K.live = true) (hF : FlOk N now fl) (hw : ((wholeK now fl).length : Int) ≤ C) (hL : ∀ i, i < 4 → K.T.last i ≤ (K.T.b i).length) :
  PackedD K (packK now fl K).2 (packK now fl K).1 now fl B C := by
 unfold packK
 rw [if_neg (by simp [hl])]
 by_cases hs : (K.T.b K.file).length ≤ (wholeK now fl).length
 ·rw [if_pos hs]
  exact ⟨fun _ => ⟨hl, ⟨h.ex, h.oth, h.last, by show ((K.T.b K.file).length : Int) ≤ C; omega⟩⟩, fun e => by omega, fun e => by omega, .inl rfl, rfl, rfl⟩
 ·rw [if_neg hs]
  simp only
  rcases rep_disk h hF hw hL with ⟨e, p, q⟩ | ⟨e, p, q⟩ | ⟨e, q, r, p⟩
  ·rw [e]
   refine ⟨fun _ => ⟨by unfold repK; simp [e], ?_⟩, fun e => by omega, fun e => by omega, .inl rfl, q, rfl⟩
   have k2 : (repK K (repP K.T K.file (wholeK now fl))).torn = false := by unfold repK; simp [e]
   have k3 : (repK K (repP K.T K.file (wholeK now fl))).file = 1 - K.file := by unfold repK; simp [e]
   rw [k2, k3]
   exact p
  ·rw [e]
   have k1 : (repK K (repP K.T K.file (wholeK now fl))) = K := by
    unfold repK
    rw [p, e]
    obtain ⟨a, b, c, d, t⟩ := K
    simp only at hl
    subst hl
    rfl
   rw [k1]
   exact ⟨fun e => by omega, fun _ => ⟨hl, h, q⟩, fun e => by omega, .inr (.inl rfl), rfl, rfl⟩
  ·rw [e]
   exact ⟨fun e => by omega, fun e => by omega, fun _ => ⟨by unfold repK; simp [e], q, p⟩, .inr (.inr rfl), r, rfl⟩
end Go.Proofs.Ythhibagcpjeihaa
