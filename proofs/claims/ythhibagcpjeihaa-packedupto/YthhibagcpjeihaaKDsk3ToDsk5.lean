import Derived.Test.YthhibagcpjeihaaKKeepGToPTape2
import Derived.Test.YthhibagcpjeihaaKSto3ToSav2
namespace Go.Proofs.Ythhibagcpjeihaa
open Go.RowKit
open M
set_option linter.unusedVariables false
set_option linter.unusedSimpArgs false
set_option maxRecDepth 100000
theorem recsB_snoc : ∀ (rs : List (List Ent)) (r : List Ent) (now : Int), recsB now (rs ++ [r]) = recsB now rs ++ recB (recsNow now rs) r
 | [], r, now => by simp [recsB, recsNow]
 | x :: rs, r, now => by
  show recB now x ++ recsB (entsNow now x) (rs ++ [r]) = _
  rw [recsB_snoc rs r]
  simp [recsB, recsNow]
theorem RsFit.snoc : ∀ {rs : List (List Ent)} {r : List Ent} {now : Int}, RsFit now rs → EsFit (recsNow now rs) r → r.length < 9223372036854775808 → RsFit now (rs ++ [r])
 | [], r, now, _, h, hl => ⟨⟨h, hl⟩, trivial⟩
 | x :: rs, r, now, hh, h, hl => ⟨hh.1, RsFit.snoc hh.2 h hl⟩
theorem recsNow_snoc : ∀ (rs : List (List Ent)) (r : List Ent) (now : Int), recsNow now (rs ++ [r]) = entsNow (recsNow now rs) r
 | [], r, now => rfl
 | x :: rs, r, now => recsNow_snoc rs r (entsNow now x)
theorem entOf_now {now now' : Int} {fl fl' : Fls} {c : Cmd} (hd : doK now fl c = (0, now', fl')) : entNow now (entOf now c) = now' := by
 have h8 : c.kind = 8 → now' = now + c.time := fun k => by
  unfold doK at hd
  rw [if_neg (by omega), if_pos k] at hd
  split at hd
  ·injection hd with _ hd
   injection hd with e _
   exact e.symm
  ·exact absurd hd (by simp)
 have hn8 : c.kind ≠ 8 → now' = now := fun k => by
  unfold doK at hd
  repeat' split at hd
  all_goals first
   | contradiction
   |(injection hd with h1 h2; injection h2 with h2 h3; omega)
 unfold entNow
 by_cases k : c.kind = 8
 ·have e : (entOf now c).kind = 6 := by unfold entOf; simp [k]
  rw [if_pos e, h8 k]
  rfl
 ·have e : (entOf now c).kind ≠ 6 := by
   unfold entOf
   simp only
   repeat' split
   all_goals omega
  rw [if_neg e, hn8 k]
structure DiskM (T : TP) (f : Nat) (now : Int) (fl : Fls) (rs : List (List Ent)) (t : List Int) : Prop where
 hf : f < 2
 fit : RsFit 0 rs
 play : PlayE 0 noFl rs.flatten now fl
 time : recsNow 0 rs = now
 eq : T.b f = recsB 0 rs ++ t
 low : (recsB 0 rs).length ≤ T.last f
 b2 : T.b 2 = []
 b3 : T.b 3 = []
def TornP (now : Int) (t : List Int) : Prop := t ≠ [] ∧ recP now t = none
structure DiskL (T : TP) (f : Nat) (torn : Bool) (now : Int) (fl : Fls) (B : Int) : Prop where
 ex : ∃ rs t, DiskM T f now fl rs t ∧ (torn = false → t = []) ∧ (torn = true → TornP now t)
 oth : T.b (1 - f) = []
 last : T.last f = (T.b f).length
 size : ((T.b f).length : Int) ≤ B
def OthP (T : TP) (g : Nat) (now : Int) (fl : Fls) : Prop := T.b g = [] ∨ (TornP 0 (T.b g) ∧ T.last g = (T.b g).length) ∨ (T.b g = recB 0 (wholeEs now fl) ∧ wholeEs now fl ≠ [])
structure DiskC (T : TP) (now : Int) (fl : Fls) (mb : Option (Int × Fls)) (B C : Int) : Prop where
 ex : ∃ f rs t, DiskM T f now fl rs t ∧ ((T.b f).length : Int) ≤ B ∧ ((T.b (1 - f)).length : Int) ≤ C ∧
  (((t = [] ∨ (TornP now t ∧ T.last f = (T.b f).length)) ∧ OthP T (1 - f) now fl) ∨
   (∃ c now' fl', mb = some (now', fl') ∧ doK now fl c = (0, now', fl') ∧ t = recB now [entOf now c] ∧ T.b (1 - f) = []))
theorem DiskL.hf {T : TP} {f : Nat} {torn : Bool} {now : Int} {fl : Fls} {B : Int} (h : DiskL T f torn now fl B) : f < 2 := by
 obtain ⟨rs, t, h1, _⟩ := h.ex
 exact h1.hf
theorem DiskL.close {T : TP} {f : Nat} {torn : Bool} {now : Int} {fl : Fls} {B C : Int} (h : DiskL T f torn now fl B) (hC : 0 ≤ C) (mb : Option (Int × Fls)) : DiskC T now fl mb B C := by
 obtain ⟨rs, t, h1, h2, h3⟩ := h.ex
 refine ⟨f, rs, t, h1, h.size, by rw [h.oth]; exact hC, .inl ⟨?_, .inl h.oth⟩⟩
 cases torn with
 | false => exact .inl (h2 rfl)
 | true => exact .inr ⟨h3 rfl, h.last⟩
theorem DiskL.used {T : TP} {f : Nat} {torn : Bool} {now : Int} {fl : Fls} {B : Int} (h : DiskL T f torn now fl B) : T.used = (T.b f).length := by
 obtain ⟨rs, t, h1, _⟩ := h.ex
 have := h.oth
 have h2 := h1.b2
 have h3 := h1.b3
 unfold TP.used
 have hf := h1.hf
 have : f = 0 ∨ f = 1 := by omega
 rcases this with rfl | rfl
 ·rw [show (1 - 0 : Nat) = 1 from rfl] at *
  simp [*]
 ·rw [show (1 - 1 : Nat) = 0 from rfl] at *
  simp [*]
theorem DiskL.zero (n : Int) (fu : Int) {B : Int} (hB : 0 ≤ B) : DiskL ⟨fun _ => [], fun _ => 0, n, fu⟩ 0 false 0 noFl B :=
 ⟨⟨[], [], ⟨by omega, trivial, ⟨rfl, rfl⟩, rfl, rfl, Nat.le_refl _, rfl, rfl⟩, fun _ => rfl, fun e => (by cases e)⟩, rfl, rfl, by simpa using hB⟩
theorem DiskL.more {T : TP} {f : Nat} {torn : Bool} {now : Int} {fl : Fls} {B B' : Int} (h : DiskL T f torn now fl B) (hB : B ≤ B') : DiskL T f torn now fl B' := ⟨h.ex, h.oth, h.last, Int.le_trans h.size hB⟩
theorem DiskC.more {T : TP} {now : Int} {fl : Fls} {mb : Option (Int × Fls)} {B C B' C' : Int} (h : DiskC T now fl mb B C) (hB : B ≤ B') (hC : C ≤ C') : DiskC T now fl mb B' C' := by
 obtain ⟨f, rs, t, h1, h2, h3, h4⟩ := h.ex
 exact ⟨f, rs, t, h1, Int.le_trans h2 hB, Int.le_trans h3 hC, h4⟩
theorem DiskM.lay {T T' : TP} {f : Nat} {now now' : Int} {fl fl' : Fls} {rs : List (List Ent)} {c : Cmd} {N : Int} (h : DiskM T f now fl rs []) (hF : FlOk N now fl) (hd : doK now fl c = (0, now', fl')) (hb : T'.b f = T.b f ++ recB now [entOf now c]) (hl : T'.last f = (T.b f ++ recB now [entOf now c]).length) (h2 : T'.b 2 = []) (h3 : T'.b 3 = []) :
  DiskM T' f now' fl' (rs ++ [[entOf now c]]) [] := by
 have hfit := entOf_fit hF hd
 have he : recsB 0 (rs ++ [[entOf now c]]) = T.b f ++ recB now [entOf now c] := by
  rw [recsB_snoc, h.time, h.eq]
  simp
 refine ⟨h.hf, RsFit.snoc h.fit ⟨by rw [h.time]; exact hfit, trivial⟩ (by simp), ?_, ?_, by rw [hb, he]; simp, by rw [he, hl]; exact Nat.le_refl _, h2, h3⟩
 ·rw [List.flatten_append]
  exact playE_append _ h.play (playE_one (.inl ⟨c, rfl, hd⟩))
 ·rw [recsNow_snoc, h.time]
  exact entOf_now hd
structure SavedD (K K' : KS) (e : Int) (now now' : Int) (fl fl' : Fls) (B C : Int) : Prop where
 ok : e = 0 → K'.live = true ∧ DiskL K'.T K'.file K'.torn now' fl' (B + 60)
 space : e = 15 → K'.live = true ∧ DiskL K'.T K'.file K'.torn now fl B ∧ K.T.room < B + C + 60
 dead : e = 16 → K'.live = false ∧ K'.T.fuse = 0 ∧ DiskC K'.T now fl (some (now', fl')) (B + 60) C
 err : e = 0 ∨ e = 15 ∨ e = 16
 room : K'.T.room = K.T.room
 tb : K'.tb = K.tb
theorem lay_disk {K : KS} {now now' : Int} {fl fl' : Fls} {B C N : Int} {c : Cmd} (h : DiskL K.T K.file K.torn now fl B) (hl : K.live = true) (ht : K.torn = false) (hF : FlOk N now fl) (hd : doK now fl c = (0, now', fl')) (hC : 0 ≤ C) :
  SavedD K (layK K (recB now [entOf now c])).2 (layK K (recB now [entOf now c])).1 now now' fl fl' B C := by
 have hk := ent_kind now c
 have hlen := rec1_len ((entOf_fit hF hd).c (by omega))
 have hused := h.used
 have hcl := (h.close hC (some (now', fl'))).more (show B ≤ B + 60 by omega) (Int.le_refl C)
 have hh := h
 obtain ⟨⟨rs, t, hm, h2, _⟩, ho, hlast, hsz⟩ := h
 obtain rfl := h2 ht
 have hf := hm.hf
 unfold layK
 rw [if_neg (by simp [hl])]
 simp only
 rcases layP_cases K.T K.file (recB now [entOf now c]) with ⟨e, p⟩ | ⟨e, p, q⟩ | ⟨e, q, p⟩
 ·rw [e]
  generalize (layP K.T K.file (recB now [entOf now c])).2 = T' at *
  have hbf : T'.b K.file = K.T.b K.file ++ recB now [entOf now c] := by rw [p.b, if_pos rfl]
  have hlf : T'.last K.file = (K.T.b K.file ++ recB now [entOf now c]).length := by rw [p.last, if_pos rfl]
  have hM := hm.lay (T' := T') hF hd hbf hlf (by rw [p.b, if_neg (by omega)]; exact hm.b2) (by rw [p.b, if_neg (by omega)]; exact hm.b3)
  refine ⟨fun _ => ⟨by simp, ⟨_, [], hM, fun _ => rfl, fun e => ?_⟩, ?_, ?_, ?_⟩, fun e => by omega, fun e => by omega, .inl rfl, p.room, rfl⟩
  ·have e : K.torn = true := e
   rw [ht] at e; cases e
  ·show T'.b (1 - K.file) = []
   rw [p.b, if_neg (by omega)]
   exact ho
  ·show T'.last K.file = (T'.b K.file).length
   rw [hlf, hbf]
  ·show ((T'.b K.file).length : Int) ≤ B + 60
   rw [hbf, List.length_append]
   omega
 ·rw [e, p]
  refine ⟨fun e => by omega, fun _ => ⟨by simp, hh, by omega⟩, fun e => by omega, .inr (.inl rfl), rfl, rfl⟩
 ·rw [e]
  generalize (layP K.T K.file (recB now [entOf now c])).2 = T' at *
  rcases p with rfl | p
  ·exact ⟨fun e => by omega, fun e => by omega, fun _ => ⟨by simp, q, hcl⟩, .inr (.inr rfl), rfl, rfl⟩
  ·have hbf : T'.b K.file = K.T.b K.file ++ recB now [entOf now c] := by rw [p.b, if_pos rfl]
   have hbo : T'.b (1 - K.file) = [] := by rw [p.b, if_neg (by omega)]; exact ho
   refine ⟨fun e => by omega, fun e => by omega, fun _ => ⟨by simp, q, ⟨K.file, rs, recB now [entOf now c], ⟨hf, hm.fit, hm.play, hm.time, by rw [hbf, hm.eq]; simp, by rw [p.last, if_pos rfl]; exact hm.low, by rw [p.b, if_neg (by omega)]; exact hm.b2, by rw [p.b, if_neg (by omega)]; exact hm.b3⟩, ?_, ?_, .inr ⟨c, now', fl', rfl, hd, rfl, hbo⟩⟩⟩, .inr (.inr rfl), p.room, rfl⟩
   ·rw [hbf, List.length_append]; omega
   ·rw [hbo]; exact hC
theorem rep_disk {T : TP} {f : Nat} {torn : Bool} {now : Int} {fl : Fls} {B C N : Int} (h : DiskL T f torn now fl B) (hF : FlOk N now fl) (hw : ((wholeK now fl).length : Int) ≤ C) (hL : ∀ i, i < 4 → T.last i ≤ (T.b i).length) :
  ((repP T f (wholeK now fl)).1 = 0 ∧ DiskL (repP T f (wholeK now fl)).2 (1 - f) false now fl C ∧ (repP T f (wholeK now fl)).2.room = T.room) ∨
  ((repP T f (wholeK now fl)).1 = 15 ∧ (repP T f (wholeK now fl)).2 = T ∧ T.room < B + C) ∨
  ((repP T f (wholeK now fl)).1 = 16 ∧ (repP T f (wholeK now fl)).2.fuse = 0 ∧ (repP T f (wholeK now fl)).2.room = T.room ∧ ∀ mb, DiskC (repP T f (wholeK now fl)).2 now fl mb B C) := by
 have hf := h.hf
 have hused := h.used
 have hC : 0 ≤ C := by omega
 have hcl := h.close hC
 have hplay := wholeEs_play hF
 have hfit := wholeEs_fit hF
 have hnow := wholeEs_now hF
 have hln := esTo_len now fl 21
 rw [esTo_all] at hln
 obtain ⟨⟨rs, t, hm, h2, h3⟩, ho, hlast, hsz⟩ := h
 rcases repP_cases T hf (wholeK now fl) with ⟨e, p1, p2, p3⟩ | ⟨e, p, q⟩ | ⟨e, q, p⟩
 ·refine .inl ⟨e, ?_, p3⟩
  generalize (repP T f (wholeK now fl)).2 = T' at *
  have hb1 : T'.b (1 - f) = wholeK now fl := by rw [p1, if_neg (by omega), if_pos rfl, ho]; rfl
  have hll : T'.last (1 - f) = (wholeK now fl).length := by
   rw [p2, if_neg (by omega), if_pos rfl]
   by_cases hz : wholeK now fl = []
   ·have := hL (1 - f) (by omega)
    rw [ho] at this
    simp only [List.length_nil] at this
    rw [if_pos hz, hz]
    simp only [List.length_nil]
    omega
   ·rw [if_neg hz, ho]; rfl
  by_cases hz : wholeEs now fl = []
  ·have hwk : wholeK now fl = [] := by unfold wholeK; rw [if_pos hz]
   rw [hz] at hplay
   refine ⟨⟨[], [], ⟨by omega, trivial, hplay, ?_, by rw [hb1, hwk]; rfl, Nat.zero_le _, ?_, ?_⟩, fun _ => rfl, fun e => by cases e⟩, ?_, by rw [hll, hb1], by rw [hb1]; exact hw⟩
   ·exact hplay.1.symm
   ·rw [p1, if_neg (by omega), if_neg (by omega)]; exact hm.b2
   ·rw [p1, if_neg (by omega), if_neg (by omega)]; exact hm.b3
   ·rw [show 1 - (1 - f) = f by omega, p1, if_pos rfl]
  ·have hwk : wholeK now fl = recB 0 (wholeEs now fl) := by unfold wholeK; rw [if_neg hz]
   have hrs : recsB 0 [wholeEs now fl] = wholeK now fl := by rw [hwk]; simp [recsB]
   refine ⟨⟨[wholeEs now fl], [], ⟨by omega, ⟨⟨hfit, by omega⟩, trivial⟩, by simpa using hplay, hnow, by rw [hb1, hrs]; simp, by rw [hrs, hll]; exact Nat.le_refl _, ?_, ?_⟩, fun _ => rfl, fun e => by cases e⟩, ?_, by rw [hll, hb1], by rw [hb1]; exact hw⟩
   ·rw [p1, if_neg (by omega), if_neg (by omega)]; exact hm.b2
   ·rw [p1, if_neg (by omega), if_neg (by omega)]; exact hm.b3
   ·rw [show 1 - (1 - f) = f by omega, p1, if_pos rfl]
 ·exact .inr (.inl ⟨e, p, by omega⟩)
 ·refine .inr (.inr ⟨e, q, ?_, ?_⟩)
  ·rcases p with p | ⟨_, l, p⟩
   ·rw [p]
   ·exact p.room
  ·generalize (repP T f (wholeK now fl)).2 = T' at *
   intro mb
   rcases p with rfl | ⟨hz, l, p⟩
   ·exact hcl mb
   ·have hb1 : T'.b (1 - f) = wholeK now fl := by rw [p.b, if_pos rfl, ho]; rfl
    have hbf : T'.b f = T.b f := by rw [p.b, if_neg (by omega)]
    have hlf : T'.last f = T.last f := by rw [p.last, if_neg (by omega)]
    have hzz : wholeEs now fl ≠ [] := fun e => hz (by unfold wholeK; rw [if_pos e])
    have hwk : wholeK now fl = recB 0 (wholeEs now fl) := by unfold wholeK; rw [if_neg hzz]
    refine ⟨f, rs, t, ⟨hf, hm.fit, hm.play, hm.time, by rw [hbf]; exact hm.eq, by rw [hlf]; exact hm.low, by rw [p.b, if_neg (by omega)]; exact hm.b2, by rw [p.b, if_neg (by omega)]; exact hm.b3⟩, by rw [hbf]; exact hsz, by rw [hb1]; exact hw, .inl ⟨?_, .inr (.inr ⟨by rw [hb1, hwk], hzz⟩)⟩⟩
    cases torn with
    | false => exact .inl (h2 rfl)
    | true => exact .inr ⟨h3 rfl, by rw [hbf, hlf]; exact hlast⟩
theorem save_disk {K : KS} {now now' : Int} {fl fl' : Fls} {B C N : Int} {c : Cmd} (h : DiskL K.T K.file K.torn now fl B) (hl : K.live = true) (hF : FlOk N now fl) (hd : doK now fl c = (0, now', fl')) (hw : ((wholeK now fl).length : Int) ≤ C) (hCB : C ≤ B) (hL : ∀ i, i < 4 → K.T.last i ≤ (K.T.b i).length) :
  SavedD K (saveK K (wholeK now fl) (recB now [entOf now c])).2 (saveK K (wholeK now fl) (recB now [entOf now c])).1 now now' fl fl' B C := by
 have hC : 0 ≤ C := by omega
 unfold saveK
 by_cases ht : K.torn = true
 ·rw [if_pos ht, replaceK_eq hl]
  simp only
  rcases rep_disk h hF hw hL with ⟨e, p, q⟩ | ⟨e, p, q⟩ | ⟨e, q, r, p⟩
  ·rw [if_pos e]
   have k1 : (repK K (repP K.T K.file (wholeK now fl))).live = true := by unfold repK; simp [e]
   have k2 : (repK K (repP K.T K.file (wholeK now fl))).torn = false := by unfold repK; simp [e]
   have k3 : (repK K (repP K.T K.file (wholeK now fl))).file = 1 - K.file := by unfold repK; simp [e]
   have k4 : (repK K (repP K.T K.file (wholeK now fl))).T = (repP K.T K.file (wholeK now fl)).2 := rfl
   have k5 : (repK K (repP K.T K.file (wholeK now fl))).tb = K.tb := rfl
   rw [← k4] at p q
   rw [← k3] at p
   generalize repK K (repP K.T K.file (wholeK now fl)) = K1 at *
   obtain ⟨s1, s2, s3, s4, s5, s6⟩ := lay_disk (by rw [k2]; exact p) k1 k2 hF hd hC
   exact ⟨fun e => ⟨(s1 e).1, (s1 e).2.more (by omega)⟩, fun e => ⟨(s2 e).1, (s2 e).2.1.more hCB, by have := (s2 e).2.2; omega⟩, fun e => ⟨(s3 e).1, (s3 e).2.1, (s3 e).2.2.more (by omega) (Int.le_refl _)⟩, s4, by rw [s5, q], by rw [s6, k5]⟩
  ·rw [if_neg (by omega), e]
   have k1 : (repK K (repP K.T K.file (wholeK now fl))) = K := by
    unfold repK
    rw [p, e]
    obtain ⟨a, b, c, d, t⟩ := K
    simp only at hl
    subst hl
    rfl
   rw [k1]
   exact ⟨fun e => by omega, fun _ => ⟨hl, h, by omega⟩, fun e => by omega, .inr (.inl rfl), rfl, rfl⟩
  ·rw [if_neg (by omega), e]
   exact ⟨fun e => by omega, fun e => by omega, fun _ => ⟨by unfold repK; simp [e], q, (p _).more (by omega) (Int.le_refl _)⟩, .inr (.inr rfl), r, rfl⟩
 ·rw [if_neg ht]
  exact lay_disk h hl (by simpa using ht) hF hd hC
structure PackedD (K K' : KS) (e : Int) (now : Int) (fl : Fls) (B C : Int) : Prop where
 ok : e = 0 → K'.live = true ∧ DiskL K'.T K'.file K'.torn now fl C
 space : e = 15 → K'.live = true ∧ DiskL K'.T K'.file K'.torn now fl B ∧ K.T.room < B + C
 dead : e = 16 → K'.live = false ∧ K'.T.fuse = 0 ∧ ∀ mb, DiskC K'.T now fl mb B C
 err : e = 0 ∨ e = 15 ∨ e = 16
 room : K'.T.room = K.T.room
 tb : K'.tb = K.tb
theorem pack_disk {K : KS} {now : Int} {fl : Fls} {B C N : Int} (h : DiskL K.T K.file K.torn now fl B) (hl : K.live = true) (hF : FlOk N now fl) (hw : ((wholeK now fl).length : Int) ≤ C) (hL : ∀ i, i < 4 → K.T.last i ≤ (K.T.b i).length) :
  PackedD K (packK now fl K).2 (packK now fl K).1 now fl B C := by
 unfold packK
 rw [if_neg (by simp [hl])]
 by_cases hs : (K.T.b K.file).length ≤ (wholeK now fl).length
 ·rw [if_pos hs]
  exact ⟨fun _ => ⟨hl, ⟨h.ex, h.oth, h.last, by show ((K.T.b K.file).length : Int) ≤ C; omega⟩⟩, fun e => by omega, fun e => by omega, .inl rfl, rfl, rfl⟩
 ·rw [if_neg hs]
  simp only
  rcases rep_disk h hF hw hL with ⟨e, p, q⟩ | ⟨e, p, q⟩ | ⟨e, q, r, p⟩
  ·rw [e]
   refine ⟨fun _ => ⟨by unfold repK; simp [e], ?_⟩, fun e => by omega, fun e => by omega, .inl rfl, q, rfl⟩
   have k2 : (repK K (repP K.T K.file (wholeK now fl))).torn = false := by unfold repK; simp [e]
   have k3 : (repK K (repP K.T K.file (wholeK now fl))).file = 1 - K.file := by unfold repK; simp [e]
   rw [k2, k3]
   exact p
  ·rw [e]
   have k1 : (repK K (repP K.T K.file (wholeK now fl))) = K := by
    unfold repK
    rw [p, e]
    obtain ⟨a, b, c, d, t⟩ := K
    simp only at hl
    subst hl
    rfl
   rw [k1]
   exact ⟨fun e => by omega, fun _ => ⟨hl, h, q⟩, fun e => by omega, .inr (.inl rfl), rfl, rfl⟩
  ·rw [e]
   exact ⟨fun e => by omega, fun e => by omega, fun _ => ⟨by unfold repK; simp [e], q, p⟩, .inr (.inr rfl), r, rfl⟩
structure OpndT (T T' : TP) (e : Int) (k : Nat) : Prop where
 err : e = 0 ∨ e = 16
 room : T'.room = T.room
 ok : e = 0 → T'.b k = T.b k ∧ T'.last k = (T.b k).length ∧ T'.b (1 - k) = [] ∧ T'.b 2 = T.b 2 ∧ T'.b 3 = T.b 3
 dead : e = 16 → T'.fuse = 0 ∧ (∀ j, T'.b j = T.b j) ∧ ∀ j, T'.last j = T.last j ∨ T'.last j = (T.b j).length
theorem openP_cases (T : TP) {k : Nat} (hk : k < 2) (hL : ∀ i, i < 4 → T.last i ≤ (T.b i).length) : OpndT T (openP T k (T.b k).length (T.b (1 - k)).length).2 (openP T k (T.b k).length (T.b (1 - k)).length).1 k := by
 unfold openP
 have hkl := hL k (by omega)
 have A : ∀ A, A = (if 0 < (T.b k).length then syncP T k else (true, T)) → (A.1 = true → (∀ j, A.2.b j = T.b j) ∧ (∀ j, A.2.last j = if j = k then (T.b k).length else T.last j) ∧ A.2.room = T.room) ∧ (A.1 = false → A.2 = T ∧ T.fuse = 0) := fun A e => by
  subst e
  by_cases h0 : 0 < (T.b k).length
  ·rw [if_pos h0]
   refine ⟨fun h => ?_, fun h => syncP_no h⟩
   have p := syncP_yes h
   refine ⟨fun j => ?_, p.last, p.room⟩
   rw [p.b]
   split
   ·rename_i e; rw [e]
   ·rfl
  ·rw [if_neg h0]
   refine ⟨fun _ => ⟨fun _ => rfl, fun j => ?_, rfl⟩, fun h => by simp at h⟩
   show T.last j = _
   split
   ·rename_i e; subst e; omega
   ·rfl
 simp only
 have A := A _ rfl
 generalize (if 0 < (T.b k).length then syncP T k else (true, T)) = A1 at *
 by_cases h1 : A1.1 = false
 ·rw [if_pos h1]
  obtain ⟨e1, e2⟩ := A.2 h1
  refine ⟨.inr rfl, by simp only [e1], fun e => by simp at e, fun _ => ⟨by simp only [e1]; exact e2, fun j => by simp only [e1], fun j => .inl (by simp only [e1])⟩⟩
 rw [if_neg h1]
 obtain ⟨a1, a2, a3⟩ := A.1 (by simpa using h1)
 by_cases h0 : 0 < (T.b (1 - k)).length
 ·rw [if_pos h0]
  by_cases h2 : (clearP A1.2 (1 - k)).1 = false
  ·rw [if_pos h2]
   obtain ⟨e1, e2⟩ := clearP_no h2
   refine ⟨.inr rfl, by simp only [e1]; exact a3, fun e => by simp at e, fun _ => ⟨by simp only [e1]; exact e2, fun j => by simp only [e1]; exact a1 j, fun j => ?_⟩⟩
   simp only [e1]
   rw [a2]
   split
   ·rename_i e; rw [e]; exact .inr rfl
   ·exact .inl rfl
  ·rw [if_neg h2]
   have p := clearP_yes (by simpa using h2 : (clearP A1.2 (1 - k)).1 = true)
   refine ⟨.inl rfl, p.room.trans a3, fun _ => ⟨?_, ?_, ?_, ?_, ?_⟩, fun e => by simp at e⟩
   ·simp only; rw [p.b, if_neg (by omega)]; exact a1 k
   ·simp only; rw [p.last, if_neg (by omega), a2, if_pos rfl]
   ·simp only; rw [p.b, if_pos rfl]
   ·simp only; rw [p.b, if_neg (by omega)]; exact a1 2
   ·simp only; rw [p.b, if_neg (by omega)]; exact a1 3
 ·rw [if_neg h0, if_neg (by simp)]
  have hz : T.b (1 - k) = [] := List.eq_nil_of_length_eq_zero (by omega)
  exact ⟨.inl rfl, a3, fun _ => ⟨a1 k, by simp only; rw [a2, if_pos rfl], by simp only; rw [a1, hz], a1 2, a1 3⟩, fun e => by simp at e⟩
theorem openT_cases (T : TP) (hL : ∀ i, i < 4 → T.last i ≤ (T.b i).length) : OpndT T (openT T).2 (openT T).1 (keptI T) := by
 have hk : keptI T < 2 := by unfold keptI; split <;> omega
 exact openP_cases T hk hL
theorem DiskC.raise {T T' : TP} {now : Int} {fl : Fls} {mb : Option (Int × Fls)} {B C : Int} (h : DiskC T now fl mb B C) (hL : ∀ i, i < 4 → T.last i ≤ (T.b i).length) (hb : ∀ j, T'.b j = T.b j) (hl : ∀ j, T'.last j = T.last j ∨ T'.last j = (T.b j).length) : DiskC T' now fl mb B C := by
 obtain ⟨f, rs, t, hm, hB, hC, hr⟩ := h.ex
 have hf := hm.hf
 have hLf := hL f (by omega)
 refine ⟨f, rs, t, ⟨hf, hm.fit, hm.play, hm.time, by rw [hb]; exact hm.eq, ?_, by rw [hb]; exact hm.b2, by rw [hb]; exact hm.b3⟩, by rw [hb]; exact hB, by rw [hb]; exact hC, ?_⟩
 ·have := hm.low
  rcases hl f with e | e <;> omega
 ·rcases hr with ⟨ht, ho⟩ | ⟨c, now', fl', e1, hd, e2, e3⟩
  ·refine .inl ⟨?_, ?_⟩
   ·rcases ht with q | ⟨q, e⟩
    ·exact .inl q
    ·refine .inr ⟨q, ?_⟩
     rw [hb]
     rcases hl f with x | x <;> omega
   ·unfold OthP at ho ⊢
    rw [hb]
    rcases ho with q | ⟨q, e⟩ | q
    ·exact .inl q
    ·refine .inr (.inl ⟨q, ?_⟩)
     rcases hl (1 - f) with x | x <;> omega
    ·exact .inr (.inr q)
  ·exact .inr ⟨c, now', fl', e1, hd, e2, by rw [hb]; exact e3⟩
theorem main_read {T : TP} {f : Nat} {now : Int} {fl : Fls} {rs : List (List Ent)} {t : List Int} (h : DiskM T f now fl rs t) (ht : t = [] ∨ TornP now t) : kEnts T f = rs.flatten.map canon ∧ kAll T f = decide (t = []) := by
 have hm : (rs.map fun r => r.map canon).flatten = rs.flatten.map canon := by rw [List.map_flatten]
 unfold kEnts kAll
 rw [h.eq]
 rcases ht with rfl | ⟨h1, h2⟩
 ·rw [List.append_nil, fileP_recsB h.fit]
  exact ⟨hm, by simp⟩
 ·rw [fileP_piece h.fit h1 (by rw [h.time]; exact h2)]
  exact ⟨hm, by simp [h1]⟩
theorem main_more {T : TP} {f : Nat} {now now' : Int} {fl fl' : Fls} {rs : List (List Ent)} {N : Int} {c : Cmd} (h : DiskM T f now fl rs (recB now [entOf now c])) (hF : FlOk N now fl) (hd : doK now fl c = (0, now', fl')) :
  RsFit 0 (rs ++ [[entOf now c]]) ∧ PlayE 0 noFl (rs ++ [[entOf now c]]).flatten now' fl' ∧ recsNow 0 (rs ++ [[entOf now c]]) = now' ∧ T.b f = recsB 0 (rs ++ [[entOf now c]]) := by
 refine ⟨RsFit.snoc h.fit ⟨by rw [h.time]; exact entOf_fit hF hd, trivial⟩ (by simp), ?_, ?_, ?_⟩
 ·rw [List.flatten_append]
  exact playE_append _ h.play (playE_one (.inl ⟨c, rfl, hd⟩))
 ·rw [recsNow_snoc, h.time]
  exact entOf_now hd
 ·rw [recsB_snoc, h.time, h.eq]
theorem oth_read {T : TP} {g : Nat} {N now : Int} {fl : Fls} (h : OthP T g now fl) (hF : FlOk N now fl) : (kEnts T g = [] ∧ kAll T g = decide (T.b g = [])) ∨ (kEnts T g = (wholeEs now fl).map canon ∧ kAll T g = true ∧ wholeEs now fl ≠ [] ∧ T.b g = recsB 0 [wholeEs now fl]) := by
 have hfit := wholeEs_fit hF
 have hln := esTo_len now fl 21
 rw [esTo_all] at hln
 unfold kEnts kAll
 rcases h with e | ⟨⟨e1, e2⟩, _⟩ | ⟨e1, e2⟩
 ·left
  rw [e]
  exact ⟨rfl, rfl⟩
 ·left
  have := fileP_piece (rs := []) trivial e1 e2
  have h0 : fileP (T.b g) = ([], false) := this
  rw [h0]
  exact ⟨rfl, by simp [e1]⟩
 ·right
  have hrs : recsB 0 [wholeEs now fl] = recB 0 (wholeEs now fl) := by simp [recsB]
  have := fileP_recsB (rs := [wholeEs now fl]) ⟨⟨hfit, by omega⟩, trivial⟩
  rw [e1, ← hrs, this]
  exact ⟨by simp, rfl, e2, rfl⟩
structure OpenD (T : TP) (now : Int) (fl : Fls) (mb : Option (Int × Fls)) (B C : Int) (nw : Int) (fw : Fls) : Prop where
 play : ∀ es, es = kEnts T 0 ∨ es = kEnts T 1 → es.length = (kEnts T (keptI T)).length → ∃ es0, es = es0.map canon ∧ PlayE 0 noFl es0 nw fw
 ok : (openT T).1 = 0 → DiskL (openT T).2 (keptI T) (!(kAll T (keptI T))) nw fw B
 dead : (openT T).1 ≠ 0 → (openT T).1 = 16 ∧ (openT T).2.fuse = 0 ∧ DiskC (openT T).2 now fl mb B C
 room : (openT T).2.room = T.room
theorem DiskC.opens {T : TP} {now : Int} {fl : Fls} {mb : Option (Int × Fls)} {B C N : Int} (h : DiskC T now fl mb B C) (hF : FlOk N now fl) (hL : ∀ i, i < 4 → T.last i ≤ (T.b i).length) (hCB : C ≤ B) :
  ∃ nw fw, ((nw = now ∧ fw = fl) ∨ mb = some (nw, fw)) ∧ OpenD T now fl mb B C nw fw := by
 have hcs := openT_cases T hL
 have hdead : (openT T).1 ≠ 0 → (openT T).1 = 16 ∧ (openT T).2.fuse = 0 ∧ DiskC (openT T).2 now fl mb B C := fun e => by
  rcases hcs.err with q | q
  ·exact absurd q e
  ·obtain ⟨d1, d2, d3⟩ := hcs.dead q
   exact ⟨q, d1, h.raise hL d2 d3⟩
 obtain ⟨f, rs, t, hm, hB, hC, hr⟩ := h.ex
 have hf := hm.hf
 have hplay := wholeEs_play hF
 have hfit := wholeEs_fit hF
 have hnow := wholeEs_now hF
 have hln := esTo_len now fl 21
 rw [esTo_all] at hln
 have keepM : ∀ (nw : Int) (fw : Fls) (rs' : List (List Ent)) (t' : List Int), keptI T = f → RsFit 0 rs' → PlayE 0 noFl rs'.flatten nw fw → recsNow 0 rs' = nw → T.b f = recsB 0 rs' ++ t' → (t' = [] ∨ TornP nw t') → kAll T f = decide (t' = []) → (openT T).1 = 0 → DiskL (openT T).2 (keptI T) (!(kAll T (keptI T))) nw fw B := fun nw fw rs' t' hk r1 r2 r3 r4 r5 r6 e => by
  obtain ⟨o1, o2, o3, o4, o5⟩ := hcs.ok e
  rw [hk] at o1 o2 o3 ⊢
  refine ⟨⟨rs', t', ⟨hf, r1, r2, r3, by rw [o1]; exact r4, by rw [o2, r4, List.length_append]; omega, by rw [o4]; exact hm.b2, by rw [o5]; exact hm.b3⟩, fun q => ?_, fun q => ?_⟩, o3, by rw [o2, o1], by rw [o1]; exact hB⟩
  ·rw [r6] at q; simpa using q
  ·rw [r6] at q
   rcases r5 with x | x
   ·simp [x] at q
   ·exact x
 rcases hr with ⟨ht, ho⟩ | ⟨c, now', fl', e1, hd, e2, e3⟩
 ·have ht' : t = [] ∨ TornP now t := ht.imp id (fun q => q.1)
  obtain ⟨m1, m2⟩ := main_read hm ht'
  have hor := oth_read ho hF
  refine ⟨now, fl, .inl ⟨rfl, rfl⟩, ?_⟩
  by_cases hk : keptI T = f
  ·refine ⟨fun es he hl => ?_, keepM now fl rs t hk hm.fit hm.play hm.time hm.eq ht' m2, hdead, hcs.room⟩
   rw [hk] at hl
   have hes : es = kEnts T f ∨ es = kEnts T (1 - f) := by
    have : f = 0 ∨ f = 1 := by omega
    rcases this with rfl | rfl
    ·exact he
    ·exact he.symm
   rcases hes with rfl | rfl
   ·exact ⟨rs.flatten, m1, hm.play⟩
   ·rcases hor with ⟨q, _⟩ | ⟨q, _⟩
    ·rw [q, m1] at hl
     simp only [List.length_nil, List.length_map] at hl
     have hz : rs.flatten = [] := List.eq_nil_of_length_eq_zero hl.symm
     have hp := hm.play
     rw [hz] at hp
     exact ⟨[], by rw [q]; rfl, hp⟩
    ·exact ⟨_, q, hplay⟩
  ·have hko : keptI T = 1 - f := by
    have : keptI T = 0 ∨ keptI T = 1 := by unfold keptI; split <;> simp
    omega
   have hcase : (kEnts T (1 - f) ≠ []) ∨ (kEnts T (1 - f) = [] ∧ kEnts T f = []) := by
    by_cases hz : kEnts T (1 - f) = []
    ·refine .inr ⟨hz, ?_⟩
     have : f = 0 ∨ f = 1 := by omega
     rcases this with rfl | rfl
     ·exfalso
      unfold keptI at hko
      have hz1 : kEnts T 1 = [] := hz
      rw [hz1, if_neg (by unfold betP; simp)] at hko
      omega
     ·have hz0 : kEnts T 0 = [] := hz
      unfold keptI at hko
      rw [hz0] at hko
      by_cases hp : 0 < (kEnts T 1).length
      ·rw [if_pos (by unfold betP; simp; omega)] at hko
       omega
      ·exact List.eq_nil_of_length_eq_zero (by omega)
    ·exact .inl hz
   have hB2 : ∀ (e : (openT T).1 = 0), _ := fun e => hcs.ok e
   rcases hcase with hz | ⟨hz, hz2⟩
   ·rcases hor with ⟨q, _⟩ | ⟨q1, q2, q3, q4⟩
    ·exact absurd q hz
    ·refine ⟨fun es he hl => ?_, fun e => ?_, hdead, hcs.room⟩
     ·have hes : es = kEnts T f ∨ es = kEnts T (1 - f) := by
       have : f = 0 ∨ f = 1 := by omega
       rcases this with rfl | rfl
       ·exact he
       ·exact he.symm
      rcases hes with rfl | rfl
      ·exact ⟨rs.flatten, m1, hm.play⟩
      ·exact ⟨_, q1, hplay⟩
     ·obtain ⟨o1, o2, o3, o4, o5⟩ := hcs.ok e
      rw [hko] at o1 o2 o3 ⊢
      refine ⟨⟨[wholeEs now fl], [], ⟨by omega, ⟨⟨hfit, by omega⟩, trivial⟩, by simpa using hplay, hnow, by rw [o1, q4]; simp, by rw [o2, q4]; exact Nat.le_refl _, by rw [o4]; exact hm.b2, by rw [o5]; exact hm.b3⟩, fun _ => rfl, fun q => ?_⟩, o3, by rw [o2, o1], by rw [o1]; omega⟩
      rw [q2] at q; cases q
   ·rw [m1] at hz2
    have hrz : rs.flatten = [] := by simpa using hz2
    have hp := hm.play
    rw [hrz] at hp
    rcases hor with ⟨q1, q2⟩ | ⟨q1, _, q3, _⟩
    ·refine ⟨fun es he hl => ?_, fun e => ?_, hdead, hcs.room⟩
     ·rw [hko, q1] at hl
      obtain rfl := List.eq_nil_of_length_eq_zero hl
      exact ⟨[], rfl, hp⟩
     ·obtain ⟨o1, o2, o3, o4, o5⟩ := hcs.ok e
      rw [hko] at o1 o2 o3 ⊢
      refine ⟨⟨[], T.b (1 - f), ⟨by omega, trivial, hp, hp.1.symm, by rw [o1]; rfl, Nat.zero_le _, by rw [o4]; exact hm.b2, by rw [o5]; exact hm.b3⟩, fun q => ?_, fun q => ?_⟩, o3, by rw [o2, o1], by rw [o1]; omega⟩
      ·rw [q2] at q; simpa using q
      ·rw [q2] at q
       have hne : T.b (1 - f) ≠ [] := by simpa using q
       rcases ho with x | ⟨x, _⟩ | ⟨x, y⟩
       ·exact absurd x hne
       ·rw [hp.1]; exact x
       ·exfalso
        have := hplay
        rw [hp.1, hp.2] at y
        exact y rfl
    ·exact absurd hz (by rw [q1]; simpa using q3)
 ·subst e2
  obtain ⟨r1, r2, r3, r4⟩ := main_more hm hF hd
  have hkf : kEnts T f = (rs ++ [[entOf now c]]).flatten.map canon ∧ kAll T f = true := by
   unfold kEnts kAll
   rw [r4, fileP_recsB r1]
   exact ⟨by rw [List.map_flatten], rfl⟩
  have hko : kEnts T (1 - f) = [] := by unfold kEnts; rw [e3]; rfl
  have hlen : 0 < (kEnts T f).length := by rw [hkf.1]; simp
  have hk : keptI T = f := by
   have : f = 0 ∨ f = 1 := by omega
   rcases this with rfl | rfl
   ·have hz1 : kEnts T 1 = [] := hko
    unfold keptI
    rw [hz1, if_neg (by unfold betP; simp)]
   ·have hz0 : kEnts T 0 = [] := hko
    unfold keptI
    rw [hz0, if_pos (by unfold betP; simp; omega)]
  refine ⟨now', fl', .inr e1, fun es he hl => ?_, keepM now' fl' _ [] hk r1 r2 r3 (by rw [r4]; simp) (.inl rfl) (by rw [hkf.2]; simp), hdead, hcs.room⟩
  have hes : es = kEnts T f ∨ es = kEnts T (1 - f) := by
   have : f = 0 ∨ f = 1 := by omega
   rcases this with rfl | rfl
   ·exact he
   ·exact he.symm
  rcases hes with rfl | rfl
  ·exact ⟨_, hkf.1, r2⟩
  ·rw [hk, hko] at hl
   simp only [List.length_nil] at hl
   omega
end Go.Proofs.Ythhibagcpjeihaa
