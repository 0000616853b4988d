import Derived.Test.YthhibagcpjeihaaLFallToDsk3
import Derived.Test.YthhibagcpjeihaaLKeepGToDsk2
import Derived.Test.YthhibagcpjeihaaLOpenToWw1
import Derived.Handy
namespace Go.Proofs.Ythhibagcpjeihaa
open Go.RowKit
open M
set_option linter.unusedVariables false
set_option linter.unusedSimpArgs false
set_option maxRecDepth 100000
theorem fall_rec {es : List Ent} {now : Int} (h : EsFit now es) (hl : es.length < 9223372036854775808) (keep : List Int) (i : Nat) (s : Int) {a : Nat} (ha : a ≤ (recB now es).length) :
  fallB keep i s (recB now es) a = [] ∨ TornP now (fallB keep i s (recB now es) a) ∨ fallB keep i s (recB now es) a = recB now es := by
 have hn := fallK_le keep i (recB now es).length a ha
 have hlen : (recB now es).length = (bodyB now es).length + 1 := by rw [recB_body, List.length_append]; rfl
 have piece : ∀ (k : Nat) (x : Int), k < (recB now es).length → ((recB now es).take k ++ [x] = recB now es) ∨ TornP now ((recB now es).take k ++ [x]) := fun k x hk => by
  by_cases hb : k < (bodyB now es).length ∨ (k = (bodyB now es).length ∧ x ≠ 229)
  ·exact .inr ⟨by simp, recP_piece h hl hb⟩
  ·refine .inl ?_
   have hk2 : k = (bodyB now es).length := by omega
   have hx : x = 229 := by
    by_cases q : x = 229
    ·exact q
    ·exact absurd (.inr ⟨hk2, q⟩) hb
   rw [hk2, hx, recB_body, List.take_append_of_le_length (Nat.le_refl _), List.take_length]
 unfold fallB
 by_cases h0 : fallK keep i (recB now es).length a = 0
 ·rw [if_pos h0]
  by_cases ha0 : a = 0
  ·subst ha0; exact .inl (by simp)
  ·obtain ⟨k, rfl⟩ : ∃ k, a = k + 1 := ⟨a - 1, by omega⟩
   have e : (recB now es).take (k + 1) = (recB now es).take k ++ [(recB now es)[k]'(by omega)] := by rw [List.take_succ_eq_append_getElem (by omega)]
   rw [e]
   rcases piece k _ (by omega) with q | q
   ·exact .inr (.inr q)
   ·exact .inr (.inl q)
 ·rw [if_neg h0]
  rcases piece (a + fallK keep i (recB now es).length a - 1) (bits BinOp.xor .u8 ((recB now es).getD (a + fallK keep i (recB now es).length a - 1) 0) s) (by omega) with q | q
  ·exact .inr (.inr q)
  ·exact .inr (.inl q)
theorem fall_behind (keep : List Int) (i : Nat) (s : Int) (P w : List Int) (a : Nat) : fallB keep i s (P ++ w) (P.length + a) = P ++ fallB keep i s w a := by
 have hk : fallK keep i (P ++ w).length (P.length + a) = fallK keep i w.length a := by
  unfold fallK
  rw [List.length_append]
  split
  ·congr 2; omega
  ·rfl
 unfold fallB
 rw [hk]
 by_cases h0 : fallK keep i w.length a = 0
 ·rw [if_pos h0, if_pos h0, List.take_length_add_append]
 ·rw [if_neg h0, if_neg h0]
  have e : P.length + a + fallK keep i w.length a - 1 = P.length + (a + fallK keep i w.length a - 1) := by omega
  rw [e, List.take_length_add_append, List.append_assoc]
  congr 3
  simp only [List.getD_eq_getElem?_getD]
  rw [List.getElem?_append_right (by omega)]
  simp
theorem fall_still (keep : List Int) (i : Nat) (s : Int) (b : List Int) : fallB keep i s b b.length = b := by
 have hk : fallK keep i b.length b.length = 0 := by
  unfold fallK
  split <;> omega
 unfold fallB
 rw [if_pos hk, List.take_length]
theorem fall_len (keep : List Int) (i : Nat) (s : Int) (b : List Int) (l : Nat) (h : l ≤ b.length) : (fallB keep i s b l).length ≤ b.length := by
 have hn := fallK_le keep i b.length l h
 unfold fallB
 split
 ·rw [List.length_take]; omega
 ·rw [List.length_append, List.length_take]
  simp only [List.length_cons, List.length_nil]
  omega
theorem fall_nil (keep : List Int) (i : Nat) (s : Int) (l : Nat) (h : l ≤ 0) : fallB keep i s [] l = [] := by
 obtain rfl : l = 0 := by omega
 exact fall_still keep i s []
theorem DiskC.fall {T : TP} {now : Int} {fl : Fls} {mb : Option (Int × Fls)} {B C N : Int} (h : DiskC T now fl mb B C) (hF : FlOk N now fl) (hL : ∀ i, i < 4 → T.last i ≤ (T.b i).length) (keep : List Int) (s : Int) : DiskC (fallT T keep s) now fl mb B C := by
 obtain ⟨f, rs, t, hm, hB, hC, hr⟩ := h.ex
 have hf := hm.hf
 have hfit := wholeEs_fit hF
 have hln := esTo_len now fl 21
 rw [esTo_all] at hln
 have gb : ∀ i, i < 4 → (fallT T keep s).b i = fallB keep i s (T.b i) (T.last i) := fun i hi => if_pos hi
 have gl : ∀ i, i < 4 → (fallT T keep s).last i = ((fallT T keep s).b i).length := fun i hi => by
  rw [gb i hi]
  exact if_pos hi
 have h2 : (fallT T keep s).b 2 = [] := by
  rw [gb 2 (by omega), hm.b2]
  have := hL 2 (by omega)
  rw [hm.b2] at this
  exact fall_nil _ _ _ _ (by simpa using this)
 have h3 : (fallT T keep s).b 3 = [] := by
  rw [gb 3 (by omega), hm.b3]
  have := hL 3 (by omega)
  rw [hm.b3] at this
  exact fall_nil _ _ _ _ (by simpa using this)
 have hLf := hL f (by omega)
 have hLo := hL (1 - f) (by omega)
 have sB : (((fallT T keep s).b f).length : Int) ≤ B := by
  rw [gb f (by omega)]
  have := fall_len keep f s (T.b f) (T.last f) hLf
  omega
 have sC : (((fallT T keep s).b (1 - f)).length : Int) ≤ C := by
  rw [gb (1 - f) (by omega)]
  have := fall_len keep (1 - f) s (T.b (1 - f)) (T.last (1 - f)) hLo
  omega
 have main : ∀ t', (fallT T keep s).b f = recsB 0 rs ++ t' → DiskM (fallT T keep s) f now fl rs t' := fun t' e =>
  ⟨hf, hm.fit, hm.play, hm.time, e, by rw [gl f (by omega), e, List.length_append]; omega, h2, h3⟩
 have oth : OthP T (1 - f) now fl → OthP (fallT T keep s) (1 - f) now fl := fun ho => by
  unfold OthP
  rw [gl (1 - f) (by omega), gb (1 - f) (by omega)]
  rcases ho with e | ⟨e, q⟩ | ⟨e, q⟩
  ·left
   rw [e] at hLo ⊢
   exact fall_nil _ _ _ _ (by simpa using hLo)
  ·right; left
   rw [q, fall_still]
   exact ⟨e, rfl⟩
  ·rw [e] at hLo ⊢
   rcases fall_rec hfit (by omega) keep (1 - f) s hLo with x | x | x
   ·exact .inl x
   ·exact .inr (.inl ⟨x, rfl⟩)
   ·exact .inr (.inr ⟨x, q⟩)
 rcases hr with ⟨ht, ho⟩ | ⟨c, now', fl', e1, hd, e2, e3⟩
 ·rcases ht with rfl | ⟨ht, hl⟩
  ·refine ⟨f, rs, [], main [] ?_, sB, sC, .inl ⟨.inl rfl, oth ho⟩⟩
   have he := hm.eq
   rw [List.append_nil] at he
   have hlow := hm.low
   rw [gb f (by omega), List.append_nil]
   have : T.last f = (T.b f).length := by rw [he] at hLf ⊢; omega
   rw [this, fall_still, he]
  ·refine ⟨f, rs, t, main t ?_, sB, sC, .inl ⟨.inr ⟨ht, gl f (by omega)⟩, oth ho⟩⟩
   rw [gb f (by omega), hl, fall_still]
   exact hm.eq
 ·subst e2
  have hfe : EsFit now [entOf now c] := ⟨entOf_fit hF hd, trivial⟩
  have hb := hm.eq
  obtain ⟨a, ha⟩ : ∃ a, T.last f = (recsB 0 rs).length + a := ⟨T.last f - (recsB 0 rs).length, by have := hm.low; omega⟩
  have hal : a ≤ (recB now [entOf now c]).length := by rw [hb, List.length_append] at hLf; omega
  have hg : (fallT T keep s).b f = recsB 0 rs ++ fallB keep f s (recB now [entOf now c]) a := by
   rw [gb f (by omega), hb, ha, fall_behind]
  have ho : (fallT T keep s).b (1 - f) = [] := by
   rw [gb (1 - f) (by omega), e3]
   rw [e3] at hLo
   exact fall_nil _ _ _ _ (by simpa using hLo)
  rcases fall_rec hfe (by simp) keep f s hal with x | x | x
  ·refine ⟨f, rs, [], main [] (by rw [hg, x]), sB, sC, .inl ⟨.inl rfl, .inl ho⟩⟩
  ·refine ⟨f, rs, _, main _ hg, sB, sC, .inl ⟨.inr ⟨x, gl f (by omega)⟩, .inl ho⟩⟩
  ·refine ⟨f, rs, recB now [entOf now c], main _ (by rw [hg, x]), sB, sC, .inr ⟨c, now', fl', e1, hd, rfl, ho⟩⟩
structure OpndT (T T' : TP) (e : Int) (k : Nat) : Prop where
 err : e = 0 ∨ e = 16
 room : T'.room = T.room
 ok : e = 0 → T'.b k = T.b k ∧ T'.last k = (T.b k).length ∧ T'.b (1 - k) = [] ∧ T'.b 2 = T.b 2 ∧ T'.b 3 = T.b 3
 dead : e = 16 → T'.fuse = 0 ∧ (∀ j, T'.b j = T.b j) ∧ ∀ j, T'.last j = T.last j ∨ T'.last j = (T.b j).length
theorem openP_cases (T : TP) {k : Nat} (hk : k < 2) (hL : ∀ i, i < 4 → T.last i ≤ (T.b i).length) : OpndT T (openP T k (T.b k).length (T.b (1 - k)).length).2 (openP T k (T.b k).length (T.b (1 - k)).length).1 k := by
 unfold openP
 have hkl := hL k (by omega)
 have A : ∀ A, A = (if 0 < (T.b k).length then syncP T k else (true, T)) → (A.1 = true → (∀ j, A.2.b j = T.b j) ∧ (∀ j, A.2.last j = if j = k then (T.b k).length else T.last j) ∧ A.2.room = T.room) ∧ (A.1 = false → A.2 = T ∧ T.fuse = 0) := fun A e => by
  subst e
  by_cases h0 : 0 < (T.b k).length
  ·rw [if_pos h0]
   refine ⟨fun h => ?_, fun h => syncP_no h⟩
   have p := syncP_yes h
   refine ⟨fun j => ?_, p.last, p.room⟩
   rw [p.b]
   split
   ·rename_i e; rw [e]
   ·rfl
  ·rw [if_neg h0]
   refine ⟨fun _ => ⟨fun _ => rfl, fun j => ?_, rfl⟩, fun h => by simp at h⟩
   show T.last j = _
   split
   ·rename_i e; subst e; omega
   ·rfl
 simp only
 have A := A _ rfl
 generalize (if 0 < (T.b k).length then syncP T k else (true, T)) = A1 at *
 by_cases h1 : A1.1 = false
 ·rw [if_pos h1]
  obtain ⟨e1, e2⟩ := A.2 h1
  refine ⟨.inr rfl, by simp only [e1], fun e => by simp at e, fun _ => ⟨by simp only [e1]; exact e2, fun j => by simp only [e1], fun j => .inl (by simp only [e1])⟩⟩
 rw [if_neg h1]
 obtain ⟨a1, a2, a3⟩ := A.1 (by simpa using h1)
 by_cases h0 : 0 < (T.b (1 - k)).length
 ·rw [if_pos h0]
  by_cases h2 : (clearP A1.2 (1 - k)).1 = false
  ·rw [if_pos h2]
   obtain ⟨e1, e2⟩ := clearP_no h2
   refine ⟨.inr rfl, by simp only [e1]; exact a3, fun e => by simp at e, fun _ => ⟨by simp only [e1]; exact e2, fun j => by simp only [e1]; exact a1 j, fun j => ?_⟩⟩
   simp only [e1]
   rw [a2]
   split
   ·rename_i e; rw [e]; exact .inr rfl
   ·exact .inl rfl
  ·rw [if_neg h2]
   have p := clearP_yes (by simpa using h2 : (clearP A1.2 (1 - k)).1 = true)
   refine ⟨.inl rfl, p.room.trans a3, fun _ => ⟨?_, ?_, ?_, ?_, ?_⟩, fun e => by simp at e⟩
   ·simp only; rw [p.b, if_neg (by omega)]; exact a1 k
   ·simp only; rw [p.last, if_neg (by omega), a2, if_pos rfl]
   ·simp only; rw [p.b, if_pos rfl]
   ·simp only; rw [p.b, if_neg (by omega)]; exact a1 2
   ·simp only; rw [p.b, if_neg (by omega)]; exact a1 3
 ·rw [if_neg h0, if_neg (by simp)]
  have hz : T.b (1 - k) = [] := List.eq_nil_of_length_eq_zero (by omega)
  exact ⟨.inl rfl, a3, fun _ => ⟨a1 k, by simp only; rw [a2, if_pos rfl], by simp only; rw [a1, hz], a1 2, a1 3⟩, fun e => by simp at e⟩
theorem openT_cases (T : TP) (hL : ∀ i, i < 4 → T.last i ≤ (T.b i).length) : OpndT T (openT T).2 (openT T).1 (keptI T) := by
 have hk : keptI T < 2 := by unfold keptI; split <;> omega
 exact openP_cases T hk hL
theorem DiskC.raise {T T' : TP} {now : Int} {fl : Fls} {mb : Option (Int × Fls)} {B C : Int} (h : DiskC T now fl mb B C) (hL : ∀ i, i < 4 → T.last i ≤ (T.b i).length) (hb : ∀ j, T'.b j = T.b j) (hl : ∀ j, T'.last j = T.last j ∨ T'.last j = (T.b j).length) : DiskC T' now fl mb B C := by
 obtain ⟨f, rs, t, hm, hB, hC, hr⟩ := h.ex
 have hf := hm.hf
 have hLf := hL f (by omega)
 refine ⟨f, rs, t, ⟨hf, hm.fit, hm.play, hm.time, by rw [hb]; exact hm.eq, ?_, by rw [hb]; exact hm.b2, by rw [hb]; exact hm.b3⟩, by rw [hb]; exact hB, by rw [hb]; exact hC, ?_⟩
 ·have := hm.low
  rcases hl f with e | e <;> omega
 ·rcases hr with ⟨ht, ho⟩ | ⟨c, now', fl', e1, hd, e2, e3⟩
  ·refine .inl ⟨?_, ?_⟩
   ·rcases ht with q | ⟨q, e⟩
    ·exact .inl q
    ·refine .inr ⟨q, ?_⟩
     rw [hb]
     rcases hl f with x | x <;> omega
   ·unfold OthP at ho ⊢
    rw [hb]
    rcases ho with q | ⟨q, e⟩ | q
    ·exact .inl q
    ·refine .inr (.inl ⟨q, ?_⟩)
     rcases hl (1 - f) with x | x <;> omega
    ·exact .inr (.inr q)
  ·exact .inr ⟨c, now', fl', e1, hd, e2, by rw [hb]; exact e3⟩
theorem main_read {T : TP} {f : Nat} {now : Int} {fl : Fls} {rs : List (List Ent)} {t : List Int} (h : DiskM T f now fl rs t) (ht : t = [] ∨ TornP now t) : kEnts T f = rs.flatten.map canon ∧ kAll T f = decide (t = []) := by
 have hm : (rs.map fun r => r.map canon).flatten = rs.flatten.map canon := by rw [List.map_flatten]
 unfold kEnts kAll
 rw [h.eq]
 rcases ht with rfl | ⟨h1, h2⟩
 ·rw [List.append_nil, fileP_recsB h.fit]
  exact ⟨hm, by simp⟩
 ·rw [fileP_piece h.fit h1 (by rw [h.time]; exact h2)]
  exact ⟨hm, by simp [h1]⟩
theorem main_more {T : TP} {f : Nat} {now now' : Int} {fl fl' : Fls} {rs : List (List Ent)} {N : Int} {c : Cmd} (h : DiskM T f now fl rs (recB now [entOf now c])) (hF : FlOk N now fl) (hd : doK now fl c = (0, now', fl')) :
  RsFit 0 (rs ++ [[entOf now c]]) ∧ PlayE 0 noFl (rs ++ [[entOf now c]]).flatten now' fl' ∧ recsNow 0 (rs ++ [[entOf now c]]) = now' ∧ T.b f = recsB 0 (rs ++ [[entOf now c]]) := by
 refine ⟨RsFit.snoc h.fit ⟨by rw [h.time]; exact entOf_fit hF hd, trivial⟩ (by simp), ?_, ?_, ?_⟩
 ·rw [List.flatten_append]
  exact playE_append _ h.play (playE_one (.inl ⟨c, rfl, hd⟩))
 ·rw [recsNow_snoc, h.time]
  exact entOf_now hd
 ·rw [recsB_snoc, h.time, h.eq]
theorem oth_read {T : TP} {g : Nat} {N now : Int} {fl : Fls} (h : OthP T g now fl) (hF : FlOk N now fl) : (kEnts T g = [] ∧ kAll T g = decide (T.b g = [])) ∨ (kEnts T g = (wholeEs now fl).map canon ∧ kAll T g = true ∧ wholeEs now fl ≠ [] ∧ T.b g = recsB 0 [wholeEs now fl]) := by
 have hfit := wholeEs_fit hF
 have hln := esTo_len now fl 21
 rw [esTo_all] at hln
 unfold kEnts kAll
 rcases h with e | ⟨⟨e1, e2⟩, _⟩ | ⟨e1, e2⟩
 ·left
  rw [e]
  exact ⟨rfl, rfl⟩
 ·left
  have := fileP_piece (rs := []) trivial e1 e2
  have h0 : fileP (T.b g) = ([], false) := this
  rw [h0]
  exact ⟨rfl, by simp [e1]⟩
 ·right
  have hrs : recsB 0 [wholeEs now fl] = recB 0 (wholeEs now fl) := by simp [recsB]
  have := fileP_recsB (rs := [wholeEs now fl]) ⟨⟨hfit, by omega⟩, trivial⟩
  rw [e1, ← hrs, this]
  exact ⟨by simp, rfl, e2, rfl⟩
structure OpenD (T : TP) (now : Int) (fl : Fls) (mb : Option (Int × Fls)) (B C : Int) (nw : Int) (fw : Fls) : Prop where
 play : ∀ es, es = kEnts T 0 ∨ es = kEnts T 1 → es.length = (kEnts T (keptI T)).length → ∃ es0, es = es0.map canon ∧ PlayE 0 noFl es0 nw fw
 ok : (openT T).1 = 0 → DiskL (openT T).2 (keptI T) (!(kAll T (keptI T))) nw fw B
 dead : (openT T).1 ≠ 0 → (openT T).1 = 16 ∧ (openT T).2.fuse = 0 ∧ DiskC (openT T).2 now fl mb B C
 room : (openT T).2.room = T.room
theorem DiskC.opens {T : TP} {now : Int} {fl : Fls} {mb : Option (Int × Fls)} {B C N : Int} (h : DiskC T now fl mb B C) (hF : FlOk N now fl) (hL : ∀ i, i < 4 → T.last i ≤ (T.b i).length) (hCB : C ≤ B) :
  ∃ nw fw, ((nw = now ∧ fw = fl) ∨ mb = some (nw, fw)) ∧ OpenD T now fl mb B C nw fw := by
 have hcs := openT_cases T hL
 have hdead : (openT T).1 ≠ 0 → (openT T).1 = 16 ∧ (openT T).2.fuse = 0 ∧ DiskC (openT T).2 now fl mb B C := fun e => by
  rcases hcs.err with q | q
  ·exact absurd q e
  ·obtain ⟨d1, d2, d3⟩ := hcs.dead q
   exact ⟨q, d1, h.raise hL d2 d3⟩
 obtain ⟨f, rs, t, hm, hB, hC, hr⟩ := h.ex
 have hf := hm.hf
 have hplay := wholeEs_play hF
 have hfit := wholeEs_fit hF
 have hnow := wholeEs_now hF
 have hln := esTo_len now fl 21
 rw [esTo_all] at hln
 have keepM : ∀ (nw : Int) (fw : Fls) (rs' : List (List Ent)) (t' : List Int), keptI T = f → RsFit 0 rs' → PlayE 0 noFl rs'.flatten nw fw → recsNow 0 rs' = nw → T.b f = recsB 0 rs' ++ t' → (t' = [] ∨ TornP nw t') → kAll T f = decide (t' = []) → (openT T).1 = 0 → DiskL (openT T).2 (keptI T) (!(kAll T (keptI T))) nw fw B := fun nw fw rs' t' hk r1 r2 r3 r4 r5 r6 e => by
  obtain ⟨o1, o2, o3, o4, o5⟩ := hcs.ok e
  rw [hk] at o1 o2 o3 ⊢
  refine ⟨⟨rs', t', ⟨hf, r1, r2, r3, by rw [o1]; exact r4, by rw [o2, r4, List.length_append]; omega, by rw [o4]; exact hm.b2, by rw [o5]; exact hm.b3⟩, fun q => ?_, fun q => ?_⟩, o3, by rw [o2, o1], by rw [o1]; exact hB⟩
  ·rw [r6] at q; simpa using q
  ·rw [r6] at q
   rcases r5 with x | x
   ·simp [x] at q
   ·exact x
 rcases hr with ⟨ht, ho⟩ | ⟨c, now', fl', e1, hd, e2, e3⟩
 ·have ht' : t = [] ∨ TornP now t := ht.imp id (fun q => q.1)
  obtain ⟨m1, m2⟩ := main_read hm ht'
  have hor := oth_read ho hF
  refine ⟨now, fl, .inl ⟨rfl, rfl⟩, ?_⟩
  by_cases hk : keptI T = f
  ·refine ⟨fun es he hl => ?_, keepM now fl rs t hk hm.fit hm.play hm.time hm.eq ht' m2, hdead, hcs.room⟩
   rw [hk] at hl
   have hes : es = kEnts T f ∨ es = kEnts T (1 - f) := by
    have : f = 0 ∨ f = 1 := by omega
    rcases this with rfl | rfl
    ·exact he
    ·exact he.symm
   rcases hes with rfl | rfl
   ·exact ⟨rs.flatten, m1, hm.play⟩
   ·rcases hor with ⟨q, _⟩ | ⟨q, _⟩
    ·rw [q, m1] at hl
     simp only [List.length_nil, List.length_map] at hl
     have hz : rs.flatten = [] := List.eq_nil_of_length_eq_zero hl.symm
     have hp := hm.play
     rw [hz] at hp
     exact ⟨[], by rw [q]; rfl, hp⟩
    ·exact ⟨_, q, hplay⟩
  ·have hko : keptI T = 1 - f := by
    have : keptI T = 0 ∨ keptI T = 1 := by unfold keptI; split <;> simp
    omega
   have hcase : (kEnts T (1 - f) ≠ []) ∨ (kEnts T (1 - f) = [] ∧ kEnts T f = []) := by
    by_cases hz : kEnts T (1 - f) = []
    ·refine .inr ⟨hz, ?_⟩
     have : f = 0 ∨ f = 1 := by omega
     rcases this with rfl | rfl
     ·exfalso
      unfold keptI at hko
      have hz1 : kEnts T 1 = [] := hz
      rw [hz1, if_neg (by unfold betP; simp)] at hko
      omega
     ·have hz0 : kEnts T 0 = [] := hz
      unfold keptI at hko
      rw [hz0] at hko
      by_cases hp : 0 < (kEnts T 1).length
      ·rw [if_pos (by unfold betP; simp; omega)] at hko
       omega
      ·exact List.eq_nil_of_length_eq_zero (by omega)
    ·exact .inl hz
   have hB2 : ∀ (e : (openT T).1 = 0), _ := fun e => hcs.ok e
   rcases hcase with hz | ⟨hz, hz2⟩
   ·rcases hor with ⟨q, _⟩ | ⟨q1, q2, q3, q4⟩
    ·exact absurd q hz
    ·refine ⟨fun es he hl => ?_, fun e => ?_, hdead, hcs.room⟩
     ·have hes : es = kEnts T f ∨ es = kEnts T (1 - f) := by
       have : f = 0 ∨ f = 1 := by omega
       rcases this with rfl | rfl
       ·exact he
       ·exact he.symm
      rcases hes with rfl | rfl
      ·exact ⟨rs.flatten, m1, hm.play⟩
      ·exact ⟨_, q1, hplay⟩
     ·obtain ⟨o1, o2, o3, o4, o5⟩ := hcs.ok e
      rw [hko] at o1 o2 o3 ⊢
      refine ⟨⟨[wholeEs now fl], [], ⟨by omega, ⟨⟨hfit, by omega⟩, trivial⟩, by simpa using hplay, hnow, by rw [o1, q4]; simp, by rw [o2, q4]; exact Nat.le_refl _, by rw [o4]; exact hm.b2, by rw [o5]; exact hm.b3⟩, fun _ => rfl, fun q => ?_⟩, o3, by rw [o2, o1], by rw [o1]; omega⟩
      rw [q2] at q; cases q
   ·rw [m1] at hz2
    have hrz : rs.flatten = [] := by simpa using hz2
    have hp := hm.play
    rw [hrz] at hp
    rcases hor with ⟨q1, q2⟩ | ⟨q1, _, q3, _⟩
    ·refine ⟨fun es he hl => ?_, fun e => ?_, hdead, hcs.room⟩
     ·rw [hko, q1] at hl
      obtain rfl := List.eq_nil_of_length_eq_zero hl
      exact ⟨[], rfl, hp⟩
     ·obtain ⟨o1, o2, o3, o4, o5⟩ := hcs.ok e
      rw [hko] at o1 o2 o3 ⊢
      refine ⟨⟨[], T.b (1 - f), ⟨by omega, trivial, hp, hp.1.symm, by rw [o1]; rfl, Nat.zero_le _, by rw [o4]; exact hm.b2, by rw [o5]; exact hm.b3⟩, fun q => ?_, fun q => ?_⟩, o3, by rw [o2, o1], by rw [o1]; omega⟩
      ·rw [q2] at q; simpa using q
      ·rw [q2] at q
       have hne : T.b (1 - f) ≠ [] := by simpa using q
       rcases ho with x | ⟨x, _⟩ | ⟨x, y⟩
       ·exact absurd x hne
       ·rw [hp.1]; exact x
       ·exfalso
        have := hplay
        rw [hp.1, hp.2] at y
        exact y rfl
    ·exact absurd hz (by rw [q1]; simpa using q3)
 ·subst e2
  obtain ⟨r1, r2, r3, r4⟩ := main_more hm hF hd
  have hkf : kEnts T f = (rs ++ [[entOf now c]]).flatten.map canon ∧ kAll T f = true := by
   unfold kEnts kAll
   rw [r4, fileP_recsB r1]
   exact ⟨by rw [List.map_flatten], rfl⟩
  have hko : kEnts T (1 - f) = [] := by unfold kEnts; rw [e3]; rfl
  have hlen : 0 < (kEnts T f).length := by rw [hkf.1]; simp
  have hk : keptI T = f := by
   have : f = 0 ∨ f = 1 := by omega
   rcases this with rfl | rfl
   ·have hz1 : kEnts T 1 = [] := hko
    unfold keptI
    rw [hz1, if_neg (by unfold betP; simp)]
   ·have hz0 : kEnts T 0 = [] := hko
    unfold keptI
    rw [hz0, if_pos (by unfold betP; simp; omega)]
  refine ⟨now', fl', .inr e1, fun es he hl => ?_, keepM now' fl' _ [] hk r1 r2 r3 (by rw [r4]; simp) (.inl rfl) (by rw [hkf.2]; simp), hdead, hcs.room⟩
  have hes : es = kEnts T f ∨ es = kEnts T (1 - f) := by
   have : f = 0 ∨ f = 1 := by omega
   rcases this with rfl | rfl
   ·exact he
   ·exact he.symm
  rcases hes with rfl | rfl
  ·exact ⟨_, hkf.1, r2⟩
  ·rw [hk, hko] at hl
   simp only [List.length_nil] at hl
   omega
theorem burnt_neg {f : Int} (h : f < 0) : burnt f < 0 := by unfold burnt; rw [if_neg (by omega)]; exact h
theorem append_neg {T : TP} (i : Nat) (r : List Int) (h : T.fuse < 0) : (appendP T i r).2.fuse < 0 := by
 unfold appendP
 repeat' split
 all_goals first | exact h | exact burnt_neg h
theorem sync_neg {T : TP} (i : Nat) (h : T.fuse < 0) : (syncP T i).2.fuse < 0 := by
 unfold syncP
 split
 ·exact h
 ·exact burnt_neg h
theorem clear_neg {T : TP} (i : Nat) (h : T.fuse < 0) : (clearP T i).2.fuse < 0 := by
 unfold clearP
 split
 ·exact h
 ·exact burnt_neg h
theorem write_neg {T : TP} (i : Nat) (r : List Int) (h : T.fuse < 0) : (writeP T i r).2.fuse < 0 := by
 unfold writeP
 split
 ·exact sync_neg i (append_neg i r h)
 ·exact append_neg i r h
theorem lay_neg {T : TP} (i : Nat) (r : List Int) (h : T.fuse < 0) : (layP T i r).2.fuse < 0 := by
 unfold layP
 repeat' split
 ·exact h
 ·exact write_neg i r h
 ·exact write_neg i r h
theorem rep_neg {T : TP} (i : Nat) (r : List Int) (h : T.fuse < 0) : (repP T i r).2.fuse < 0 := by
 unfold repP
 have hw : (if r = [] then (true, T) else writeP T (1 - i) r).2.fuse < 0 := by
  split
  ·exact h
  ·exact write_neg _ r h
 generalize (if r = [] then (true, T) else writeP T (1 - i) r) = W at *
 by_cases h1 : T.room < (T.used : Int) + r.length
 ·rw [if_pos h1]; exact h
 rw [if_neg h1]
 dsimp only
 by_cases h2 : W.1 = false
 ·rw [if_pos h2]; exact hw
 rw [if_neg h2]
 by_cases h3 : (clearP W.2 i).1 = false
 ·rw [if_pos h3]; exact clear_neg i hw
 ·rw [if_neg h3]; exact clear_neg i hw
theorem layK_neg {K : KS} (r : List Int) (h : K.T.fuse < 0) : (layK K r).2.T.fuse < 0 := by
 unfold layK
 split
 ·exact h
 ·exact lay_neg _ r h
theorem saveK_neg {K : KS} (a r : List Int) (h : K.T.fuse < 0) : (saveK K a r).2.T.fuse < 0 := by
 have hr : (replaceK K a).2.T.fuse < 0 := by
  by_cases hl : K.live = true
  ·rw [replaceK_eq hl]
   exact rep_neg _ a h
  ·unfold replaceK
   rw [if_pos (by simpa using hl)]
   exact h
 unfold saveK
 repeat' split
 ·exact layK_neg r hr
 ·exact hr
 ·exact layK_neg r h
theorem packK_neg {K : KS} {now : Int} {fl : Fls} (h : K.T.fuse < 0) : (packK now fl K).2.T.fuse < 0 := by
 unfold packK
 repeat' split
 ·exact h
 ·exact h
 ·exact rep_neg _ _ h
theorem open_neg {T : TP} (h : T.fuse < 0) : (openT T).2.fuse < 0 := by
 unfold openT openP
 have hA : (if 0 < (T.b (keptI T)).length then syncP T (keptI T) else (true, T)).2.fuse < 0 := by
  split
  ·exact sync_neg _ h
  ·exact h
 generalize (if 0 < (T.b (keptI T)).length then syncP T (keptI T) else (true, T)) = A at *
 dsimp only
 by_cases h2 : A.1 = false
 ·rw [if_pos h2]; exact hA
 rw [if_neg h2]
 have hB : (if 0 < (T.b (1 - keptI T)).length then clearP A.2 (1 - keptI T) else (true, A.2)).2.fuse < 0 := by
  split
  ·exact clear_neg _ hA
  ·exact hA
 generalize (if 0 < (T.b (1 - keptI T)).length then clearP A.2 (1 - keptI T) else (true, A.2)) = B at *
 by_cases h3 : B.1 = false
 ·rw [if_pos h3]; exact hB
 ·rw [if_neg h3]; exact hB
theorem wtF_le {N now : Int} {fl : Fls} (h : FlOk N now fl) : ∀ k, wtF fl k ≤ 200 + 4000 * k
 | 0 => by unfold wtF; omega
 | k + 1 => by
  have := wtF_le h k
  unfold wtF
  split
  ·omega
  ·rename_i x hx
   have hl : x.2.length ≤ 120 := Fli.wf.len_le (h.wf k x.1 x.2 hx)
   have hn : nFull x.2 ≤ x.2.length := by unfold nFull; exact List.countP_le_length
   show wtF fl k + (60 + 30 * (nFull x.2 : Int)) ≤ 200 + 4000 * ((k + 1 : Nat) : Int)
   omega
theorem whole_100 {N now : Int} {fl : Fls} (h : FlOk N now fl) : ((wholeK now fl).length : Int) ≤ 100000 := by
 have := wholeK_short h
 have := wtF_le h 21
 omega
structure KpL (w : World) (ow : Nat → Nat) (kb : Nat) (now : Int) (fl : Fls) (K : KS) (N : Nat) : Prop where
 keep : ∃ pt, KeepT w ow kb now pt fl K
 live : K.live = true
 disk : DiskL K.T K.file K.torn now fl (100000 + 60 * N)
 ok : FlOk N now fl
 room : K.T.room = 1099511627776
 few : N ≤ 1000000000
structure KpC (w : World) (S : Nat → Prop) (tb : Nat) (T : TP) (now : Int) (fl : Fls) (mb : Option (Int × Fls)) (N : Nat) : Prop where
 tape : TapeH w S tb T
 disk : DiskC T now fl mb (100000 + 60 * N) 100000
 ok : FlOk N now fl
 may : ∀ n f, mb = some (n, f) → FlOk N n f
 room : T.room = 1099511627776
 few : N ≤ 1000000000
theorem KpL.mod {w w' : World} {ow : Nat → Nat} {kb N : Nat} {now : Int} {fl : Fls} {K : KS} {S : Nat → Prop} (h : KpL w ow kb now fl K N) (hm : Mod S w w') (hs : ∀ k, ow k ≠ 0 → ¬ S k) : KpL w' ow kb now fl K N := by
 obtain ⟨⟨pt, h1⟩, h2, h3, h4, h5, h6⟩ := h
 exact ⟨⟨pt, h1.mod hm hs⟩, h2, h3, h4, h5, h6⟩
theorem KpL.mod0 {w w' : World} {ow : Nat → Nat} {kb N : Nat} {now : Int} {fl : Fls} {K : KS} (h : KpL w ow kb now fl K N) (hm : Mod No w w') : KpL w' ow kb now fl K N := h.mod hm (fun _ _ x => x)
theorem KpL.toH {w : World} {ow : Nat → Nat} {kb N : Nat} {now : Int} {fl : Fls} {K : KS} (h : KpL w ow kb now fl K N) : KeepH w ow kb now fl := by
 obtain ⟨pt, h1⟩ := h.keep
 exact ⟨pt, h1.keep⟩
theorem KpL.more {w : World} {ow : Nat → Nat} {kb N M : Nat} {now : Int} {fl : Fls} {K : KS} (h : KpL w ow kb now fl K N) (hM : N ≤ M) (hb : M ≤ 1000000000) : KpL w ow kb now fl K M :=
 ⟨h.keep, h.live, h.disk.more (by omega), h.ok.more (by omega) (by omega), h.room, hb⟩
theorem KpL.last {w : World} {ow : Nat → Nat} {kb N : Nat} {now : Int} {fl : Fls} {K : KS} (h : KpL w ow kb now fl K N) : ∀ i, i < 4 → K.T.last i ≤ (K.T.b i).length := by
 obtain ⟨pt, h1⟩ := h.keep
 exact fun i hi => (h1.tape.last i hi).1
theorem KpL.roomW {w : World} {ow : Nat → Nat} {kb N : Nat} {now : Int} {fl : Fls} {K : KS} (h : KpL w ow kb now fl K N) : RoomW now fl K := by
 have hw := whole_100 h.ok
 exact ⟨h.ok.rng 0 (.inl rfl), wholeEs_fit h.ok, wholeK_byte h.ok, h.disk.hf, by rw [h.disk.oth]; simp only [List.length_nil]; omega⟩
theorem KpL.time {w : World} {ow : Nat → Nat} {kb N : Nat} {now : Int} {fl : Fls} {K : KS} (h : KpL w ow kb now fl K N) : 0 ≤ now ∧ now ≤ 4611686018427387000 := by
 have := h.ok.time
 have := h.few
 omega
theorem KpL.close {w : World} {ow : Nat → Nat} {kb N : Nat} {now : Int} {fl : Fls} {K : KS} (h : KpL w ow kb now fl K N) : KpC w (fun k => ow k = 30) K.tb K.T now fl none N := by
 obtain ⟨pt, h1⟩ := h.keep
 exact ⟨h1.tape, h.disk.close (by omega) none, h.ok, fun n f e => (by cases e), h.room, h.few⟩
theorem KpC.mod {w w' : World} {S S' : Nat → Prop} {tb N : Nat} {T : TP} {now : Int} {fl : Fls} {mb : Option (Int × Fls)} (h : KpC w S tb T now fl mb N) (hm : Mod S' w w') (hs : ∀ k, S k → ¬ S' k) : KpC w' S tb T now fl mb N :=
 ⟨h.tape.mod hm hs, h.disk, h.ok, h.may, h.room, h.few⟩
theorem seatErr_le12 (p : Pla) (l : List Sea) (c : Cmd) (now : Int) : seatErr p l c now ≤ 12 := by
 unfold seatErr saleN ownerN buyer
 repeat' split
 all_goals omega
theorem doK_le12 (now : Int) (fl : Nat → Option (Pla × List Sea)) (c : Cmd) : (doK now fl c).1 ≤ 12 := by
 unfold doK
 repeat' split
 all_goals first | omega | (simp only; omega) | exact seatErr_le12 _ _ _ _
structure KpD (w w' : World) (ow : Nat → Nat) (kb : Nat) (now : Int) (fl : Fls) (K : KS) (N : Nat) (c : Cmd) (e : Int) : Prop where
 mod : Mod (fun k => ow k ≠ 0) w w'
 yes : e ≠ 16 → e = (doK now fl c).1 ∧ ∃ (ow' : Nat → Nat) (K' : KS), KpL w' ow' kb (doK now fl c).2.1 (doK now fl c).2.2 K' (N + 1) ∧ (∀ k, k < w.heap.size → ow' k = ow k) ∧ K'.tb = K.tb ∧ (K.T.fuse < 0 → K'.T.fuse < 0)
 no : e = 16 → 0 ≤ K.T.fuse ∧ (doK now fl c).1 = 0 ∧ ∃ (ow' : Nat → Nat) (T' : TP), KpC w' (fun k => ow' k = 30) K.tb T' now fl (some (doK now fl c).2) (N + 1) ∧ (∀ k, k < w.heap.size → ow' k = ow k) ∧ T'.fuse = 0
theorem kp_do {w : World} {ow : Nat → Nat} {kb N : Nat} {now : Int} {fl : Fls} {K : KS} (h : KpL w ow kb now fl K N) (hN : N + 1 ≤ 1000000000) (c : Cmd) :
  Calls Try.prog 26 #[.pointer (some ⟨kb, 0, none⟩), .agg (cmdCells c)] w fun e w' => ∃ e', e = .returned (.int .i64 e') ∧ KpD w w' ow kb now fl K N c e' := by
 have hR := h.roomW
 have hT := h.time
 have hL := h.last
 have hsz := h.disk.size
 obtain ⟨pt, h1⟩ := h.keep
 refine (do_T h1 hT hR (by have := h.few; omega) c).mono ?_
 rintro e w' ⟨rfl, ⟨⟨ow', pt', q1, q2, q3⟩, q4⟩⟩
 have hF := h.ok
 have hfew := h.few
 have hC := whole_100 hF
 unfold doT at q1 ⊢
 by_cases hz : (doK now fl c).1 = 0
 case neg =>
  rw [if_pos hz] at q1 ⊢
  have h2e : (doK now fl c).2 = (now, fl) := by
   have := hz
   unfold doK at this ⊢
   repeat' split
   all_goals first | rfl | (exfalso; simp_all; done)
  have n16 : (doK now fl c).1 ≠ 16 := by have := doK_le12 now fl c; omega
  refine ⟨_, rfl, q4, fun _ => ⟨rfl, ow', K, ?_, q2, rfl, fun x => x⟩, fun e => absurd e n16⟩
  rw [h2e]
  exact (⟨⟨pt', q1⟩, h.live, h.disk, h.ok, h.room, h.few⟩ : KpL w' ow' kb now fl K N).more (by omega) hN
 rw [if_neg (by simpa using hz)] at q1 ⊢
 have hneg := saveK_neg (K := K) (wholeK now fl) (recB now [entOf now c])
 have hd : doK now fl c = (0, (doK now fl c).2.1, (doK now fl c).2.2) := by rw [← hz]
 obtain ⟨n', f', hd⟩ : ∃ n' f', doK now fl c = (0, n', f') := ⟨_, _, hd⟩
 rw [hd] at q1 ⊢
 have hsv := save_disk (C := 100000) h.disk h.live hF hd hC (by omega) hL
 have hF' := hF.step hd (by omega)
 generalize saveK K (wholeK now fl) (recB now [entOf now c]) = R at *
 obtain ⟨r, K'⟩ := R
 simp only at hsv hneg q1 ⊢
 have hroom := h.room
 rcases hsv.err with h0 | h0 | h0
 ·rw [if_pos h0] at q1 ⊢
  obtain ⟨s1, s2⟩ := hsv.ok h0
  refine ⟨_, rfl, q4, fun _ => ?_, fun e => (by cases e)⟩
  rw [hd]
  exact ⟨rfl, ow', K', ⟨⟨pt', q1⟩, s1, s2.more (by omega), hF'.more (by omega) (by omega), hsv.room.trans hroom, hN⟩, q2, hsv.tb, hneg⟩
 ·obtain ⟨_, _, s3⟩ := hsv.space h0
  rw [hroom] at s3
  omega
 ·rw [if_neg (by omega)] at q1 ⊢
  obtain ⟨s1, s2, s3⟩ := hsv.dead h0
  refine ⟨_, rfl, q4, fun e => absurd h0 e, fun _ => ?_⟩
  rw [hd]
  refine ⟨?_, rfl, ow', K'.T, ⟨?_, s3.more (by omega) (by omega), hF.more (by omega) (by omega), fun n f e => ?_, hsv.room.trans hroom, hN⟩, q2, s2⟩
  ·by_cases hq : K.T.fuse < 0
   ·have := hneg hq; omega
   ·omega
  ·have := q1.tape
   rw [hsv.tb] at this
   exact this
  ·injection e with e
   injection e with e1 e2
   subst e1; subst e2
   exact hF'.more (by omega) (by omega)
structure KpP (w w' : World) (ow : Nat → Nat) (kb : Nat) (now : Int) (fl : Fls) (K : KS) (N : Nat) (e : Int) : Prop where
 mod : Mod (fun k => ow k ≠ 0) w w'
 err : e = 0 ∨ e = 16
 yes : e = 0 → ∃ (ow' : Nat → Nat) (K' : KS), KpL w' ow' kb now fl K' N ∧ (∀ k, k < w.heap.size → ow' k = ow k) ∧ K'.tb = K.tb ∧ (K.T.fuse < 0 → K'.T.fuse < 0)
 no : e = 16 → 0 ≤ K.T.fuse ∧ ∃ (ow' : Nat → Nat) (T' : TP), KpC w' (fun k => ow' k = 30) K.tb T' now fl none N ∧ (∀ k, k < w.heap.size → ow' k = ow k) ∧ T'.fuse = 0
theorem kp_pack {w : World} {ow : Nat → Nat} {kb N : Nat} {now : Int} {fl : Fls} {K : KS} (h : KpL w ow kb now fl K N) :
  Calls Try.prog 36 #[.pointer (some ⟨kb, 0, none⟩)] w fun e w' => ∃ e', e = .returned (.int .i64 e') ∧ KpP w w' ow kb now fl K N e' := by
 have hR := h.roomW
 have hL := h.last
 have hF := h.ok
 have hfew := h.few
 have hroom := h.room
 have hC := whole_100 hF
 have hneg := packK_neg (K := K) (now := now) (fl := fl)
 have hsv := pack_disk (C := 100000) h.disk h.live hF hC hL
 obtain ⟨pt, h1⟩ := h.keep
 refine (pack_any h1 hR).mono ?_
 rintro e w' ⟨rfl, ⟨ow', pt', q1, q2, q3⟩, q4⟩
 refine ⟨_, rfl, ?_⟩
 generalize packK now fl K = R at *
 obtain ⟨r, K'⟩ := R
 simp only at hsv hneg q1 ⊢
 rcases hsv.err with h0 | h0 | h0
 ·obtain ⟨s1, s2⟩ := hsv.ok h0
  exact ⟨q4, .inl h0, fun _ => ⟨ow', K', ⟨⟨pt', q1⟩, s1, s2.more (by omega), hF, hsv.room.trans hroom, hfew⟩, q2, hsv.tb, hneg⟩, fun e => by omega⟩
 ·obtain ⟨_, _, s3⟩ := hsv.space h0
  rw [hroom] at s3
  omega
 ·obtain ⟨s1, s2, s3⟩ := hsv.dead h0
  refine ⟨q4, .inr h0, fun e => by omega, fun _ => ⟨?_, ow', K'.T, ⟨?_, s3 none, hF, fun n f e => (by cases e), hsv.room.trans hroom, hfew⟩, q2, s2⟩⟩
  ·by_cases hq : K.T.fuse < 0
   ·have := hneg hq; omega
   ·omega
  ·have := q1.tape
   rw [hsv.tb] at this
   exact this
structure KpO (w w' : World) (sw : Nat → Nat) (tb : Nat) (N : Nat) (now : Int) (fl : Fls) (mb : Option (Int × Fls)) (kb : Nat) (nw : Int) (fw : Fls) : Prop where
 which : (nw = now ∧ fw = fl) ∨ mb = some (nw, fw)
 keep : ∃ (ow : Nat → Nat) (K : KS), KpL w' ow kb nw fw K N ∧ (∀ k, k < w.heap.size → ow k = if sw k = 30 then 30 else 0) ∧ K.tb = tb ∧ K.T.fuse < 0
 new : w.heap.size ≤ kb
 mod : Mod (fun k => sw k = 30) w w'
theorem kp_open {w : World} {sw : Nat → Nat} {tb N : Nat} {T : TP} {now : Int} {fl : Fls} {mb : Option (Int × Fls)} (h : KpC w (fun k => sw k = 30) tb T now fl mb N) (hS : ∀ k, sw k = 30 → k < w.heap.size) (hneg : T.fuse < 0) :
  ∃ nw fw, ((nw = now ∧ fw = fl) ∨ mb = some (nw, fw)) ∧ Calls Try.prog 33 #[.pointer (some ⟨tb, 0, none⟩)] w fun e w' => ∃ kb, e = .returned (.tuple #[.pointer (some ⟨kb, 0, none⟩), .int .i64 0]) ∧ KpO w w' sw tb N now fl mb kb nw fw := by
 have hL := fun i (hi : i < 4) => (h.tape.last i hi).1
 have hfew := h.few
 obtain ⟨nw, fw, hw, hD⟩ := h.disk.opens h.ok hL (by omega)
 have hF : FlOk N nw fw := by
  rcases hw with ⟨rfl, rfl⟩ | e
  ·exact h.ok
  ·exact h.may _ _ e
 have hlen : ∀ i, i < 2 → (T.b i).length ≤ 1099511627776 := by
  obtain ⟨f, rs, t, hm, hB, hC, _⟩ := h.disk.ex
  have := hm.hf
  intro i hi
  by_cases e : i = f
  ·subst e; omega
  ·have : i = 1 - f := by omega
   subst this; omega
 have hng := open_neg hneg
 refine ⟨nw, fw, hw, (open_any h.tape hS (by rw [h.room]; omega) (hlen 0 (by omega)) (hlen 1 (by omega)) (by have := hF.time; omega) hD.play).mono ?_⟩
 rintro e w' ⟨h1, h2⟩
 by_cases hz : (openT T).1 = 0
 ·obtain ⟨kb, rfl, ⟨ow, pt, q1, q2, q3⟩, q4, q5⟩ := h1 hz
  exact ⟨kb, rfl, hw, ⟨ow, _, ⟨⟨pt, q1⟩, rfl, hD.ok hz, hF, hD.room.trans h.room, hfew⟩, q2, rfl, hng⟩, q4, q5⟩
 ·have := (hD.dead hz).2.1
  omega
theorem kp_fall {w : World} {S : Nat → Prop} {tb N : Nat} {T : TP} {now : Int} {fl : Fls} {mb : Option (Int × Fls)} (h : KpC w S tb T now fl mb N) (keep : List Int) (kc : Nat) (ko : Option Addr) (s : Int) (hm2 : keep.length ≤ 9223372036854775807) (hk : Reads w (.slice ko keep.length kc) keep.length (keep.map (Value.int .i64))) (hkb : 0 < keep.length → ∀ k, (Value.slice ko keep.length kc).ownBlock = some k → ¬ S k) :
  Calls Try.prog 31 #[.pointer (some ⟨tb, 0, none⟩), .slice ko keep.length kc, .int .u8 s] w fun e w' => e = .returned (.tuple #[]) ∧ Mod S w w' ∧ ∃ T', KpC w' S tb T' now fl mb N ∧ T'.fuse < 0 := by
 have hL := fun i (hi : i < 4) => (h.tape.last i hi).1
 refine (fall_t h.tape keep kc ko s hm2 hk hkb).mono ?_
 rintro e w' ⟨q1, q2, q3⟩
 exact ⟨q1, q3, _, ⟨q2, h.disk.fall h.ok hL keep s, h.ok, h.may, h.room, h.few⟩, by show (-1 : Int) < 0; decide⟩
theorem kp_copy {w : World} {S : Nat → Prop} {tb N : Nat} {T : TP} {now : Int} {fl : Fls} {mb : Option (Int × Fls)} (h : KpC w S tb T now fl mb N) :
  Calls Try.prog 32 #[.pointer (some ⟨tb, 0, none⟩)] w fun e w' => ∃ g : Nat, e = .returned (.pointer (some ⟨g, 0, none⟩)) ∧ Mod No w w' ∧ w.heap.size ≤ g ∧ g < w'.heap.size ∧ KpC w' (fun k => (if w.heap.size ≤ k ∧ k < w'.heap.size then 30 else 0) = 30) g T now fl mb N := by
 refine (copy_t h.tape).mono ?_
 rintro e w' ⟨g, q1, q2, q3, q4⟩
 exact ⟨g, q1, q4, q2, q3.lt, ⟨q3.narrow.wide (fun k hk => if_pos hk), h.disk, h.ok, h.may, h.room, h.few⟩⟩
open Go.ChangeMaps (setBlock)
set_option maxHeartbeats 2000000
def p0 : Pla := ⟨4, 3, 2, 10, 8, 5, 1, 1⟩
def addC : Cmd := ⟨1, 1, 0, 0, 0, 0, 0, 0, 0, p0⟩
def fl0 : Nat → Option (Pla × List Sea) := fun j => if j = 1 then some (p0, emptySeats p0) else none
theorem doK_begun : doK 0 noFl addC = (0, 0, fl0) := by
 unfold doK
 rw [if_neg (by decide), if_neg (by decide), if_neg (by decide)]
 simp only [noFl]
 rw [if_pos (by decide), if_pos (by decide)]
 rfl
theorem left_begun0 : leftK fl0 1 0 = (9, 0) := by decide +kernel
theorem left_begun2 : leftK fl0 1 2 = (5, 0) := by decide +kernel
def tape0 : Array Value := (⟨⟨.slice none 0 0, [], 0⟩, ⟨.slice none 0 0, [], 0⟩, ⟨.slice none 0 0, [], 0⟩, ⟨.slice none 0 0, [], 0⟩, 1099511627776, -1⟩ : TTape).cells
end Go.Proofs.Ythhibagcpjeihaa
