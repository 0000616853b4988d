import Derived.Test.YthhibagcpjeihaaLRd8
import Derived.Test.YthhibagcpjeihaaLRp3ToKeep1
import Derived.Deep.MidRow
namespace Go.Proofs.Ythhibagcpjeihaa
open Go.RowKit
open M
set_option linter.unusedVariables false
set_option linter.unusedSimpArgs false
set_option maxRecDepth 100000
set_option maxHeartbeats 4000000
def entL (x : Int × Value) : List Value := [.int .i64 x.1, x.2]
structure RowEn (w : World) (lo : Nat) (v : Value) (L : List (Int × Value)) : Prop where
 row : w.ownsRow 0 124 2 v L.length (L.flatMap entL)
 own : ∀ j, v.ownBlock = some j → lo ≤ j
 one : ∀ x ∈ L, x.2.oneCell' = true
theorem RowEn.mod {w w' : World} {lo : Nat} {v : Value} {L : List (Int × Value)} {S : Nat → Prop} (h : RowEn w lo v L) (hm : Mod S w w') (hs : ∀ k, lo ≤ k → ¬ S k) : RowEn w' lo v L := ⟨hm.owns h.row (fun k hk => hs k (h.own k hk)), h.own, h.one⟩
theorem RowEn.low {w : World} {lo lo' : Nat} {v : Value} {L : List (Int × Value)} (h : RowEn w lo v L) (hl : lo' ≤ lo) : RowEn w lo' v L := ⟨h.row, fun j hj => Nat.le_trans hl (h.own j hj), h.one⟩
def EntsL (w : World) (lo : Nat) : List (Int × Value) → List Ent → Prop
 | [], [] => True
 | x :: L, e :: es => (x.1 = e.fl ∧ EntV w lo x.2 e) ∧ EntsL w lo L es
 | [], _ :: _ => False
 | _ :: _, [] => False
theorem EntsL.mod {w w' : World} {lo : Nat} {S : Nat → Prop} (hm : Mod S w w') (hs : ∀ k, lo ≤ k → ¬ S k) : ∀ {L : List (Int × Value)} {es : List Ent}, EntsL w lo L es → EntsL w' lo L es
 | [], [], _ => trivial
 | x :: L, e :: es, h => ⟨⟨h.1.1, h.1.2.mod hm hs⟩, EntsL.mod hm hs h.2⟩
 | [], _ :: _, h => h.elim
 | _ :: _, [], h => h.elim
theorem EntsL.low {w : World} {lo lo' : Nat} (hl : lo' ≤ lo) : ∀ {L : List (Int × Value)} {es : List Ent}, EntsL w lo L es → EntsL w lo' L es
 | [], [], _ => trivial
 | x :: L, e :: es, h => ⟨⟨h.1.1, h.1.2.low hl⟩, EntsL.low hl h.2⟩
 | [], _ :: _, h => h.elim
 | _ :: _, [], h => h.elim
theorem EntsL.append {w : World} {lo : Nat} {L' : List (Int × Value)} {es' : List Ent} (h' : EntsL w lo L' es') : ∀ {L : List (Int × Value)} {es : List Ent}, EntsL w lo L es → EntsL w lo (L ++ L') (es ++ es')
 | [], [], _ => h'
 | x :: L, e :: es, h => ⟨h.1, EntsL.append h' h.2⟩
 | [], _ :: _, h => h.elim
 | _ :: _, [], h => h.elim
theorem EntsL.len {w : World} {lo : Nat} : ∀ {L : List (Int × Value)} {es : List Ent}, EntsL w lo L es → L.length = es.length
 | [], [], _ => rfl
 | x :: L, e :: es, h => by simp [EntsL.len h.2]
 | [], _ :: _, h => h.elim
 | _ :: _, [], h => h.elim
theorem bindP_assoc {α β γ : Type} (o : Option (α × List Int)) (f : α → List Int → Option (β × List Int)) (g : β → List Int → Option (γ × List Int)) : bindP (bindP o f) g = bindP o (fun x r => bindP (f x r) g) := by
 rcases o with _ | ⟨x, r⟩ <;> rfl
def endP (x : List Ent × Int) (r : List Int) : Option ((List Ent × Int) × List Int) := bindP (byteP r) fun b r => if b = 229 then some (x, r) else none
theorem recP_eq (now : Int) (l : List Int) : recP now l = bindP (numP l 0 0) fun n r => bindP (entsP n.toNat now [] r) endP := by
 unfold recP bodyP
 rw [bindP_assoc]
 rfl
theorem entryP_sh {now : Int} {l : List Int} {x : Ent × Int} {r : List Int} (h : entryP now l = some (x, r)) : r.length < l.length := by
 unfold entryP at h
 cases l with
 | nil => cases h
 | cons c l =>
  have h : entP now c l = some (x, r) := h
  have := (entP_L now c).le h
  simp
  omega
theorem entsP_ge : ∀ (n : Nat) (now : Int) (acc : List Ent) (l : List Int) {x : List Ent × Int} {r : List Int}, entsP n now acc l = some (x, r) → x.1.length + r.length ≤ acc.length + l.length
 | 0, now, acc, l, x, r, h => by
  injection h with h
  injection h with h1 h2
  subst h1 h2
  exact Nat.le_refl _
 | n + 1, now, acc, l, x, r, h => by
  unfold entsP at h
  rcases h1 : entryP now l with _ | ⟨y, r1⟩
  ·rw [h1] at h; cases h
  ·rw [h1, bindP_some] at h
   have a := entryP_sh h1
   have b := entsP_ge n _ _ _ h
   simp at b
   omega
theorem recP_ge {now : Int} {l : List Int} {x : List Ent × Int} {r : List Int} (h : recP now l = some (x, r)) : x.1.length + r.length + 1 ≤ l.length := by
 rw [recP_eq] at h
 rcases h1 : numP l 0 0 with _ | ⟨n, r1⟩
 ·rw [h1] at h; cases h
 ·rw [h1, bindP_some] at h
  have a := numP_sh h1
  rcases h2 : entsP n.toNat now [] r1 with _ | ⟨y, r2⟩
  ·rw [h2] at h; cases h
  ·rw [h2, bindP_some] at h
   have b := entsP_ge _ _ _ _ h2
   cases r2 with
   | nil => cases h
   | cons c r3 =>
    have h : (if c = 229 then some (y, r3) else none) = some (x, r) := h
    split at h
    ·injection h with h
     injection h with e1 e2
     subst e1 e2
     simp at b
     omega
    ·cases h
theorem infoEnt : (Try.prog.info? 124).map (fun i => (i.zero, i.size, i.bytes)) = some (some (.agg #[.int .i64 0, .nilIface]), 2, 24) := by kernel_rfl
theorem reads_ent (w : World) (x : Int × Value) : Reads (w.alloc (.cells #[.int .i64 x.1, x.2] 124)) (.slice (some ⟨w.heap.size, 0, none⟩) 1 1) 1 (entL x) :=
 .inr ⟨⟨w.heap.size, 0, none⟩, 1, rfl, fun j u hu => by
  have hN := Has.new w #[.int .i64 x.1, x.2] 124
  rw [Addr.add_mid, Nat.zero_add, hN.cell, ← Array.getElem?_toList]
  exact hu⟩
theorem EntV.app {w w' : World} {lo n : Nat} {u v : Value} {e : Ent} {xs : List Value} (h : EntV w lo u e) (hv : w.ownsRow 0 124 2 v n xs) (hm : Mod (fun j => v.ownBlock = some j) w w') : EntV w' lo u e := by
 unfold EntV at h ⊢
 split
 ·rename_i h7
  rw [if_pos h7] at h
  obtain ⟨a, c, h1, h2, h3⟩ := h
  refine ⟨a, c, h1, hm.owns h2 (fun k hk e => ?_), h3⟩
  obtain ⟨_, q | ⟨g, cap, cur, q, _, hh, _⟩⟩ := hv
  ·rw [q.1] at e; simp [Value.ownBlock] at e
  ·obtain ⟨_, q' | ⟨g', cap', cur', q', _, hh', _⟩⟩ := h2
   ·rw [q'.1] at hk; simp [Value.ownBlock] at hk
   ·rw [q] at e
    rw [q'] at hk
    simp [Value.ownBlock] at e hk
    subst e
    subst hk
    rw [hh] at hh'
    injection hh' with hh'
    injection hh' with _ hh' _
    exact absurd hh' (by decide)
 ·rename_i h7
  rw [if_neg h7] at h
  exact h
theorem EntsL.app {w w' : World} {lo n : Nat} {v : Value} {xs : List Value} (hv : w.ownsRow 0 124 2 v n xs) (hm : Mod (fun j => v.ownBlock = some j) w w') : ∀ {L : List (Int × Value)} {es : List Ent}, EntsL w lo L es → EntsL w' lo L es
 | [], [], _ => trivial
 | x :: L, e :: es, h => ⟨⟨h.1.1, h.1.2.app hv hm⟩, EntsL.app hv hm h.2⟩
 | [], _ :: _, h => h.elim
 | _ :: _, [], h => h.elim
structure RcI (w wr : World) (rb gb : Nat) (v : Value) (L : List (Int × Value)) (acc : List Ent) (N k : Nat) (l : List Int) (t : Bool) (now : Int) (T : Option ((List Ent × Int) × List Int)) : Prop where
 row : RowEn wr w.heap.size v L
 ents : t = false → EntsL wr w.heap.size L acc
 mod : Mod (· = rb) w wr
 at_ : AtC wr rb gb now T (fun r => bindP (entsP k now acc r) endP) l t
 len : L.length ≤ N + 1 ∧ (t = false → L.length + l.length ≤ N)
theorem RcI.next {w wr w5 w6 : World} {rb gb : Nat} {v v' : Value} {L : List (Int × Value)} {acc : List Ent} {N k : Nat} {l : List Int} {now : Int} {T : Option ((List Ent × Int) × List Int)} (h : RcI w wr rb gb v L acc N (k + 1) l false now T) (hrg : rb < w.heap.size ∧ gb < w.heap.size) {f : Int} {u : Value} (hr : EntR wr w5 rb gb (entryP now l) f u)
  (o : Obj) (ho : w6.ownsRow 0 124 2 v' (L.length + 1) ((L.flatMap entL) ++ entL (f, u))) (hg : (w5.alloc o).grownBy w6 v.ownBlock) (hs : Stays (w5.alloc o) v v') :
  ∃ acc' l2 t2 now', RcI w w6 rb gb v' (L ++ [(f, u)]) acc' N k l2 t2 now' T := by
 obtain ⟨g1, g2⟩ := hrg
 obtain ⟨h1, h2, h3, h4, h5⟩ := h
 obtain ⟨r1, r2, r3⟩ := hr
 have hw := h3.size
 have m6 : Mod (fun j => v.ownBlock = some j) w5 w6 := ((Mod.refl _ w5).alloc o).grown hg (fun j hj => .inl hj)
 have hvn : ∀ j, v.ownBlock = some j → w.heap.size ≤ j ∧ j < wr.heap.size := fun j hj => ⟨h1.own j hj, (h1.row.lt j hj).2⟩
 have hnew : ∀ j, v'.ownBlock = some j → w.heap.size ≤ j := fun j hj => by
  rcases hs j hj with q | q
  ·exact h1.own j q
  ·have := r2.size
   rw [World.size_alloc] at q
   omega
 have hrow : RowEn w6 w.heap.size v' (L ++ [(f, u)]) := by
  refine ⟨?_, hnew, fun x hx => ?_⟩
  ·have e : (L ++ [(f, u)]).flatMap entL = L.flatMap entL ++ entL (f, u) := by rw [List.flatMap_append]; simp
   rw [e, List.length_append]
   exact ho
  ·rcases List.mem_append.1 hx with q | q
   ·exact h1.one x q
   ·simp at q
    subst q
    exact r1
 have hmod : Mod (· = rb) w w6 := (h3.trans r2).trans' m6 (fun j hj hl => by have := (hvn j hj).1; omega)
 have hnr : ¬ (v.ownBlock = some rb) := fun e => by have := (hvn rb e).1; omega
 have hng : ¬ (v.ownBlock = some gb) := fun e => by have := (hvn gb e).1; omega
 have hl1 := h5.2 rfl
 rcases he : entryP now l with _ | ⟨⟨e, now'⟩, r⟩
 ·rw [he] at r3
  obtain ⟨r, n, r3⟩ := r3
  refine ⟨acc, r, true, n, hrow, fun e => by simp at e, hmod, ⟨r3.mod m6 hnr hng, fun e => by simp at e, fun _ => ?_⟩, by simp; omega, fun e => by simp at e⟩
  rw [h4.yes rfl]
  show bindP (bindP (entryP now l) _) endP = none
  rw [he]
  rfl
 ·rw [he] at r3
  obtain ⟨q1, q2, q3⟩ := r3
  have hlt := entryP_sh he
  refine ⟨acc ++ [e], r, false, now', hrow, fun _ => ?_, hmod, ⟨q3.mod m6 hnr hng, fun _ => ?_, fun e => by simp at e⟩, by simp; omega, fun _ => by simp; omega⟩
  ·have hmA : Mod (· = rb) wr w5 := r2
   have a1 : EntsL w5 w.heap.size L acc := (h2 rfl).mod hmA (fun k hk e => by omega)
   have a2 : EntV w6 wr.heap.size u e := q2.mod m6 (fun k hk e => by have := (hvn k e).2; omega)
   have a3 : EntsL w6 w.heap.size L acc := EntsL.app (r2.owns h1.row (fun k hk e => by have := (hvn k hk).1; omega)) m6 a1
   exact EntsL.append (L' := [(f, u)]) (es' := [e]) ⟨⟨q1, a2.low hw⟩, trivial⟩ a3
  ·rw [h4.yes rfl]
   show bindP (bindP (entryP now l) _) endP = _
   rw [he]
   rfl
def RecR (w w' : World) (rb gb : Nat) (T : Option ((List Ent × Int) × List Int)) (L : List (Int × Value)) : Prop := match T with
 | some ((es, now'), r) => RdX w' rb gb r now' false ∧ EntsL w' w.heap.size L es
 | none => ∃ r now', RdX w' rb gb r now' true
theorem rec_close {w wr w1 : World} {rb gb : Nat} {v : Value} {L : List (Int × Value)} {acc : List Ent} {N k : Nat} {l : List Int} {t : Bool} {now x : Int} {T : Option ((List Ent × Int) × List Int)} (h : RcI w wr rb gb v L acc N k l t now T) (hk : t = false → k = 0) (hg : rb < w.heap.size) (hb : RdB wr w1 rb gb l now t x) :
  (x = 229 → RowEn w1 w.heap.size v L ∧ Mod (· = rb) w w1 ∧ RecR w w1 rb gb T L) ∧ (x ≠ 229 → RowEn (w1.setCell ⟨rb, 2, none⟩ (.bool true)) w.heap.size v L ∧ Mod (· = rb) w (w1.setCell ⟨rb, 2, none⟩ (.bool true)) ∧ RecR w (w1.setCell ⟨rb, 2, none⟩ (.bool true)) rb gb T L) := by
 obtain ⟨hx, m1, hb⟩ := hb
 have hr1 : RowEn w1 w.heap.size v L := h.row.mod m1 (fun k hk e => by omega)
 have hE : t = false → T = endP (acc, now) l := fun e => by
  rw [h.at_.yes e, hk e]
  rfl
 constructor
 ·intro h229
  refine ⟨hr1, h.mod.trans m1, ?_⟩
  rcases hb with ⟨_, e, _⟩ | ⟨r, rfl, q⟩
  ·omega
  ·cases t with
   | false =>
    rw [hE rfl, h229]
    exact ⟨q, (h.ents rfl).mod m1 (fun k hk e => by omega)⟩
   | true => rw [h.at_.no rfl]; exact ⟨r, now, q⟩
 ·intro h229
  have hq : ∃ r, RdX (w1.setCell ⟨rb, 2, none⟩ (.bool true)) rb gb r now true ∧ Mod (· = rb) w1 (w1.setCell ⟨rb, 2, none⟩ (.bool true)) := by
   rcases hb with ⟨_, e, q⟩ | ⟨r, rfl, q⟩
   ·exact ⟨_, q.tear⟩
   ·exact ⟨r, q.tear⟩
  obtain ⟨r, q1, q2⟩ := hq
  refine ⟨hr1.mod q2 (fun k hk e => by omega), (h.mod.trans m1).trans q2, ?_⟩
  have hT : T = none := by
   cases t with
   | true => exact h.at_.no rfl
   | false =>
    rw [hE rfl]
    rcases hb with ⟨rfl, _, _⟩ | ⟨r, rfl, _⟩
    ·rfl
    ·show (if x = 229 then some ((acc, now), r) else none) = none
     rw [if_neg h229]
  rw [hT]
  exact ⟨r, now, q1⟩
theorem rrecord_any {w : World} {rb gb : Nat} {l : List Int} {now : Int} (h : RdX w rb gb l now false) :
  Calls Try.prog 103 #[.pointer (some ⟨rb, 0, none⟩)] w fun e w' => ∃ v L, e = .returned v ∧ RowEn w' w.heap.size v L ∧ Mod (· = rb) w w' ∧
   RecR w w' rb gb (recP now l) L := by
 have hrl := h.ne_box
 have hgl := h.lt
 have hll := h.len
 have A0 := hide ((h.start (recP now)).cont (c' := fun r => bindP (numP r 0 0) fun n r => bindP (entsP n.toNat now [] r) endP) (recP_eq now l))
 clear h
 generalize recP now l = T at *
 go_enter Try.func103, Try.ntmps103
 go_wp2_with fail
 refine (rnum_any (unhide A0).rd).mono ?_
 rintro e w1 ⟨n, rfl, fn, hn⟩
 obtain ⟨l1, t1, a1, e1⟩ := (unhide A0).next hn.2
 have I1 : RcI w w1 rb gb (.slice none 0 0) [] [] l.length n.toNat l1 t1 now T :=
  ⟨⟨World.ownsRow_nil _ _ _ _, fun j hj => by simp [Value.ownBlock] at hj, fun x hx => by simp at hx⟩, fun _ => trivial, hn.1, a1, by simp, fun e => by have := numP_sh (e1 e).1; simp; omega⟩
 have I1 := hide I1
 have HG := hide (show rb < w.heap.size ∧ gb < w.heap.size from ⟨hrl, hgl⟩)
 clear hn a1 e1 A0
 go_wp2_with fail
 go_loopw [3, 4] (fun s s4 wr => ∃ (n : Int) (v : Value) (L : List (Int × Value)) (acc : List Ent) (l' : List Int) (t' : Bool) (now' : Int), s = v ∧ s4 = .int .i64 n ∧ n ≤ 9223372036854775807 ∧ Hid (RcI w wr rb gb v L acc l.length n.toNat l' t' now' T)) (fun _ s _ => (intOf s).toNat)
 case atStart => exact ⟨n, _, _, _, _, _, _, rfl, rfl, fn.2, I1⟩
 case round =>
  obtain ⟨n', v, L, acc, l', t', now', rfl, rfl, hn', I4⟩ := hrel
  clear I1
  have et : wr.cell? ⟨rb, 2, none⟩ = some (.bool t') := (unhide I4).at_.rd.torn_cell
  have erl := (unhide I4).at_.rd.box_lt
  by_cases hpos : 0 < n' ∧ t' = false
  ·obtain ⟨hn0, rfl⟩ := hpos
   have hgt : n' > 0 := hn0
   obtain ⟨k, hk⟩ : ∃ k, n'.toNat = k + 1 := ⟨n'.toNat - 1, by omega⟩
   rw [hk] at I4
   have hw1 : IntKind.i64.wrap (n' - 1) = n' - 1 := by rw [IntKind.wrap_i64]; omega
   obtain ⟨a, c, rfl⟩ := slice_of_owns (unhide I4).row.row
   have hal : L.length ≤ 1099511627776 := by have := (unhide I4).len.2 rfl; omega
   obtain ⟨iE, q0, q1, q2, q3⟩ := info_parts infoEnt
   go_wp2_with fail
   refine (rentry_any (unhide I4).at_.rd).mono ?_
   rintro e w5 ⟨f, u, rfl, r5⟩
   have hnr : ∀ k, (Value.slice a L.length c).ownBlock = some k → ¬ k = rb := fun k e e2 => by have := (unhide I4).row.own k e; have := (unhide HG).1; omega
   have O5 := hide (((Mod.refl No w5).alloc (.cells #[.int .i64 f, u] 124)).owns (r5.2.1.owns (unhide I4).row.row hnr) (fun _ _ x => x))
   have R5 := hide r5
   have h1 := r5.1
   have HO := hide (fun x (hx : x ∈ entL (f, u)) => (show x.oneCell' = true from by
    simp [entL] at hx
    rcases hx with rfl | rfl
    ·rfl
    ·exact h1))
   have HR := hide (reads_ent w5 (f, u))
   unfold entL at HR HO
   clear r5 hnr h1
   go_wp2_with (at_builtin; refine wpList_append_row rfl (.tmp 18) (.tmp 21) 131 rfl 124 iE _ 2 24 Try.underlying131 q0 q1 q2 q3 rfl (by decide) (.slice a L.length c) L.length _ (by simp [Act.eval]) (by exact unhide O5) (.slice (some ⟨w5.heap.size, 0, none⟩) 1 1) 1 [.int .i64 f, u] (by simp [Act.eval]) (by exact unhide HR) rfl (unhide HO) (by unfold maxLen; omega) (by omega) ?_; intro v6 w6 ho6 hg6 hs6; obtain ⟨a6, c6, rfl⟩ := slice_of_owns ho6)
   obtain ⟨acc9, l9, t9, now9, i9⟩ := (unhide I4).next (unhide HG) (unhide R5) _ ho6 hg6 hs6
   refine ⟨⟨n' - 1, _, L ++ [(f, u)], acc9, l9, t9, now9, rfl, rfl, by omega, hide ?_⟩, by simp [intOf]; omega⟩
   rw [show (n' - 1).toNat = k by omega]
   exact i9
  ·have HE := hide (show t' = false → n'.toNat = 0 from fun e => by
    have := hpos
    rw [e] at this
    simp at this
    omega)
   have hex : ¬ n' > 0 ∨ (n' > 0 ∧ t' = true) := by
    by_cases h0 : n' > 0
    ·refine .inr ⟨h0, ?_⟩
     cases t' with
     | true => rfl
     | false => exact absurd ⟨h0, rfl⟩ hpos
    ·exact .inl h0
   clear hpos
   rcases hex with h0 | ⟨h0, rfl⟩
   all_goals
    go_wp2_with fail
    refine (rbyte_any (unhide I4).at_.rd).mono ?_
    rintro e w5 ⟨x, rfl, hb⟩
    have HC := hide (rec_close (unhide I4) (unhide HE) (unhide HG).1 hb)
    have hq2 : (∃ b, w5.cell? ⟨rb, 2, none⟩ = some (.bool b)) ∧ (∀ o, w5.frozen? ⟨rb, o, none⟩ = false) ∧ rb < w5.heap.size := by
     rcases hb.2.2 with ⟨_, _, q⟩ | ⟨r, _, q⟩
     ·exact ⟨⟨_, q.torn_cell⟩, q.box_lt⟩
     ·exact ⟨⟨_, q.torn_cell⟩, q.box_lt⟩
    obtain ⟨⟨tb, q1⟩, q2, q3⟩ := hq2
    clear hb
    by_cases h229 : x = 229
    ·subst h229
     go_wp2_with fail
     go_ret
     exact ⟨_, L, rfl, (unhide HC).1 (by trivial)⟩
    ·have hne : (x != 229) = true := by simpa using h229
     go_wp2_with fail
     go_ret
     exact ⟨_, L, rfl, (unhide HC).2 h229⟩
structure FiI (w wr : World) (rb gb : Nat) (v : Value) (L : List (Int × Value)) (acc : List Ent) (N : Nat) (l : List Int) (now : Int) (T : List Ent × Bool) : Prop where
 row : RowEn wr (rb + 1) v L
 ents : EntsL wr (rb + 1) L acc
 mod : Mod No w wr
 rd : RdX wr rb gb l now false
 ge : rb = w.heap.size ∧ gb < w.heap.size
 eq : T = (acc ++ (readP l.length now l).1, (readP l.length now l).2)
 len : L.length + l.length ≤ N
theorem FiI.next {w wr w5 w6 : World} {rb gb : Nat} {v v' : Value} {L L5 : List (Int × Value)} {acc : List Ent} {N : Nat} {l : List Int} {now : Int} {T : List Ent × Bool} (h : FiI w wr rb gb v L acc N l now T) {v5 : Value} (hr : RowEn w5 wr.heap.size v5 L5) (hm : Mod (· = rb) wr w5) {es : List Ent} {now' : Int} {r : List Int} (he : recP now l = some ((es, now'), r)) (hx : RdX w5 rb gb r now' false) (hE : EntsL w5 wr.heap.size L5 es)
  (ho : w6.ownsRow 0 124 2 v' (L.length + L5.length) ((L.flatMap entL) ++ L5.flatMap entL)) (hg : w5.grownBy w6 v.ownBlock) (hs : Stays w5 v v') :
  FiI w w6 rb gb v' (L ++ L5) (acc ++ es) N r now' T := by
 obtain ⟨h1, h2, h3, h4, h5, h6, h7⟩ := h
 have hw := h3.size
 have hrl := h4.ne_box
 have m6 : Mod (fun j => v.ownBlock = some j) w5 w6 := (Mod.refl _ w5).grown hg (fun j hj => .inl hj)
 have hvn : ∀ j, v.ownBlock = some j → rb + 1 ≤ j ∧ j < wr.heap.size := fun j hj => ⟨h1.own j hj, (h1.row.lt j hj).2⟩
 have hnew : ∀ j, v'.ownBlock = some j → rb + 1 ≤ j := fun j hj => by
  rcases hs j hj with q | q
  ·exact h1.own j q
  ·have := hm.size
   omega
 have hlen : L5.length = es.length := hE.len
 have hge := recP_ge he
 have hsh := recP_shorter he
 refine ⟨⟨?_, hnew, fun x hx => ?_⟩, ?_, (h3.trans' hm (fun j hj hl => by omega)).trans' m6 (fun j hj hl => by have := (hvn j hj).1; omega), hx.mod m6 (fun e => by have := (hvn rb e).1; omega) (fun e => by have := (hvn gb e).1; omega), h5, ?_, ?_⟩
 ·rw [List.flatMap_append, List.length_append]
  exact ho
 ·rcases List.mem_append.1 hx with q | q
  ·exact h1.one x q
  ·exact hr.one x q
 ·have a1 : EntsL w5 (rb + 1) L acc := h2.mod hm (fun k hk e => by omega)
  have a2 : EntsL w6 (rb + 1) L acc := EntsL.app (hm.owns h1.row (fun k hk e => by have := (hvn k hk).1; omega)) m6 a1
  exact EntsL.append ((hE.mod m6 (fun k hk e => by have := (hvn k e).2; omega)).low (by omega)) a2
 ·obtain ⟨j, hj⟩ : ∃ j, l.length = j + 1 := ⟨l.length - 1, by omega⟩
  rw [h6, hj, readP_succ, if_neg (by rintro rfl; simp at hj), he]
  simp only
  rw [readP_fuel j r.length now' r (by omega) (Nat.le_refl _)]
  simp
 ·simp
  simp at hge
  omega
def FileR (w w' : World) (v : Value) (L : List (Int × Value)) (es : List Ent) : Prop := RowEn w' w.heap.size v L ∧ EntsL w' w.heap.size L es ∧ Mod No w w'
theorem FiI.stop {w wr w5 : World} {rb gb : Nat} {v : Value} {L : List (Int × Value)} {acc : List Ent} {N : Nat} {l : List Int} {now : Int} {T : List Ent × Bool} (h : FiI w wr rb gb v L acc N l now T) (hl : 0 < l.length) (hm : Mod (· = rb) wr w5) (he : recP now l = none) : T.2 = false ∧ FileR w w5 v L T.1 := by
 have h5 := h.ge
 obtain ⟨j, hj⟩ : ∃ j, l.length = j + 1 := ⟨l.length - 1, by omega⟩
 have hq := h.eq
 rw [hj, readP_succ, if_neg (by rintro rfl; simp at hj), he] at hq
 simp only [List.append_nil] at hq
 rw [hq]
 exact ⟨rfl, (h.row.mod hm (fun k hk e => by omega)).low (by omega), (h.ents.mod hm (fun k hk e => by omega)).low (by omega), h.mod.trans' hm (fun k hk hl => by omega)⟩
theorem FiI.done {w wr : World} {rb gb : Nat} {v : Value} {L : List (Int × Value)} {acc : List Ent} {N : Nat} {l : List Int} {now : Int} {T : List Ent × Bool} (h : FiI w wr rb gb v L acc N l now T) (hl : l.length = 0) : T.2 = true ∧ FileR w wr v L T.1 := by
 have h5 := h.ge
 obtain rfl := List.eq_nil_of_length_eq_zero hl
 have hq := h.eq
 rw [readP_zero] at hq
 simp only [List.append_nil] at hq
 rw [hq]
 exact ⟨rfl, h.row.low (by omega), h.ents.low (by omega), h.mod⟩
theorem read_file {w : World} {a : Option Addr} {c : Nat} {l : List Int} (hb : w.ownsRow 0 5 1 (.slice a l.length c) l.length (u8s l)) (hl : l.length ≤ 1099511627776) (h8 : ∀ x ∈ l, 0 ≤ x ∧ x < 256) (hw : 0 < w.heap.size) :
  Calls Try.prog 92 #[.slice a l.length c] w fun e w' => ∃ a' c' L, e = .returned (.tuple #[.slice a' L.length c', .bool (fileP l).2]) ∧ FileR w w' (.slice a' L.length c') L (fileP l).1 := by
 have m0 : Mod No w (w.alloc (.cells #[.slice a l.length c, .int .i64 0, .bool false] 198)) := (Mod.refl _ _).alloc _
 have I0 : ∃ gb, FiI w (w.alloc (.cells #[.slice a l.length c, .int .i64 0, .bool false] 198)) w.heap.size gb (.slice none 0 0) [] [] l.length l 0 (fileP l) := by
  obtain ⟨gb, hgb, hrd⟩ : ∃ gb, gb < w.heap.size ∧ (l.length ≤ c ∧ ∀ (j : Nat) (x : Int), l[j]? = some x → ∃ o, a = some ⟨gb, o, none⟩ ∧ (w.alloc (.cells #[.slice a l.length c, .int .i64 0, .bool false] 198)).cell? ⟨gb, o + j, none⟩ = some (.int .u8 x)) := by
   have hb' := hb
   obtain ⟨_, ⟨h1, h2⟩ | ⟨g, cap, cur, hv, _, hg, hn, _⟩⟩ := hb
   ·refine ⟨0, hw, by omega, fun j x hx => ?_⟩
    obtain rfl := List.eq_nil_of_length_eq_zero h2
    simp at hx
   ·injection hv with e1 e2 e3
    subst e1 e3
    refine ⟨g, (hb'.lt g rfl).2, hn, fun j x hx => ⟨0, rfl, ?_⟩⟩
    have := hb'.cells (g := g) rfl j (.int .u8 x) (by unfold u8s; rw [List.getElem?_map, hx]; rfl)
    rw [Addr.add_mid] at this
    exact mod_cellS m0 this (fun x => x)
  refine ⟨gb, ⟨World.ownsRow_nil _ _ _ _, fun j hj => by simp [Value.ownBlock] at hj, fun x hx => by simp at hx⟩, trivial, m0, ⟨⟨a, c, Has.new _ _ _, hrd.1, hrd.2⟩, by omega, by simp; omega, by omega, hl, h8⟩, ⟨rfl, hgb⟩, by unfold fileP; simp, by simp⟩
 obtain ⟨gb, I0⟩ := I0
 have I0 := hide I0
 clear hb m0 h8
 generalize fileP l = T at *
 go_enter Try.func92, Try.ntmps92
 go_wp2_with fail
 go_loopw [2] (fun s wr => ∃ (v : Value) (L : List (Int × Value)) (acc : List Ent) (l' : List Int) (now' : Int), s = v ∧ Hid (FiI w wr w.heap.size gb v L acc l.length l' now' T)) (fun _ wr => lenAt wr w.heap.size)
 case atStart => exact ⟨_, _, _, _, _, rfl, I0⟩
 case round =>
  obtain ⟨v, L, acc, l', now', rfl, I4⟩ := hrel
  clear I0
  obtain ⟨ab, cb, hrh, hrc, -⟩ := (unhide I4).rd.has
  have e0 : wr.cell? ⟨w.heap.size, 0, none⟩ = some (.slice ab l'.length cb) := hrh.cell 0
  have erl := hrh.lt
  have hll : l'.length ≤ 1099511627776 := by have := (unhide I4).len; omega
  have HL := hide (unhide I4).rd.lenAt
  clear hrh hrc
  by_cases hpos : 0 < l'.length
  ·have hgt : (l'.length : Int) > 0 := by omega
   go_wp2_with fail
   refine (rrecord_any (unhide I4).rd).mono ?_
   rintro e w5 ⟨v5, L5, rfl, r5, m5, q5⟩
   obtain ⟨a4, c4, rfl⟩ := slice_of_owns (unhide I4).row.row
   rcases hR : recP now' l' with _ | ⟨⟨es, now5⟩, r⟩
   ·rw [hR] at q5
    obtain ⟨r, n5, q5⟩ := q5
    have e2 : w5.cell? ⟨w.heap.size, 2, none⟩ = some (.bool true) := q5.torn_cell
    have e3 := q5.ne_box
    have FIN := hide ((unhide I4).stop hpos m5 hR)
    clear I4 q5 m5 r5 hR
    go_wp2_with fail
    go_ret2
    obtain ⟨f1, f2⟩ := unhide FIN
    exact ⟨a4, c4, L, (by rw [f1]; rfl), f2⟩
   ·rw [hR] at q5
    obtain ⟨q5, q6⟩ := q5
    have e2 : w5.cell? ⟨w.heap.size, 2, none⟩ = some (.bool false) := q5.torn_cell
    have e3 := q5.ne_box
    obtain ⟨a5, c5, rfl⟩ := slice_of_owns r5.row
    have hal := (unhide I4).len
    have hsh := recP_shorter hR
    have hge := recP_ge hR
    have hlen : L5.length = es.length := q6.len
    have hnr : ∀ k, (Value.slice a4 L.length c4).ownBlock = some k → ¬ k = w.heap.size := fun k e e2 => by have := (unhide I4).row.own k e; omega
    have O5 := hide (m5.owns (unhide I4).row.row hnr)
    have RR := hide (reads_of_owns r5.row)
    have H1 := hide (show ∀ u ∈ L5.flatMap entL, u.oneCell' = true from fun u hu => by
     obtain ⟨x, hx, hu⟩ := List.mem_flatMap.1 hu
     simp [entL] at hu
     rcases hu with rfl | rfl
     ·rfl
     ·exact r5.one x hx)
    obtain ⟨iE, p0, p1, p2, p3⟩ := info_parts infoEnt
    have R5 := hide r5
    have M5 := hide m5
    have HR := hide hR
    have Q5 := hide q5
    have Q6 := hide q6
    have hb1 : L.length + L5.length ≤ 1099511627776 := by simp at hge; omega
    have HS := hide hsh
    clear hnr r5 m5 hR q5 q6 hal hge hlen hsh
    go_wp2_with (at_builtin; refine wpList_append_row rfl (.tmp 16) (.tmp 17) 131 rfl 124 iE _ 2 24 Try.underlying131 p0 p1 p2 p3 rfl (by decide) (.slice a4 L.length c4) L.length _ (by simp [Act.eval]) (by exact unhide O5) (.slice a5 L5.length c5) L5.length _ (by simp [Act.eval]) (by exact unhide RR) (unhide R5).row.1 (unhide H1) (by unfold maxLen; omega) (by omega) ?_; intro v6 w6 ho6 hg6 hs6; obtain ⟨a6, c6, rfl⟩ := slice_of_owns ho6)
    have N6 := (unhide I4).next (unhide R5) (unhide M5) (unhide HR) (unhide Q5) (unhide Q6) ho6 hg6 hs6
    refine ⟨⟨_, L ++ L5, acc ++ es, r, now5, rfl, hide N6⟩, ?_⟩
    rw [N6.rd.lenAt, unhide HL]
    exact unhide HS
  ·have h0 : l'.length = 0 := by omega
   have hgt : ¬ (l'.length : Int) > 0 := by omega
   obtain ⟨a4, c4, rfl⟩ := slice_of_owns (unhide I4).row.row
   have FIN := hide ((unhide I4).done h0)
   clear I4
   go_wp2_with fail
   go_ret2
   obtain ⟨f1, f2⟩ := unhide FIN
   exact ⟨a4, c4, L, (by rw [f1]; rfl), f2⟩
open Go.ChangeMaps (setBlock)
set_option maxHeartbeats 2000000
theorem KeepX.mod {w w' : World} {ow : Nat → Nat} {kb : Nat} {now : Int} {pt : Nat → Option Nat} {fl : Nat → Option (Pla × List Sea)} (h : KeepX w ow kb now pt fl) {S : Nat → Prop} (hm : Mod S w w') (hs : ∀ k, ow k ≠ 0 → ¬ S k) : KeepX w' ow kb now pt fl := by
 refine ⟨hm.has h.has (hs _ (by rw [h.mine]; omega)), h.mine, fun k hk => Nat.lt_of_lt_of_le (h.old k hk) hm.size, h.gone, fun n p l hn hf => ?_⟩
 obtain ⟨b, h1, h2, h3⟩ := h.here n p l hn hf
 exact ⟨b, h1, h2, h3.mod hm (fun k hk => hs k (by omega))⟩
theorem KeepX.flight {w w' : World} {ow : Nat → Nat} {kb : Nat} {now : Int} {pt : Nat → Option Nat} {fl : Nat → Option (Pla × List Sea)} (h : KeepX w ow kb now pt fl) {n : Nat} {b : Nat} {p : Pla} {l : List Sea}
  (hm : Mod (fun k => ow k = n + 2) w w') (hp : pt n = some b) (hw : Wf p l) (hf : FlH w' (fun k => ow k = n + 2) b p l) : KeepX w' ow kb now pt (fun j => if j = n then some (p, l) else fl j) := by
 refine ⟨hm.has h.has (by rw [h.mine]; omega), h.mine, fun k hk => Nat.lt_of_lt_of_le (h.old k hk) hm.size, fun j hj hn => ?_, fun j p' l' hj hn => ?_⟩
 ·by_cases e : j = n
  ·rw [if_pos e] at hn; exact absurd hn (by simp)
  ·rw [if_neg e] at hn; exact h.gone j hj hn
 ·by_cases e : j = n
  ·rw [if_pos e] at hn
   simp only [Option.some.injEq, Prod.mk.injEq] at hn
   obtain ⟨rfl, rfl⟩ := hn
   subst e
   exact ⟨b, hp, hw, hf⟩
  ·rw [if_neg e] at hn
   obtain ⟨b', h1, h2, h3⟩ := h.here j p' l' hj hn
   exact ⟨b', h1, h2, h3.mod hm (fun k hk hk' => by omega)⟩
theorem KeepX.congr {w : World} {ow : Nat → Nat} {kb : Nat} {now : Int} {pt : Nat → Option Nat} {fl fl' : Nat → Option (Pla × List Sea)} (h : KeepX w ow kb now pt fl) (hf : ∀ n, n < 21 → fl n = fl' n) : KeepX w ow kb now pt fl' :=
 ⟨h.has, h.mine, h.old, fun n hn hf' => h.gone n hn (by rw [hf n hn]; exact hf'), fun n p l hn hf' => h.here n p l hn (by rw [hf n hn]; exact hf')⟩
theorem KeepX.later {w : World} {ow : Nat → Nat} {kb : Nat} {now : Int} {pt : Nat → Option Nat} {fl : Nat → Option (Pla × List Sea)} (h : KeepX w ow kb now pt fl) (nw : Int) : KeepX (w.setCell ⟨kb, 0, none⟩ (.int .i64 nw)) ow kb nw pt fl := by
 have hm : Mod (fun k => k = kb) w (w.setCell ⟨kb, 0, none⟩ (.int .i64 nw)) := (Mod.refl _ w).at 0 _
 refine ⟨?_, h.mine, fun k hk => Nat.lt_of_lt_of_le (h.old k hk) hm.size, h.gone, fun n p l hn hf => ?_⟩
 ·have := h.has.set 0 (.int .i64 nw)
  rw [show (keepCells now pt).setIfInBounds 0 (.int .i64 nw) = keepCells nw pt from rfl] at this
  exact this
 ·obtain ⟨b, h1, h2, h3⟩ := h.here n p l hn hf
  exact ⟨b, h1, h2, h3.mod hm (fun k hk e => by subst e; rw [h.mine] at hk; omega)⟩
def tickF (nw : Int) (x : Pla × List Sea) : Pla × List Sea := (tickP nw x.1 x.2, tickSeats nw x.2)
theorem tick_wf {p : Pla} {l : List Sea} (h : Wf p l) (nw : Int) : Wf p (tickSeats nw l) := by
 refine ⟨h.sized, h.limited, by simpa [tickSeats] using h.len, fun i hi => ?_, fun s hs => ?_⟩
 ·have hi' : i < l.length := by simpa [tickSeats] using hi
  have := h.place i hi'
  simp only [tickSeats, List.getElem_map] at this ⊢
  split
  ·exact this
  ·exact this
 ·simp only [tickSeats, List.mem_map] at hs
  obtain ⟨x, hx, rfl⟩ := hs
  split
  ·exact freed_wf x
  ·exact h.seat x hx
theorem tickP_wf {p : Pla} {l : List Sea} (h : Wf p l) (nw : Int) : Wf (tickP nw p l) (tickSeats nw l) := by
 unfold tickP
 split
 ·exact (tick_wf h nw).next
 ·exact tick_wf h nw
theorem passH_any {S : Nat → Prop} {b : Nat} {p : Pla} {l : List Sea} {w : World} (h : FlH w S b p l) (hwf : Wf p l) (now : Int) :
  Calls Try.prog 89 #[.agg #[.int .i64 now], .pointer (some ⟨b, 0, none⟩)] w fun e w' => e = .returned (.tuple #[]) ∧ FlH w' S b (tickP now p l) (tickSeats now l) ∧ Mod S w w' := by
 obtain ⟨m, es, clock, h1, h2, h3, h4, h5, h6⟩ := h
 refine (pass_any ⟨h1, h2, h3, h4⟩ hwf now).mono ?_
 rintro e w' ⟨rfl, ⟨es', hx⟩, hm⟩
 exact ⟨rfl, ⟨m, es', clock, hx.has, hx.map, hx.ok, hx.rel, h5, h6⟩, hm.mono (by rintro k _ (rfl | rfl); exact h5; exact h6)⟩
theorem under90 : Try.prog.underlying 109 = some (.array 21 105) := by kernel_rfl
theorem size90 : (Try.prog.info? 109).map (·.size) = some 21 := by kernel_rfl
def ptrs (pt : Nat → Option Nat) : List Value := [pv (pt 0), pv (pt 1), pv (pt 2), pv (pt 3), pv (pt 4), pv (pt 5), pv (pt 6), pv (pt 7), pv (pt 8), pv (pt 9), pv (pt 10), pv (pt 11), pv (pt 12), pv (pt 13), pv (pt 14), pv (pt 15), pv (pt 16), pv (pt 17), pv (pt 18), pv (pt 19), pv (pt 20)]
theorem idx90 (pt : Nat → Option Nat) (n : Nat) (hn : n < 21) (w : World) : (Instr.index 109 (.agg (ptrs pt).toArray) (.int .i64 (n : Int))).run Try.prog w = .ok (pv (pt n)) w := by
 have : n = 0 ∨ n = 1 ∨ n = 2 ∨ n = 3 ∨ n = 4 ∨ n = 5 ∨ n = 6 ∨ n = 7 ∨ n = 8 ∨ n = 9 ∨ n = 10 ∨ n = 11 ∨ n = 12 ∨ n = 13 ∨ n = 14 ∨ n = 15 ∨ n = 16 ∨ n = 17 ∨ n = 18 ∨ n = 19 ∨ n = 20 := by omega
 rcases this with h | h | h | h | h | h | h | h | h | h | h | h | h | h | h | h | h | h | h | h | h <;> (subst h; rfl)
theorem keep_range {w : World} {kb : Nat} {now : Int} {pt : Nat → Option Nat} (h : Has w kb (keepCells now pt) 117) : w.rangeAt kb 1 (ptrs pt) := by
 intro j v hj
 rw [h.cell]
 by_cases hl : j < 21
 ·rw [keep_at now pt j hl]
  have : j = 0 ∨ j = 1 ∨ j = 2 ∨ j = 3 ∨ j = 4 ∨ j = 5 ∨ j = 6 ∨ j = 7 ∨ j = 8 ∨ j = 9 ∨ j = 10 ∨ j = 11 ∨ j = 12 ∨ j = 13 ∨ j = 14 ∨ j = 15 ∨ j = 16 ∨ j = 17 ∨ j = 18 ∨ j = 19 ∨ j = 20 := by omega
  rcases this with h | h | h | h | h | h | h | h | h | h | h | h | h | h | h | h | h | h | h | h | h <;> (subst h; exact hj)
 ·rw [List.getElem?_eq_none (by simp [ptrs]; omega)] at hj
  exact absurd hj (by simp)
theorem kpass_any {w : World} {ow : Nat → Nat} {kb : Nat} {now : Int} {pt : Nat → Option Nat} {fl : Nat → Option (Pla × List Sea)} (h : KeepX w ow kb now pt fl) (nw : Int) :
  Calls Try.prog 65 #[.pointer (some ⟨kb, 0, none⟩), .agg #[.int .i64 nw]] w fun e w' =>
   e = .returned (.tuple #[]) ∧ KeepX w' ow kb nw pt (fun n => (fl n).map (tickF nw)) ∧ Mod (fun k => ow k ≠ 0 ∧ ow k < 30) w w' := by
 have hlt := h.has.lt
 have c0 := h.has.cell 0
 rw [show (keepCells now pt)[0]? = some (.int .i64 now) from rfl] at c0
 have fz := h.has.frozen
 have H := hide h
 clear h
 go_enter Try.func65, Try.ntmps65
 go_upto_region 2 with fail
 have k2 : KeepX ((w.setCell ⟨kb, 0, none⟩ (.int .i64 nw)).alloc (.cells #[.int .i64 nw] 144)) ow kb nw pt fl := ((unhide H).later nw).mod ((Mod.refl No _).alloc _) (fun _ _ x => x)
 have m2 : Mod (fun k => ow k ≠ 0 ∧ ow k < 30) w ((w.setCell ⟨kb, 0, none⟩ (.int .i64 nw)).alloc (.cells #[.int .i64 nw] 144)) := ((Mod.refl _ w).setCell (p := ⟨kb, 0, none⟩) (.inl (by show ow kb ≠ 0 ∧ ow kb < 30; rw [(unhide H).mine]; omega)) _).alloc _
 have b2 : Has ((w.setCell ⟨kb, 0, none⟩ (.int .i64 nw)).alloc (.cells #[.int .i64 nw] 144)) w.heap.size #[.int .i64 nw] 144 := by
  have := Has.new (w.setCell ⟨kb, 0, none⟩ (.int .i64 nw)) #[.int .i64 nw] 144
  rw [World.size_setCell] at this
  exact this
 have n0 := hide (show ow w.heap.size = 0 from by
  by_cases hz : ow w.heap.size = 0
  ·exact hz
  ·exact absurd ((unhide H).old _ hz) (by omega))
 have hr := keep_range k2.has
 have hlt2 := k2.has.lt
 have K2 := hide k2
 have M2 := hide m2
 have B2 := hide b2
 clear k2 m2 b2 H c0 fz
 generalize (w.setCell ⟨kb, 0, none⟩ (.int .i64 nw)).alloc (.cells #[.int .i64 nw] 144) = w2 at *
 go_wp2_with (refine wpList_load_mid rfl 109 _ rfl kb 1 rfl (ptrs pt) (.array 21 105) hr under90 rfl size90 ?_)
 go_loopw [15] (fun i wr => ∃ k : Nat, i = .int .i64 k ∧ k ≤ 21 ∧ Hid (KeepX wr ow kb nw pt (fun n => if n < k then (fl n).map (tickF nw) else fl n)) ∧ Hid (Mod (fun k => ow k ≠ 0 ∧ ow k < 30) w wr) ∧ Hid (Has wr w.heap.size #[.int .i64 nw] 144)) (fun i _ => 21 - (intOf i).toNat)
 case atStart => exact ⟨0, rfl, by omega, (unhide K2).congr (fun n _ => by rw [if_neg (by omega)]), M2, B2⟩
 case round =>
  obtain ⟨k, rfl, hk, K3, M3, B3⟩ := hrel
  clear hr K2 M2 B2 hlt2
  by_cases h21 : k < 21
  ·have hki : (k : Int) < 21 := by omega
   have hk0 : IntKind.i64.wrap ((k : Int) + 1) = ((k + 1 : Nat) : Int) := by rw [wrap_id _ (by omega) (by omega)]; rfl
   have hix := idx90 pt k h21 wr
   cases hfl : fl k with
   | none =>
    have hp := (unhide K3).gone k h21 (by simp [hfl])
    rw [hp] at hix
    rw [show pv none = .pointer none from rfl] at hix
    have K4 := hide ((unhide K3).congr (fl' := fun n => if n < k + 1 then (fl n).map (tickF nw) else fl n) (fun n hn => by
     by_cases e : n = k
     ·subst e; simp [hfl]
     ·by_cases e2 : n < k
      ·simp only [if_pos e2, if_pos (show n < k + 1 by omega)]
      ·simp only [if_neg e2, if_neg (show ¬ n < k + 1 by omega)]))
    clear hfl hp K3
    go_wp2
    exact ⟨⟨k + 1, rfl, by omega, K4, M3, B3⟩, by simp [intOf]; omega⟩
   | some x =>
    obtain ⟨p, l⟩ := x
    obtain ⟨b, hp, hw, hf⟩ := (unhide K3).here k p l h21 (by simp [hfl])
    rw [hp] at hix
    rw [show pv (some b) = .pointer (some ⟨b, 0, none⟩) from rfl] at hix
    have cb := (unhide B3).cell
    have lb := (unhide B3).lt
    have HF := hide (passH_any hf hw nw)
    have HW := hide hw
    have HP := hide hp
    have HFL := hide hfl
    clear hfl hp hw hf
    go_wp2_with fail
    refine (unhide HF).mono ?_
    rintro e w4 ⟨rfl, hf4, hm4⟩
    have K4 := hide (((unhide K3).flight hm4 (unhide HP) (tickP_wf (unhide HW) nw) hf4).congr (fl' := fun n => if n < k + 1 then (fl n).map (tickF nw) else fl n) (fun n hn => by
     by_cases e : n = k
     ·subst e; simp [unhide HFL, tickF]
     ·by_cases e2 : n < k
      ·simp only [if_neg e, if_pos e2, if_pos (show n < k + 1 by omega)]
      ·simp only [if_neg e, if_neg e2, if_neg (show ¬ n < k + 1 by omega)]))
    have M4 := hide ((unhide M3).trans (hm4.mono (fun _ _ (h : ow _ = k + 2) => by show ow _ ≠ 0 ∧ ow _ < 30; omega)))
    have B4 := hide (hm4.has (unhide B3) (by rw [unhide n0]; omega))
    clear hf4 hm4 K3 M3 B3 HF cb
    go_wp2
    exact ⟨⟨k + 1, rfl, by omega, K4, M4, B4⟩, by simp [intOf]; omega⟩
  ·have hki : ¬ (k : Int) < 21 := by omega
   go_wp2
   go_end0
   exact ⟨rfl, (unhide K3).congr (fun n hn => by rw [if_pos (by omega)]), unhide M3⟩
end Go.Proofs.Ythhibagcpjeihaa
