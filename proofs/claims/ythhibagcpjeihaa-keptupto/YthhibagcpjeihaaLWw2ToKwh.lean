import Derived.Test.YthhibagcpjeihaaLOpenToWw1
import Derived.Test.YthhibagcpjeihaaLWr6ToEnt2
import Derived.Test.YthhibagcpjeihaaLOpn3ToKeep8
import Derived.Test.YthhibagcpjeihaaLSwap2ToWr2
import Derived.Deep.CutRange
import Derived.Deep.MidRow
namespace Go.Proofs.Ythhibagcpjeihaa
open Go.RowKit
open M
set_option linter.unusedVariables false
set_option linter.unusedSimpArgs false
set_option maxRecDepth 100000
set_option maxHeartbeats 4000000
attribute [local go_sem] wta7_1 wta7_2 wta7_3 wta7_4 wta7_5 wta7_6 wta7_7
theorem wentry_whole {O : Nat → Prop} {w : World} {wb : Nat} {xs : List Int} {now : Int} (h : ∃ v, WrX O w wb v xs now) (hO : Up O w) (hl : xs.length < 1099511599000) (f : Int) (hf : 0 ≤ f ∧ f < 32) (p : Pla) (hp : Pla.fit p) (he : 0 ≤ p.ep ∧ p.ep < 9223372036854775808) {a : Option Addr} {c : Nat} (ss : List Sea) (hss : ∀ s ∈ ss, SFit now s) (hsl : ss.length ≤ 120)
  (hr : w.ownsRow 0 180 6 (.slice a ss.length c) ss.length (ss.flatMap fillL)) (hb : ∀ g, (Value.slice a ss.length c).ownBlock = some g → ¬ O g) :
  Calls Try.prog 88 #[.pointer (some ⟨wb, 0, none⟩), .agg #[.int .i64 f, .iface 177 (.agg #[.int .i64 p.rows, .int .i64 p.cols, .int .i64 p.front, .int .i64 p.l0, .int .i64 p.l1, .int .i64 p.l2, .int .i64 p.l3, .slice a ss.length c, .int .i64 p.ep])]] w fun e w' => e = .returned (.tuple #[]) ∧ Wrote O w w' wb (xs ++ ((32 * 7 + f) :: wholeB now p ss)) now := by
 obtain ⟨v, h⟩ := h
 have B1 := hide (Has.new2 w (.cells #[.int .i64 f, .iface 177 (.agg #[.int .i64 p.rows, .int .i64 p.cols, .int .i64 p.front, .int .i64 p.l0, .int .i64 p.l1, .int .i64 p.l2, .int .i64 p.l3, .slice a ss.length c, .int .i64 p.ep])] 124) #[.int .i64 p.rows, .int .i64 p.cols, .int .i64 p.front, .int .i64 p.l0, .int .i64 p.l1, .int .i64 p.l2, .int .i64 p.l3, .slice a ss.length c, .int .i64 p.ep] 177)
 have HO1 := hide (hO.box2 (.cells #[.int .i64 f, .iface 177 (.agg #[.int .i64 p.rows, .int .i64 p.cols, .int .i64 p.front, .int .i64 p.l0, .int .i64 p.l1, .int .i64 p.l2, .int .i64 p.l3, .slice a ss.length c, .int .i64 p.ep])] 124) (.cells #[.int .i64 p.rows, .int .i64 p.cols, .int .i64 p.front, .int .i64 p.l0, .int .i64 p.l1, .int .i64 p.l2, .int .i64 p.l3, .slice a ss.length c, .int .i64 p.ep] 177))
 have HN := hide (whead_w ⟨v, h.box2 (.cells #[.int .i64 f, .iface 177 (.agg #[.int .i64 p.rows, .int .i64 p.cols, .int .i64 p.front, .int .i64 p.l0, .int .i64 p.l1, .int .i64 p.l2, .int .i64 p.l3, .slice a ss.length c, .int .i64 p.ep])] 124) (.cells #[.int .i64 p.rows, .int .i64 p.cols, .int .i64 p.front, .int .i64 p.l0, .int .i64 p.l1, .int .i64 p.l2, .int .i64 p.l3, .slice a ss.length c, .int .i64 p.ep] 177)⟩ (unhide HO1) (by omega) 7 f (by omega) hf)
 have mA : Mod No w ((w.alloc (.cells #[.int .i64 f, .iface 177 (.agg #[.int .i64 p.rows, .int .i64 p.cols, .int .i64 p.front, .int .i64 p.l0, .int .i64 p.l1, .int .i64 p.l2, .int .i64 p.l3, .slice a ss.length c, .int .i64 p.ep])] 124)).alloc (.cells #[.int .i64 p.rows, .int .i64 p.cols, .int .i64 p.front, .int .i64 p.l0, .int .i64 p.l1, .int .i64 p.l2, .int .i64 p.l3, .slice a ss.length c, .int .i64 p.ep] 177)) := ((Mod.refl _ _).alloc _).alloc _
 have HR := hide (mA.owns hr (fun _ _ x => x))
 have HB := hide hb
 clear h hO hr hb mA
 have HS := hide hss
 clear hss
 go_enter Try.func88, Try.ntmps88
 go_wp2_with fail
 refine (unhide HN).mono ?_
 rintro e w1 ⟨rfl, q1⟩
 have b1 := q1.mod.has (unhide B1) (fun q => q.2 rfl)
 have c0 : w1.cell? ⟨w.heap.size + 1, 0, none⟩ = some (.int .i64 p.rows) := b1.cell 0
 have c1 : w1.cell? ⟨w.heap.size + 1, 1, none⟩ = some (.int .i64 p.cols) := b1.cell 1
 have c2 : w1.cell? ⟨w.heap.size + 1, 2, none⟩ = some (.int .i64 p.front) := b1.cell 2
 have c3 : w1.cell? ⟨w.heap.size + 1, 3, none⟩ = some (.int .i64 p.l0) := b1.cell 3
 have c4 : w1.cell? ⟨w.heap.size + 1, 4, none⟩ = some (.int .i64 p.l1) := b1.cell 4
 have c5 : w1.cell? ⟨w.heap.size + 1, 5, none⟩ = some (.int .i64 p.l2) := b1.cell 5
 have c6 : w1.cell? ⟨w.heap.size + 1, 6, none⟩ = some (.int .i64 p.l3) := b1.cell 6
 have c7 : w1.cell? ⟨w.heap.size + 1, 7, none⟩ = some (.slice a ss.length c) := b1.cell 7
 have c8 : w1.cell? ⟨w.heap.size + 1, 8, none⟩ = some (.int .i64 p.ep) := b1.cell 8
 have hlt := b1.lt
 have HO2 := hide ((unhide HO1).mod q1.mod)
 have Q1 := hide q1
 have HN2 := hide (wwhole_any q1.ex (unhide HO2) (by simp only [List.length_append, List.length_singleton]; omega) p hp he ss (unhide HS) hsl (q1.mod.owns (unhide HR) (fun k hk e => (unhide HB) k hk e.1.1)) (fun k hk e => (unhide HB) k hk e.1.1))
 clear q1 b1 HN B1
 go_wp2_with fail
 refine (unhide HN2).mono ?_
 rintro e w2 ⟨rfl, q2⟩
 have Q2 := hide ((q2.after (unhide Q1).mod (fun _ _ x => x)).unbox2)
 clear q2 HN2 Q1
 go_wp2
 go_end0
 refine ⟨rfl, ?_⟩
 have q := unhide Q2
 rw [List.append_assoc] at q
 exact q
theorem EsFit.at : ∀ {es : List Ent} {now : Int}, EsFit now es → ∀ (i : Nat) (hi : i < es.length), EFit (timeAt now es i) es[i]
 | e :: es, now, h, 0, _ => h.1
 | e :: es, now, h, i + 1, hi => by
  have := EsFit.at h.2 i (by simpa using hi)
  exact this
 | [], _, _, i, hi => by simp at hi
theorem wholeB_len (now : Int) (p : Pla) (l : List Sea) : (wholeB now p l).length ≤ 81 + 36 * l.length := by
 have a := planeB_len p
 have b := (numB_len p.ep).2
 have c := (numB_len (l.length : Int)).2
 have d := fillsB_len now l
 unfold wholeB
 simp only [List.length_append]
 omega
theorem entE_len {now : Int} {e : Ent} (h : EFit now e) : (entB now e).length ≤ 4500 := by
 by_cases h7 : e.kind = 7
 ·have a := wholeB_len now e.pla e.seats
  have b := (h.w h7).1
  unfold entB
  rw [if_neg (by omega), if_neg (by omega), if_neg (by omega), if_neg (by omega), if_neg (by omega), if_neg (by omega)]
  simp only [List.length_cons]
  omega
 ·have := entB_len (h.c h7)
  omega
theorem entsE_len : ∀ {es : List Ent} {now : Int}, EsFit now es → (entsB now es).length ≤ 4500 * es.length
 | [], _, _ => by simp [entsB]
 | e :: es, now, h => by
  have a := entE_len h.1
  have b := entsE_len h.2
  simp only [entsB, List.length_append, List.length_cons]
  omega
theorem EsFit.take : ∀ {es : List Ent} {now : Int}, EsFit now es → ∀ i, EsFit now (es.take i)
 | _, _, _, 0 => by rw [List.take_zero]; trivial
 | [], _, h, _ + 1 => by rw [List.take_nil]; trivial
 | e :: es, now, h, i + 1 => ⟨h.1, EsFit.take h.2 i⟩
theorem wentryE_any {O : Nat → Prop} {w0 w : World} {wb : Nat} {xs : List Int} {now : Int} (h : ∃ v, WrX O w wb v xs now) (hO : Up O w) (hl : xs.length < 1099511599000) {e : Ent} (hf : EFit now e) {lo : Nat} {v : Value} (hv : EntV w0 lo v e) (hm : Mod No w0 w) (hb : ∀ g, g < w0.heap.size → ¬ O g) :
  Calls Try.prog 88 #[.pointer (some ⟨wb, 0, none⟩), .agg #[.int .i64 e.fl, v]] w fun r w' => r = .returned (.tuple #[]) ∧ Wrote O w w' wb (xs ++ entB now e) (entNow now e) := by
 unfold EntV at hv
 by_cases h7 : e.kind = 7
 ·rw [if_pos h7] at hv
  obtain ⟨a, c, rfl, h2, h3⟩ := hv
  obtain ⟨p1, p2, p3, p4, p5, p6⟩ := hf.p h7
  obtain ⟨w1, w2⟩ := hf.w h7
  have := wentry_whole h hO hl e.fl (hf.fl h7) e.pla ⟨⟨p1.1, by omega⟩, ⟨p2.1, by omega⟩, ⟨p3.1, by omega⟩, fun k => by have := p4 k; omega⟩ ⟨p5, by omega⟩ (a := a) (c := c) e.seats (fun s hs => (w2 s hs).1) w1 (hm.owns h2 (fun _ _ x => x)) (fun g hg => hb g (h2.lt g hg).2)
  unfold entB entNow
  rw [if_neg (by omega), if_neg (by omega), if_neg (by omega), if_neg (by omega), if_neg (by omega), if_neg (by omega), if_neg (by omega)]
  exact this
 ·rw [if_neg h7] at hv
  rw [hv]
  exact wentry_any h hO (by omega) e (hf.c h7)
theorem ent_iface {w : World} {lo : Nat} {L : List (Int × Value)} {es : List Ent} (hE : EntsL w lo L es) : ∀ i, ∃ t u, i < L.length → ∀ (h : i < L.length), L[i].2 = .iface t u := fun i => by
 by_cases h : i < L.length
 ·obtain ⟨t, u, e⟩ := (hE.get i h (by rw [← hE.len]; exact h)).2.iface
  exact ⟨t, u, fun _ _ => e⟩
 ·exact ⟨0, .nilIface, fun q => absurd q h⟩
theorem record_ents {w : World} {now : Int} {b n c lo : Nat} {L : List (Int × Value)} {es : List Ent} (hr : RowEn w lo (.slice (some ⟨b, 0, none⟩) n c) L) (hE : EntsL w lo L es) (hf : EsFit now es) (hn : 1 ≤ es.length ∧ es.length ≤ 21) :
  Calls Try.prog 64 #[.int .i64 now, .slice (some ⟨b, 0, none⟩) n c] w fun r w' => ∃ v, r = .returned v ∧ Recorded w w' v (recB now es) := by
 have hL := hE.len
 have hnL : n = L.length := row_len hr.row
 have hcl : ∀ i, ∃ t u f, ∀ (h : i < L.length), L[i].2 = .iface t u ∧ L[i].1 = f := fun i => by
  obtain ⟨t, u, q⟩ := ent_iface hE i
  by_cases h : i < L.length
  ·exact ⟨t, u, L[i].1, fun h => ⟨q h h, rfl⟩⟩
  ·exact ⟨t, u, 0, fun q => absurd q h⟩
 obtain ⟨q, hq⟩ : ∃ q : Nat → TypeId × Value × Int, ∀ i (h : i < L.length), L[i].2 = .iface (q i).1 (q i).2.1 ∧ L[i].1 = (q i).2.2 :=
  ⟨fun i => ((hcl i).choose, (hcl i).choose_spec.choose, (hcl i).choose_spec.choose_spec.choose), fun i h => (hcl i).choose_spec.choose_spec.choose_spec h⟩
 refine record_any now b 0 n c w es (by omega) (by omega) (fun i => (q i).2.2) (fun i => (q i).1) (fun i => (q i).2.1) (fun i hi => ?_) (hr.row.lt b rfl).2 (fun i hi => ?_) (fun i hi W hW wb xs hx hX => ?_)
 ·have hs := hq i (by omega)
  obtain ⟨g, e, _, c0, c1⟩ := ent_cells hr i (by omega)
  injection e with e
  injection e with e _ _
  subst e
  rw [Nat.zero_add]
  exact ⟨by rw [c0, hs.2], by rw [c1, hs.1]⟩
 ·have h1 := entsE_len (hf.take i)
  have h2 : (es.take i).length ≤ 21 := by rw [List.length_take]; omega
  unfold entsTo
  omega
 ·have hs := hq i (by omega)
  obtain ⟨x1, x2⟩ := hE.get i (by omega) hi
  rw [hs.1] at x2
  rw [hs.2] at x1
  rw [x1]
  exact wentryE_any hX (fun k hk => Nat.le_trans hW.size hk) (by omega) (hf.at i hi) x2 hW (fun g hg q => by omega)
open Go.RowKit Go.WideMaps
open Go.ChangeMaps (setBlock)
def fullS (l : List Sea) : List Sea := l.filter fun s => s.st != 0
theorem fullS_take (l : List Sea) (i : Nat) (hi : i < l.length) : fullS (l.take (i + 1)) = fullS (l.take i) ++ (if l[i].st ≠ 0 then [l[i]] else []) := by
 unfold fullS
 rw [take_succ l i hi, List.filter_append]
 by_cases h : l[i].st = 0
 ·simp [h]
 ·simp [h]
structure FwI (w wr : World) (b m clock cb : Nat) (p : Pla) (l : List Sea) (es : List MEnt) (v : Value) (i : Nat) : Prop where
 fl : FlX wr b p l m es clock
 box : Has wr cb (wholeL p v).toArray 177
 row : wr.ownsRow 0 180 6 v (fullS (l.take i)).length ((fullS (l.take i)).flatMap fillL)
 new : ∀ k, v.ownBlock = some k → w.heap.size ≤ k ∧ k ≠ cb
 mod : Mod No w wr
 cbn : w.heap.size ≤ cb
theorem FwI.still {w wr w2 : World} {b m clock cb : Nat} {p : Pla} {l : List Sea} {es : List MEnt} {v : Value} {i : Nat} (h : FwI w wr b m clock cb p l es v i) (hm : Mod No wr w2) : FwI w w2 b m clock cb p l es v i :=
 ⟨⟨hm.has h.fl.has (fun x => x), hm.map h.fl.map (fun x => x), h.fl.ok, h.fl.rel⟩, hm.has h.box (fun x => x), hm.owns h.row (fun _ _ x => x), h.new, h.mod.trans hm, h.cbn⟩
theorem FwI.free {w wr : World} {b m clock cb : Nat} {p : Pla} {l : List Sea} {es : List MEnt} {v : Value} {i : Nat} (h : FwI w wr b m clock cb p l es v i) (hi : i < l.length) (h0 : l[i].st = 0) : FwI w wr b m clock cb p l es v (i + 1) := by
 have e : fullS (l.take (i + 1)) = fullS (l.take i) := by rw [fullS_take l i hi, if_neg (by simp [h0]), List.append_nil]
 exact ⟨h.fl, h.box, by rw [e]; exact h.row, h.new, h.mod, h.cbn⟩
theorem FwI.put {w wr w6 : World} {b m clock cb : Nat} {p : Pla} {l : List Sea} {es : List MEnt} {v v' : Value} {i : Nat} (h : FwI w wr b m clock cb p l es v i) (hi : i < l.length) (h0 : l[i].st ≠ 0) (hb : b < w.heap.size ∧ m < w.heap.size) (o : Obj)
  (ho : w6.ownsRow 0 180 6 v' ((fullS (l.take i)).length + 1) (((fullS (l.take i)).flatMap fillL) ++ fillL l[i])) (hg : (wr.alloc o).grownBy w6 v.ownBlock) (hs : Stays (wr.alloc o) v v') : FwI w (w6.setCell ⟨cb, 7, none⟩ v') b m clock cb p l es v' (i + 1) := by
 obtain ⟨h1, h2, h3, h4, h5, h6⟩ := h
 have hw := h5.size
 have hc := h2.lt
 have m6 : Mod (fun j => v.ownBlock = some j) wr w6 := ((Mod.refl _ wr).alloc o).grown hg (fun j hj => .inl hj)
 have m7 : Mod (fun j => v.ownBlock = some j ∨ j = cb) wr (w6.setCell ⟨cb, 7, none⟩ v') := (m6.mono (fun _ _ x => .inl x)).setCell (p := ⟨cb, 7, none⟩) (.inl (.inr rfl)) _
 have hn : ∀ j, j < w.heap.size → ¬ (v.ownBlock = some j ∨ j = cb) := fun j hj => by
  rintro (e | e)
  ·have := (h4 j e).1; omega
  ·omega
 have hnew : ∀ j, v'.ownBlock = some j → w.heap.size ≤ j ∧ j ≠ cb := fun j hj => by
  rcases hs j hj with q | q
  ·exact h4 j q
  ·rw [World.size_alloc] at q
   omega
 have e : fullS (l.take (i + 1)) = fullS (l.take i) ++ [l[i]] := by rw [fullS_take l i hi, if_pos h0]
 refine ⟨⟨m7.has h1.has (hn b hb.1), m7.map h1.map (hn m hb.2), h1.ok, h1.rel⟩, ?_, ?_, hnew, h5.trans' m7 (fun j hj hl => absurd hj (hn j hl)), h6⟩
 ·have hb : Has w6 cb (wholeL p v).toArray 177 := m6.has h2 (fun e => (h4 cb e).2 rfl)
  exact hb.set 7 v'
 ·rw [e, List.length_append, List.flatMap_append]
  have := owns_setCell_ne ho (a := ⟨cb, 7, none⟩) (fun e => (hnew cb (by simpa using e)).2 rfl) v'
  simpa using this
theorem fwhole_one {w : World} {b m clock : Nat} {p : Pla} {l : List Sea} {es : List MEnt} (h : FlX w b p l m es clock) (h1 : p.ep = 1) :
  Calls Try.prog 73 #[.pointer (some ⟨b, 0, none⟩)] w fun e w' => e = .returned (.iface 163 (.agg #[.int .i64 p.rows, .int .i64 p.cols, .int .i64 p.front, .int .i64 p.l0, .int .i64 p.l1, .int .i64 p.l2, .int .i64 p.l3])) ∧ Mod No w w' := by
 have hlt := h.has.lt
 have f0 : w.cell? ⟨b, 0, none⟩ = some (.int .i64 p.rows) := h.has.cell 0
 have f1 : w.cell? ⟨b, 1, none⟩ = some (.int .i64 p.cols) := h.has.cell 1
 have f2 : w.cell? ⟨b, 2, none⟩ = some (.int .i64 p.front) := h.has.cell 2
 have f3 : w.cell? ⟨b, 3, none⟩ = some (.int .i64 p.l0) := h.has.cell 3
 have f4 : w.cell? ⟨b, 4, none⟩ = some (.int .i64 p.l1) := h.has.cell 4
 have f5 : w.cell? ⟨b, 5, none⟩ = some (.int .i64 p.l2) := h.has.cell 5
 have f6 : w.cell? ⟨b, 6, none⟩ = some (.int .i64 p.l3) := h.has.cell 6
 have f24 : w.cell? ⟨b, 24, none⟩ = some (.int .i64 p.ep) := h.has.cell 24
 rw [h1] at f24
 clear h h1
 go_enter Try.func73, Try.ntmps73
 go_wp2_with fail
 go_ret
 exact ⟨rfl, Mod.refl _ _⟩
theorem fwhole_many {w : World} {b m clock : Nat} {p : Pla} {l : List Sea} {es : List MEnt} (h : FlX w b p l m es clock) (hwf : Wf p l) (h1 : p.ep ≠ 1) :
  Calls Try.prog 73 #[.pointer (some ⟨b, 0, none⟩)] w fun e w' => ∃ a c, e = .returned (.iface 177 (.agg (wholeL p (.slice a (fullS l).length c)).toArray)) ∧
   w'.ownsRow 0 180 6 (.slice a (fullS l).length c) (fullS l).length ((fullS l).flatMap fillL) ∧ (∀ j, (Value.slice a (fullS l).length c).ownBlock = some j → w.heap.size ≤ j) ∧ Mod No w w' := by
 have hlt := h.has.lt
 have f0 : w.cell? ⟨b, 0, none⟩ = some (.int .i64 p.rows) := h.has.cell 0
 have f1 : w.cell? ⟨b, 1, none⟩ = some (.int .i64 p.cols) := h.has.cell 1
 have f2 : w.cell? ⟨b, 2, none⟩ = some (.int .i64 p.front) := h.has.cell 2
 have f3 : w.cell? ⟨b, 3, none⟩ = some (.int .i64 p.l0) := h.has.cell 3
 have f4 : w.cell? ⟨b, 4, none⟩ = some (.int .i64 p.l1) := h.has.cell 4
 have f5 : w.cell? ⟨b, 5, none⟩ = some (.int .i64 p.l2) := h.has.cell 5
 have f6 : w.cell? ⟨b, 6, none⟩ = some (.int .i64 p.l3) := h.has.cell 6
 have f24 : w.cell? ⟨b, 24, none⟩ = some (.int .i64 p.ep) := h.has.cell 24
 have he : (p.ep == 1) = false := by simpa using h1
 have hml := (Array.getElem?_eq_some_iff.1 h.map).1
 have hB := hwf.bounds
 simp only at hB
 have hlen := hwf.len
 simp only at hlen
 have hl120 : l.length ≤ 120 := Fli.wf.len_le hwf
 have hwz : IntKind.i64.wrap (p.rows * p.cols) = p.rows * p.cols := wrap_id _ (by omega) (by omega)
 have HS := hide fun W (hW : Mod No w W) => size_walk b _ _ p.rows p.cols W (hW.has h.has (fun x => x)) rfl rfl hwz
 rw [← hlen] at HS
 obtain ⟨C, hC⟩ : ∃ C : Nat, p.cols = (C : Int) := ⟨p.cols.toNat, by omega⟩
 have HP := hide fun W (hW : Mod No w W) (i : Nat) (hi : i < l.length) => (show Calls Try.prog 68 #[.pointer (some ⟨b, 0, none⟩), .int .i64 (i : Int)] W fun e w' => e = .returned (.agg #[.int .i64 l[i].row, .int .i64 l[i].col]) ∧ Mod No W w' from by
  have := placeAt_walk b _ _ C i W (hW.has h.has (fun x => x)) (by rw [← hC]; rfl) (by omega) (by omega)
  have hp := hwf.place i hi
  simp only at hp
  rw [hp.1, hp.2, hC]
  exact this)
 have HSEE := hide fun (i : Nat) (hi : i < l.length) => sees2 h.map h.ok h.rel hwf i hi
 have S0 : FwI w (w.alloc (.cells #[.int .i64 p.rows, .int .i64 p.cols, .int .i64 p.front, .int .i64 p.l0, .int .i64 p.l1, .int .i64 p.l2, .int .i64 p.l3, .slice none 0 0, .int .i64 p.ep] 177)).drew b m clock w.heap.size p l es (.slice none 0 0) 0 := by
  have mA : Mod No w (w.alloc (.cells #[.int .i64 p.rows, .int .i64 p.cols, .int .i64 p.front, .int .i64 p.l0, .int .i64 p.l1, .int .i64 p.l2, .int .i64 p.l3, .slice none 0 0, .int .i64 p.ep] 177)).drew := ((Mod.refl _ w).alloc _).drew
  refine ⟨⟨mA.has h.has (fun x => x), mA.map h.map (fun x => x), h.ok, h.rel⟩, (Has.new w _ _).drew, ?_, fun k hk => by simp [Value.ownBlock] at hk, mA, Nat.le_refl _⟩
  simpa [fullS] using World.ownsRow_nil _ _ _ _
 have S0 := hide S0
 have HPUT := hide fun (wr w6 : World) (v v' : Value) (i : Nat) (hS : FwI w wr b m clock w.heap.size p l es v i) (hi : i < l.length) (h0 : l[i].st ≠ 0) => FwI.put (w6 := w6) (v' := v') hS hi h0 ⟨hlt, hml⟩
 obtain ⟨iF, q0, q1, q2, q3⟩ := info_parts infoFill
 clear h hwf hB hC h1 hwz hlen
 go_enter Try.func73, Try.ntmps73
 go_wp2_with fail
 go_region
 go_wp2_with fail
 refine ((unhide HS) _ (unhide S0).mod).mono ?_
 rintro e w1 ⟨rfl, m1⟩
 have S1 := hide ((unhide S0).still m1)
 clear S0 m1 HS f0 f1 f2 f3 f4 f5 f6 f24
 have HLEN := hide hl120
 go_wp2_with fail
 go_loopw [30] (fun s wr => ∃ (i : Nat) (a : Option Addr) (cp : Nat), s = .int .i64 (i : Int) ∧ i ≤ l.length ∧ Hid (FwI w wr b m clock w.heap.size p l es (.slice a (fullS (l.take i)).length cp) i)) (fun s _ => l.length - (intOf s).toNat)
 case atStart => exact ⟨0, none, 0, rfl, by omega, S1⟩
 case round =>
  obtain ⟨i, a, cp, rfl, hi, E1⟩ := hrel
  clear S1
  by_cases h1 : i < l.length
  ·have h1i : (i : Int) < (l.length : Int) := by omega
   have hw3 : IntKind.i64.wrap ((i : Int) + 1) = ((i + 1 : Nat) : Int) := by rw [wrap_id _ (by omega) (by omega)]; rfl
   have GP := hide ((unhide HP) _ (unhide E1).mod i h1)
   have GS := hide ((unhide HSEE) i h1)
   have GA := hide fun W (hW : Mod No wr W) (w6 : World) v' => (unhide HPUT) W w6 _ v' i ((unhide E1).still hW) h1
   have GF := hide fun W (hW : Mod No wr W) (h0 : l[i].st = 0) => ((unhide E1).still hW).free h1 h0
   have hml2 : (fullS (l.take i)).length ≤ 120 := by
    have : (fullS (l.take i)).length ≤ (l.take i).length := List.length_filter_le _ _
    rw [List.length_take] at this
    omega
   have HTK := hide (fullS_take l i h1)
   generalize hs : l[i] = s at *
   obtain ⟨r, c, st, pa, cl, un⟩ := s
   simp only at GP GS GA GF HTK
   have HI := hide hi
   have HH1 := hide h1
   clear hs h1 hi hl120
   go_wp2_with fail
   refine (unhide GP).mono ?_
   rintro e w1 ⟨rfl, m1⟩
   have M1 := hide m1
   clear m1
   go_upto_region 8 with fail
   have mA := hide (((unhide M1).alloc (.cells #[.int .i64 r, .int .i64 c] 32)))
   have E2 := hide ((unhide E1).still (unhide mA))
   have nA := Has.new w1 #[.int .i64 r, .int .i64 c] 32
   have NA := hide nA
   generalize hwB : w1.alloc (.cells #[.int .i64 r, .int .i64 c] 32) = wB at *
   generalize hpb : w1.heap.size = pb at *
   clear hwB
   have bx : wB.cell? ⟨b, 7, none⟩ = some (.map (some m)) := (unhide E2).fl.has.cell 7
   have bl := (unhide E2).fl.has.lt
   have p0 : wB.cell? ⟨pb, 0, none⟩ = some (.int .i64 r) := nA.cell 0
   have p1 : wB.cell? ⟨pb, 1, none⟩ = some (.int .i64 c) := nA.cell 1
   have pl := nA.lt
   have hlk := (unhide GS) wB.drew ((unhide E2).mod.drew)
   have hlk2 := (unhide GS) (wB.alloc (.cells #[.int .i64 0, .int .i64 0, .int .i64 0, .int .i64 0] 170)).drew (((unhide E2).mod.alloc _).drew)
   clear nA
   go_region
   all_goals
    have mC := hide (((unhide mA).alloc (.cells #[.int .i64 st, .int .i64 pa, .int .i64 cl, .int .i64 un] 170)).drew)
    have E3 := hide ((unhide E1).still (unhide mC))
    have nP := ((unhide NA).alloc (.cells #[.int .i64 st, .int .i64 pa, .int .i64 cl, .int .i64 un] 170)).drew
    have nS := (Has.new wB #[.int .i64 st, .int .i64 pa, .int .i64 cl, .int .i64 un] 170).drew
    clear hlk hlk2 bx bl p0 p1 pl E2 mA NA
    generalize hwC : (wB.alloc (.cells #[.int .i64 st, .int .i64 pa, .int .i64 cl, .int .i64 un] 170)).drew = wC at *
    generalize hsb : wB.heap.size = sb at *
    clear hwC hsb
    have p0 : wC.cell? ⟨pb, 0, none⟩ = some (.int .i64 r) := nP.cell 0
    have p1 : wC.cell? ⟨pb, 1, none⟩ = some (.int .i64 c) := nP.cell 1
    have pl := nP.lt
    have s0 : wC.cell? ⟨sb, 0, none⟩ = some (.int .i64 st) := nS.cell 0
    have s1 : wC.cell? ⟨sb, 1, none⟩ = some (.int .i64 pa) := nS.cell 1
    have s2 : wC.cell? ⟨sb, 2, none⟩ = some (.int .i64 cl) := nS.cell 2
    have s3 : wC.cell? ⟨sb, 3, none⟩ = some (.int .i64 un) := nS.cell 3
    have sl := nS.lt
    have c7 : wC.cell? ⟨w.heap.size, 7, none⟩ = some (.slice a (fullS (l.take i)).length cp) := (unhide E3).box.cell 7
    have cf := (unhide E3).box.frozen
    have clt := (unhide E3).box.lt
    clear nP nS
    by_cases h0 : st = 0
    ·have HZ := hide h0
     subst h0
     have e9 := (unhide GF) _ (unhide mC) rfl
     have ht := unhide HTK
     rw [if_neg (by simp), List.append_nil] at ht
     rw [← ht] at e9
     have E9 := hide e9
     have HT2 := hide (congrArg List.length ht)
     clear e9 ht HTK
     go_wp2_with fail
     exact ⟨⟨i + 1, a, cp, rfl, by have := unhide HH1; omega, by rw [unhide HT2]; rw [unhide HT2] at E9; exact E9⟩, by simp [intOf]; have := unhide HH1; omega⟩
    ·have HZ := hide h0
     have hnz : (st != 0) = true := by simp [h0]
     have HO := hide (((Mod.refl No wC).alloc (.cells #[.int .i64 r, .int .i64 c, .int .i64 st, .int .i64 pa, .int .i64 cl, .int .i64 un] 180)).owns (unhide E3).row (fun _ _ x => x))
     have HRD := hide (reads_fill wC ⟨r, c, st, pa, cl, un⟩)
     have HCB := hide (((Mod.refl No wC).alloc (.cells #[.int .i64 r, .int .i64 c, .int .i64 st, .int .i64 pa, .int .i64 cl, .int .i64 un] 180)).has (unhide E3).box (fun x => x))
     have NCB := hide (show Option.some w.heap.size ≠ (Value.slice a (fullS (l.take i)).length cp).ownBlock from fun e => ((unhide E3).new _ e.symm).2 rfl)
     have HT2 := hide (show (fullS (l.take (i + 1))).length = (fullS (l.take i)).length + 1 by
      rw [unhide HTK, if_pos h0]
      simp)
     unfold fillL at HRD
     simp only at HRD
     clear h0 HTK
     go_wp2_with (first | (at_builtin; refine wpList_append_row rfl (.tmp 47) (.tmp 51) 175 rfl 180 iF _ 6 48 Try.underlying175 q0 q1 q2 q3 rfl (by decide) (.slice a (fullS (l.take i)).length cp) (fullS (l.take i)).length _ (by simp [Act.eval]) (by exact unhide HO) (.slice (some ⟨wC.heap.size, 0, none⟩) 1 1) 1 [.int .i64 r, .int .i64 c, .int .i64 st, .int .i64 pa, .int .i64 cl, .int .i64 un] (by simp [Act.eval]) (by exact unhide HRD) rfl (by intro u hu; simp at hu; rcases hu with rfl | rfl | rfl | rfl | rfl | rfl <;> rfl) (by unfold maxLen; omega) (by omega) ?_; intro v' w3 ho3 hg3 hs3; obtain ⟨a3, c3, rfl⟩ := slice_of_owns ho3; have X3 := hide (Has.grown (unhide HCB) hg3 (unhide NCB)); have c73 : w3.cell? ⟨w.heap.size, 7, none⟩ = some (.slice a (fullS (l.take i)).length cp) := (unhide X3).cell 7; have cf3 := (unhide X3).frozen; have cl3 := (unhide X3).lt))
     have e9 := (unhide GA) wC (unhide mC) w3 _ (unhide HZ) _ ho3 hg3 hs3
     have E9 := hide e9
     exact ⟨⟨i + 1, a3, c3, rfl, by have := unhide HH1; omega, by rw [unhide HT2]; exact E9⟩, by simp [intOf]; have := unhide HH1; omega⟩
  ·have hii : i = l.length := by omega
   subst hii
   have h1i : ¬ ((l.length : Nat) : Int) < (l.length : Int) := by omega
   have c0 : wr.cell? ⟨w.heap.size, 0, none⟩ = some (.int .i64 p.rows) := (unhide E1).box.cell 0
   have c1 : wr.cell? ⟨w.heap.size, 1, none⟩ = some (.int .i64 p.cols) := (unhide E1).box.cell 1
   have c2 : wr.cell? ⟨w.heap.size, 2, none⟩ = some (.int .i64 p.front) := (unhide E1).box.cell 2
   have c3 : wr.cell? ⟨w.heap.size, 3, none⟩ = some (.int .i64 p.l0) := (unhide E1).box.cell 3
   have c4 : wr.cell? ⟨w.heap.size, 4, none⟩ = some (.int .i64 p.l1) := (unhide E1).box.cell 4
   have c5 : wr.cell? ⟨w.heap.size, 5, none⟩ = some (.int .i64 p.l2) := (unhide E1).box.cell 5
   have c6 : wr.cell? ⟨w.heap.size, 6, none⟩ = some (.int .i64 p.l3) := (unhide E1).box.cell 6
   have c7 : wr.cell? ⟨w.heap.size, 7, none⟩ = some (.slice a (fullS (l.take l.length)).length cp) := (unhide E1).box.cell 7
   have c8 : wr.cell? ⟨w.heap.size, 8, none⟩ = some (.int .i64 p.ep) := (unhide E1).box.cell 8
   have clt := (unhide E1).box.lt
   go_wp2_with fail
   go_ret
   have hE := unhide E1
   rw [List.take_length] at hE
   exact ⟨a, cp, rfl, by have := hE.row; rw [List.take_length] at this; exact this, fun j hj => (hE.new j hj).1, hE.mod⟩
theorem fwhole_any {w : World} {b m clock : Nat} {p : Pla} {l : List Sea} {es : List MEnt} (h : FlX w b p l m es clock) (hwf : Wf p l) (n : Nat) :
  Calls Try.prog 73 #[.pointer (some ⟨b, 0, none⟩)] w fun e w' => ∃ v, e = .returned v ∧ EntV w' w.heap.size v (flE n (p, l)) ∧ Mod No w w' := by
 by_cases h1 : p.ep = 1
 ·refine (fwhole_one h h1).mono ?_
  rintro e w' ⟨rfl, hm⟩
  refine ⟨_, rfl, ?_, hm⟩
  unfold EntV
  have hk : (flE n (p, l)).kind = 1 := by unfold flE; simp [h1]
  rw [if_neg (by omega)]
  unfold chV
  rw [if_pos hk]
  rfl
 ·refine (fwhole_many h hwf h1).mono ?_
  rintro e w' ⟨a, c, rfl, h2, h3, h4⟩
  refine ⟨_, rfl, ?_, h4⟩
  unfold EntV
  have hk : (flE n (p, l)).kind = 7 := by unfold flE; simp [h1]
  rw [if_pos hk]
  exact ⟨a, c, rfl, h2, h3⟩
def esTo (now : Int) (fl : Fls) (k : Nat) : List Ent :=
 (if 0 < now then [⟨0, 6, ⟨0, 0, 0, 0, 0, 0, 0, 0⟩, noSea, 0, 0, now, []⟩] else []) ++ (List.range k).filterMap fun n => (fl n).map (flE n)
theorem esTo_all (now : Int) (fl : Fls) : esTo now fl 21 = wholeEs now fl := rfl
theorem esTo_none {now : Int} {fl : Fls} {k : Nat} (h : fl k = none) : esTo now fl (k + 1) = esTo now fl k := by
 unfold esTo
 rw [List.range_succ, List.filterMap_append]
 simp [h]
theorem esTo_some {now : Int} {fl : Fls} {k : Nat} {x : Pla × List Sea} (h : fl k = some x) : esTo now fl (k + 1) = esTo now fl k ++ [flE k x] := by
 unfold esTo
 rw [List.range_succ, List.filterMap_append]
 simp [h]
theorem esTo_len (now : Int) (fl : Fls) (k : Nat) : (esTo now fl k).length ≤ k + 1 := by
 unfold esTo
 have h := List.length_filterMap_le (fun n => (fl n).map (flE n)) (List.range k)
 rw [List.length_range] at h
 rw [List.length_append]
 split
 ·simp; omega
 ·simp; omega
theorem esTo_len0 {now : Int} {fl : Fls} (h0 : fl 0 = none) (k : Nat) (hk : 1 ≤ k) : (esTo now fl k).length ≤ k := by
 induction k with
 | zero => omega
 | succ k ih =>
  by_cases h1 : k = 0
  ·subst h1
   rw [esTo_none h0]
   exact esTo_len now fl 0
  ·cases hx : fl k with
   | none => rw [esTo_none hx]; have := ih (by omega); omega
   | some x => rw [esTo_some hx, List.length_append]; have := ih (by omega); simp; omega
structure KwI (w wr : World) (v : Value) (L : List (Int × Value)) (es : List Ent) : Prop where
 row : RowEn wr w.heap.size v L
 ents : EntsL wr w.heap.size L es
 mod : Mod No w wr
theorem KwI.still {w wr wx : World} {v : Value} {L : List (Int × Value)} {es : List Ent} (h : KwI w wr v L es) (hm : Mod No wr wx) : KwI w wx v L es :=
 ⟨h.row.mod hm (fun _ _ x => x), h.ents.mod hm (fun _ _ x => x), h.mod.trans hm⟩
theorem KwI.next {w wr w6 : World} {v v' : Value} {L : List (Int × Value)} {es : List Ent} (h : KwI w wr v L es) {e : Ent} {f : Int} {t : TypeId} {u : Value} (hf : f = e.fl) (hv : EntV wr w.heap.size (.iface t u) e) (o : Obj)
  (ho : w6.ownsRow 0 124 2 v' (L.length + 1) ((L.flatMap entL) ++ [.int .i64 f, .iface t u])) (hg : (wr.alloc o).grownBy w6 v.ownBlock) (hs : Stays (wr.alloc o) v v') : KwI w w6 v' (L ++ [(f, .iface t u)]) (es ++ [e]) := by
 obtain ⟨h1, h2, h3⟩ := h
 have hw := h3.size
 have m6 : Mod (fun j => v.ownBlock = some j) wr w6 := ((Mod.refl _ wr).alloc o).grown hg (fun j hj => .inl hj)
 refine ⟨⟨?_, fun j hj => ?_, fun x hx => ?_⟩, ?_, h3.trans' m6 (fun j hj hl => by have := h1.own j hj; omega)⟩
 ·have e : (L ++ [(f, Value.iface t u)]).flatMap entL = L.flatMap entL ++ [.int .i64 f, .iface t u] := by rw [List.flatMap_append]; simp [entL]
  rw [e, List.length_append]
  exact ho
 ·rcases hs j hj with q | q
  ·exact h1.own j q
  ·rw [World.size_alloc] at q
   omega
 ·rcases List.mem_append.1 hx with q | q
  ·exact h1.one x q
  ·simp at q
   subst q
   rfl
 ·exact EntsL.append (L' := [(f, .iface t u)]) (es' := [e]) ⟨⟨hf, hv.app h1.row (by exact m6)⟩, trivial⟩ (EntsL.app h1.row m6 h2)
theorem reads_two (w : World) (f : Int) (t : TypeId) (u : Value) : Reads (w.alloc (.cells #[.int .i64 f, .iface t u] 124)) (.slice (some ⟨w.heap.size, 0, none⟩) 1 1) 1 [.int .i64 f, .iface t u] := reads_ent w (f, .iface t u)
theorem kwhole_any {w : World} {ow : Nat → Nat} {kb : Nat} {now : Int} {pt : Nat → Option Nat} {fl : Fls} (h : KeepX w ow kb now pt fl) (h0 : fl 0 = none) (hf : EsFit 0 (wholeEs now fl)) :
  Calls Try.prog 56 #[.pointer (some ⟨kb, 0, none⟩)] w fun e w' => ∃ v, e = .returned v ∧ Recorded w w' v (wholeK now fl) := by
 have hlt := h.has.lt
 have c0 : w.cell? ⟨kb, 0, none⟩ = some (.int .i64 now) := h.has.cell 0
 have H := hide h
 have HF := hide hf
 have HZ := hide h0
 obtain ⟨iE, q0, q1, q2, q3⟩ := info_parts infoEnt
 clear h hf h0
 go_enter Try.func56, Try.ntmps56
 go_upto_if 10 with fail
 go_cut [3] from 10 to 20 (fun s wx => ∃ v L, s = v ∧ Hid (KwI w wx v L (esTo now fl 0)))
 case first =>
  by_cases hn : 0 < now
  ·have hn1 : now > 0 := hn
   have hES := hide (show esTo now fl 0 = [] ++ [⟨0, 6, ⟨0, 0, 0, 0, 0, 0, 0, 0⟩, noSea, 0, 0, now, []⟩] by unfold esTo; rw [if_pos hn]; rfl)
   have I0 : KwI w w (.slice none 0 0) [] [] := ⟨⟨World.ownsRow_nil _ _ _ _, fun j hj => by simp [Value.ownBlock] at hj, fun x hx => by simp at hx⟩, trivial, Mod.refl _ _⟩
   have HO := hide (((Mod.refl No w).alloc (.cells #[.int .i64 0, .iface 144 (.agg #[.int .i64 now])] 124)).owns I0.row.row (fun _ _ x => x))
   have HR := hide (reads_two w 0 144 (.agg #[.int .i64 now]))
   have NX := hide (fun (w6 : World) (v' : Value) => KwI.next (w6 := w6) (v' := v') I0 (e := ⟨0, 6, ⟨0, 0, 0, 0, 0, 0, 0, 0⟩, noSea, 0, 0, now, []⟩) (f := 0) (t := 144) (u := .agg #[.int .i64 now]) rfl rfl)
   clear I0
   go_wp2_with (first | (at_builtin; refine wpList_append_row rfl (.tmp 11) (.tmp 19) 131 rfl 124 iE _ 2 24 Try.underlying131 q0 q1 q2 q3 rfl (by decide) (.slice none 0 0) 0 [] (by simp [Act.eval]) (by exact unhide HO) (.slice (some ⟨w.heap.size, 0, none⟩) 1 1) 1 [.int .i64 0, .iface 144 (.agg #[.int .i64 now])] (by simp [Act.eval]) (by exact unhide HR) rfl (by intro u hu; simp at hu; rcases hu with rfl | rfl <;> rfl) (by unfold maxLen; omega) (by omega) ?_; intro v' w3 ho3 hg3 hs3; obtain ⟨a3, c3, rfl⟩ := slice_of_owns ho3))
   go_meet
   exact ⟨_, _, rfl, by rw [unhide hES]; exact (unhide NX) _ _ _ ho3 hg3 hs3⟩
  ·have hn1 : ¬ now > 0 := hn
   have hES := hide (show esTo now fl 0 = [] by unfold esTo; rw [if_neg hn]; rfl)
   go_wp2_with fail
   go_meet
   exact ⟨_, [], rfl, by rw [unhide hES]; exact ⟨⟨World.ownsRow_nil _ _ _ _, fun j hj => by simp [Value.ownBlock] at hj, fun x hx => by simp at hx⟩, trivial, Mod.refl _ _⟩⟩
 case rest =>
  obtain ⟨v0, L0, rfl, I0⟩ := hcut
  have hr := keep_range ((unhide I0).mod.has (unhide H).has (fun x => x))
  go_wp2_with (refine wpList_load_mid rfl 109 _ rfl kb 1 rfl (ptrs pt) (.array 21 105) hr under90 rfl size90 ?_)
  go_loopw [3, 25] (fun s s25 wr => ∃ (k : Nat) (v : Value) (L : List (Int × Value)), s = v ∧ s25 = .int .i64 k ∧ k ≤ 21 ∧ Hid (KwI w wr v L (esTo now fl k))) (fun _ s _ => 21 - (intOf s).toNat)
  case atStart => exact ⟨0, _, _, rfl, rfl, by omega, I0⟩
  case round =>
   obtain ⟨k, v, L, rfl, rfl, hk, I1⟩ := hrel
   clear I0 hr
   have hLe : L.length = (esTo now fl k).length := (unhide I1).ents.len
   have hLl := esTo_len now fl k
   obtain ⟨a, c, rfl⟩ := slice_of_owns (unhide I1).row.row
   by_cases h21 : k < 21
   ·have hki : (k : Int) < 21 := by omega
    have hk0 : IntKind.i64.wrap ((k : Int) + 1) = ((k + 1 : Nat) : Int) := by rw [wrap_id _ (by omega) (by omega)]; rfl
    have hix := idx90 pt k h21 wr
    cases hfl : fl k with
    | none =>
     have hp := (unhide H).gone k h21 hfl
     rw [hp] at hix
     rw [show pv none = .pointer none from rfl] at hix
     have I2 := hide (show KwI w wr (.slice a L.length c) L (esTo now fl (k + 1)) by rw [esTo_none hfl]; exact unhide I1)
     clear hfl hp I1
     go_wp2_with fail
     exact ⟨⟨k + 1, _, L, rfl, rfl, by omega, I2⟩, by simp [intOf]; omega⟩
    | some x =>
     obtain ⟨p, l⟩ := x
     obtain ⟨b, hp, hw, hf⟩ := (unhide H).here k p l h21 hfl
     rw [hp] at hix
     rw [show pv (some b) = .pointer (some ⟨b, 0, none⟩) from rfl] at hix
     obtain ⟨m, es, clock, f1, f2, f3, f4, f5, f6⟩ := hf.mod0 (unhide I1).mod
     have HW := hide (fwhole_any ⟨f1, f2, f3, f4⟩ hw k)
     have HE := hide (esTo_some (now := now) hfl)
     clear hfl hp hw hf f1 f2 f3 f4 f5 f6
     go_wp2_with fail
     refine (unhide HW).mono ?_
     rintro e w5 ⟨u, rfl, hv, m5⟩
     obtain ⟨ut, uv, rfl⟩ := hv.iface
     have I5 := hide ((unhide I1).still m5)
     have HO := hide (((Mod.refl No w5).alloc (.cells #[.int .i64 k, .iface ut uv] 124)).owns (unhide I5).row.row (fun _ _ x => x))
     have HR := hide (reads_two w5 k ut uv)
     have NX := hide (fun (w6 : World) (v' : Value) => KwI.next (w6 := w6) (v' := v') (unhide I5) (e := flE k (p, l)) (f := k) (t := ut) (u := uv) rfl (hv.low (unhide I1).mod.size))
     have hml : L.length ≤ 22 := by omega
     clear hv m5 HW hLe hLl
     go_wp2_with (first | (at_builtin; refine wpList_append_row rfl (.tmp 31) (.tmp 36) 131 rfl 124 iE _ 2 24 Try.underlying131 q0 q1 q2 q3 rfl (by decide) (.slice a L.length c) L.length _ (by simp [Act.eval]) (by exact unhide HO) (.slice (some ⟨w5.heap.size, 0, none⟩) 1 1) 1 [.int .i64 k, .iface ut uv] (by simp [Act.eval]) (by exact unhide HR) rfl (by intro u hu; simp at hu; rcases hu with rfl | rfl <;> rfl) (by unfold maxLen; omega) (by omega) ?_; intro v' w6 ho6 hg6 hs6; obtain ⟨a6, c6, rfl⟩ := slice_of_owns ho6))
     have I6 := hide ((unhide NX) _ _ _ ho6 hg6 hs6)
     exact ⟨⟨k + 1, _, _, rfl, rfl, by omega, by rw [unhide HE]; exact I6⟩, by simp [intOf]; omega⟩
   ·have hki : ¬ (k : Int) < 21 := by omega
    obtain rfl : k = 21 := by omega
    rw [esTo_all] at I1 hLe
    by_cases hL : L.length = 0
    ·have hz : (L.length : Int) = 0 := by omega
     have hn : wholeEs now fl = [] := List.eq_nil_of_length_eq_zero (by omega)
     have HWK := hide (show wholeK now fl = [] by unfold wholeK; rw [if_pos hn])
     clear hLl hLe hn
     go_wp2_with fail
     go_ret
     exact ⟨_, rfl, by rw [unhide HWK]; exact ⟨World.ownsRow_nil _ _ _ _, fun k hk => by simp [Value.ownBlock] at hk, (unhide I1).mod⟩⟩
    ·have hLn : L ≠ [] := fun e => hL (by rw [e]; rfl)
     have hz : ((L.length : Int) == 0) = false := by simpa using hLn
     have hn : wholeEs now fl ≠ [] := fun e => hL (by rw [hLe, e]; rfl)
     obtain ⟨b, rfl⟩ : ∃ b, a = some ⟨b, 0, none⟩ := by
      rcases (unhide I1).row.row.2 with ⟨_, h2⟩ | ⟨g, cp, cur, hv, _⟩
      ·omega
      ·injection hv with e1 _ _
       exact ⟨g, e1⟩
     have h20 := esTo_len0 (now := now) (unhide HZ) 21 (by omega)
     rw [esTo_all] at h20
     have HRC := hide (record_ents (unhide I1).row (unhide I1).ents (unhide HF) ⟨by rw [← hLe]; omega, h20⟩)
     have HWK := hide (show wholeK now fl = recB 0 (wholeEs now fl) by unfold wholeK; rw [if_neg hn])
     clear hLl hLe hn h20
     go_wp2_with fail
     refine (unhide HRC).mono ?_
     rintro e w5 ⟨v, rfl, r5⟩
     have R5 := hide r5
     clear r5 HRC
     go_wp2_with fail
     go_ret
     exact ⟨_, rfl, by
      rw [unhide HWK]
      have r5 := unhide R5
      exact ⟨r5.row, fun k hk => Nat.le_trans (unhide I1).mod.size (r5.new k hk), (unhide I1).mod.trans r5.mod⟩⟩
end Go.Proofs.Ythhibagcpjeihaa
