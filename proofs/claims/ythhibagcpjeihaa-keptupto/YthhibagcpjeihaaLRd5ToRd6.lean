import Derived.Test.YthhibagcpjeihaaLRd1ToRd4
import Derived.Deep.CutRange
import Derived.Deep.CutBlock
namespace Go.Proofs.Ythhibagcpjeihaa
open Go.RowKit
open M
set_option linter.unusedVariables false
set_option linter.unusedSimpArgs false
set_option maxRecDepth 100000
set_option maxHeartbeats 4000000
def fillP (now : Int) (l : List Int) : Option (Sea × List Int) := bindP (placeP l) fun p r => bindP (numP r 0 0) fun n r => bindP (if n.tdiv 4 = 3 then some (0, r) else numP r 0 0) fun pa r => bindP (if n.tdiv 4 = 1 then numP r 0 0 else some (0, r)) fun u r => some (⟨p.1, p.2, n.tdiv 4, pa, n.tmod 4, if n.tdiv 4 = 1 then wrap64 (now + u) else 0⟩, r)
def fillL (s : Sea) : List Value := [.int .i64 s.row, .int .i64 s.col, .int .i64 s.st, .int .i64 s.pa, .int .i64 s.cl, .int .i64 s.un]
def FitS (s : Sea) : Prop := (Fit s.row ∧ Fit s.col) ∧ Fit s.st ∧ Fit s.pa ∧ Fit s.cl ∧ Fit s.un
def RdQ {α : Type} (w' : World) (rb gb : Nat) (o : Option (α × List Int)) (now : Int) (torn : Bool) (f : α → Prop) : Prop := match o with
 | some (x, r) => f x ∧ RdX w' rb gb r now torn
 | none => ∃ r, RdX w' rb gb r now true
theorem RdQ.torn {α : Type} {w' : World} {rb gb : Nat} {o : Option (α × List Int)} {now : Int} {f : α → Prop} (h : RdQ w' rb gb o now true f) : ∃ r, RdX w' rb gb r now true := by
 rcases o with _ | ⟨x, r⟩
 ·exact h
 ·exact ⟨r, h.2⟩
theorem RdQ.bind {α β : Type} {w1 : World} {rb gb : Nat} {p : Option (α × List Int)} {n : α} {now : Int} {torn : Bool} (h : RdQ w1 rb gb p now torn (fun x => x = n)) : ∃ l1 t1, RdX w1 rb gb l1 now t1 ∧ ∀ (q : α → List Int → Option (β × List Int)) (w2 : World) (g : β → Prop), RdQ w2 rb gb (q n l1) now t1 g → RdQ w2 rb gb (bindP p q) now torn g := by
 rcases p with _ | ⟨x, r⟩
 ·obtain ⟨r, h⟩ := h
  exact ⟨r, true, h, fun q w2 g h2 => h2.torn⟩
 ·obtain ⟨rfl, h⟩ := h
  exact ⟨r, torn, h, fun q w2 g h2 => h2⟩
theorem fit0 : Fit 0 := by decide
theorem fit3 : Fit 3 := by decide
theorem fit4 {n : Int} (h : Fit n) : Fit (n.tdiv 4) ∧ Fit (n.tmod 4) := by
 rcases Int.le_total 0 n with h0 | h0
 ·rw [Int.tdiv_eq_ediv_of_nonneg h0, Int.tmod_eq_emod_of_nonneg h0]
  omega
 ·obtain ⟨m, rfl⟩ : ∃ m, n = -m := ⟨-n, by omega⟩
  rw [Int.neg_tdiv, Int.neg_tmod, Int.tdiv_eq_ediv_of_nonneg (by omega), Int.tmod_eq_emod_of_nonneg (by omega)]
  omega
theorem RdX.ne_box {w : World} {rb gb : Nat} {l : List Int} {now : Int} {torn : Bool} (h : RdX w rb gb l now torn) : rb < w.heap.size := by
 obtain ⟨a, c, q, _⟩ := h.has
 exact q.lt
structure FillU (w W wx : World) (rb gb b sb : Nat) (r c pa cl now : Int) (l3 : List Int) (t3 : Bool) (u : Int) : Prop where
 box : Has wx b #[.int .i64 r, .int .i64 c, .int .i64 1, .int .i64 pa, .int .i64 cl, .int .i64 (wrap64 (now + u))] 180
 res : Has wx sb #[.int .i64 0, .int .i64 0, .int .i64 0, .int .i64 0, .int .i64 0, .int .i64 0] 180
 mod : Mod (· = rb) w wx
 rd : ∃ l4 t4, RdX wx rb gb l4 now t4 ∧ ∀ (q : Int → List Int → Option (Sea × List Int)) (w2 : World) (g : Sea → Prop), RdQ w2 rb gb (q u l4) now t4 g → RdQ w2 rb gb (bindP (numP l3 0 0) q) now t3 g
theorem fillU {w W w6 : World} {rb gb b sb : Nat} {r c pa cl now u : Int} {l3 : List Int} {t3 : Bool} (h : RdR W w6 rb gb (numP l3 0 0) now t3 (fun x => x = u)) (hB : Has W b #[.int .i64 r, .int .i64 c, .int .i64 1, .int .i64 pa, .int .i64 cl, .int .i64 0] 180)
  (hR : Has W sb #[.int .i64 0, .int .i64 0, .int .i64 0, .int .i64 0, .int .i64 0, .int .i64 0] 180) (hM : Mod (· = rb) w W) (hne : b ≠ rb ∧ b ≠ gb ∧ sb ≠ rb ∧ sb ≠ b ∧ w.heap.size ≤ b) {x : Int} (hx : x = wrap64 (now + u)) :
  FillU w W (w6.setCell ⟨b, 5, none⟩ (.int .i64 x)) rb gb b sb r c pa cl now l3 t3 u := by
 subst hx
 obtain ⟨n1, n2, n3, n4, n5⟩ := hne
 have m : Mod (fun k => k = b) w6 (w6.setCell ⟨b, 5, none⟩ (.int .i64 (wrap64 (now + u)))) := (Mod.refl (fun k => k = b) w6).setCell (p := ⟨b, 5, none⟩) (.inl rfl) _
 obtain ⟨l4, t4, x4, k4⟩ := RdQ.bind (β := Sea) h.2
 exact ⟨(h.1.has hB n1).set 5 _, m.has (h.1.has hR n3) n4, (hM.trans h.1).trans' m (fun k hk hl => by omega), l4, t4, x4.mod m (fun e => n1 e.symm) (fun e => n2 e.symm), k4⟩
theorem fill_num {w W5 : World} {rb gb b sb : Nat} {r c pa cl now : Int} {l3 : List Int} {t3 : Bool} (hX : RdX W5 rb gb l3 now t3) (hB : Has W5 b #[.int .i64 r, .int .i64 c, .int .i64 1, .int .i64 pa, .int .i64 cl, .int .i64 0] 180)
  (hR : Has W5 sb #[.int .i64 0, .int .i64 0, .int .i64 0, .int .i64 0, .int .i64 0, .int .i64 0] 180) (hM : Mod (· = rb) w W5) (hne : b ≠ rb ∧ b ≠ gb ∧ sb ≠ rb ∧ sb ≠ b ∧ w.heap.size ≤ b) (W : World) (hW : Mod No W5 W) :
  Calls Try.prog 107 #[.pointer (some ⟨rb, 0, none⟩)] W fun e w6 => ∃ u, e = .returned (.int .i64 u) ∧ Fit u ∧ w6.cell? ⟨rb, 1, none⟩ = some (.int .i64 now) ∧ (w6.cell? ⟨b, 5, none⟩ = some (.int .i64 0) ∧ w6.frozen? ⟨b, 5, none⟩ = false ∧ b < w6.heap.size) ∧ Hid (∀ x, x = wrap64 (now + u) → FillU w W5 (w6.setCell ⟨b, 5, none⟩ (.int .i64 x)) rb gb b sb r c pa cl now l3 t3 u) := by
 refine (rnum_any (hX.mod hW (fun x => x) (fun x => x))).mono ?_
 rintro e w6 ⟨u, rfl, fu, hu⟩
 have hu5 := hu.beside hW
 obtain ⟨l4, t4, x4, _⟩ := RdQ.bind (β := Sea) hu5.2
 obtain ⟨_, _, q, _⟩ := x4.has
 have hB6 := hu5.1.has hB hne.1
 exact ⟨u, rfl, fu, q.cell 1, ⟨hB6.cell 5, hB6.frozen 5, hB6.lt⟩, fun x hx => fillU hu5 hB hR hM hne hx⟩
set_option maxHeartbeats 16000000 in
theorem fill_end {W : World} {sb : Nat} {r c st pa cl un : Int} (h : Has W sb #[.int .i64 0, .int .i64 0, .int .i64 0, .int .i64 0, .int .i64 0, .int .i64 0] 180) :
  Mod (fun k => k = sb) W ((((((W.setCell ⟨sb, 0, none⟩ (.int .i64 r)).setCell ⟨sb, 1, none⟩ (.int .i64 c)).setCell ⟨sb, 2, none⟩ (.int .i64 st)).setCell ⟨sb, 3, none⟩ (.int .i64 pa)).setCell ⟨sb, 4, none⟩ (.int .i64 cl)).setCell ⟨sb, 5, none⟩ (.int .i64 un)) ∧ ((((((W.setCell ⟨sb, 0, none⟩ (.int .i64 r)).setCell ⟨sb, 1, none⟩ (.int .i64 c)).setCell ⟨sb, 2, none⟩ (.int .i64 st)).setCell ⟨sb, 3, none⟩ (.int .i64 pa)).setCell ⟨sb, 4, none⟩ (.int .i64 cl)).setCell ⟨sb, 5, none⟩ (.int .i64 un)).cell? ⟨sb, 0, none⟩ = some (.int .i64 r) ∧ ((((((W.setCell ⟨sb, 0, none⟩ (.int .i64 r)).setCell ⟨sb, 1, none⟩ (.int .i64 c)).setCell ⟨sb, 2, none⟩ (.int .i64 st)).setCell ⟨sb, 3, none⟩ (.int .i64 pa)).setCell ⟨sb, 4, none⟩ (.int .i64 cl)).setCell ⟨sb, 5, none⟩ (.int .i64 un)).cell? ⟨sb, 1, none⟩ = some (.int .i64 c) ∧ ((((((W.setCell ⟨sb, 0, none⟩ (.int .i64 r)).setCell ⟨sb, 1, none⟩ (.int .i64 c)).setCell ⟨sb, 2, none⟩ (.int .i64 st)).setCell ⟨sb, 3, none⟩ (.int .i64 pa)).setCell ⟨sb, 4, none⟩ (.int .i64 cl)).setCell ⟨sb, 5, none⟩ (.int .i64 un)).cell? ⟨sb, 2, none⟩ = some (.int .i64 st) ∧ ((((((W.setCell ⟨sb, 0, none⟩ (.int .i64 r)).setCell ⟨sb, 1, none⟩ (.int .i64 c)).setCell ⟨sb, 2, none⟩ (.int .i64 st)).setCell ⟨sb, 3, none⟩ (.int .i64 pa)).setCell ⟨sb, 4, none⟩ (.int .i64 cl)).setCell ⟨sb, 5, none⟩ (.int .i64 un)).cell? ⟨sb, 3, none⟩ = some (.int .i64 pa) ∧ ((((((W.setCell ⟨sb, 0, none⟩ (.int .i64 r)).setCell ⟨sb, 1, none⟩ (.int .i64 c)).setCell ⟨sb, 2, none⟩ (.int .i64 st)).setCell ⟨sb, 3, none⟩ (.int .i64 pa)).setCell ⟨sb, 4, none⟩ (.int .i64 cl)).setCell ⟨sb, 5, none⟩ (.int .i64 un)).cell? ⟨sb, 4, none⟩ = some (.int .i64 cl) ∧ ((((((W.setCell ⟨sb, 0, none⟩ (.int .i64 r)).setCell ⟨sb, 1, none⟩ (.int .i64 c)).setCell ⟨sb, 2, none⟩ (.int .i64 st)).setCell ⟨sb, 3, none⟩ (.int .i64 pa)).setCell ⟨sb, 4, none⟩ (.int .i64 cl)).setCell ⟨sb, 5, none⟩ (.int .i64 un)).cell? ⟨sb, 5, none⟩ = some (.int .i64 un) := by
 have B := ((((((h.set 0 (.int .i64 r)).set 1 (.int .i64 c)).set 2 (.int .i64 st)).set 3 (.int .i64 pa)).set 4 (.int .i64 cl)).set 5 (.int .i64 un))
 refine ⟨?_, B.cell 0, B.cell 1, B.cell 2, B.cell 3, B.cell 4, B.cell 5⟩
 exact ((((((Mod.refl (fun k => k = sb) W).setCell (p := ⟨sb, 0, none⟩) (.inl rfl) _).setCell (p := ⟨sb, 1, none⟩) (.inl rfl) _).setCell (p := ⟨sb, 2, none⟩) (.inl rfl) _).setCell (p := ⟨sb, 3, none⟩) (.inl rfl) _).setCell (p := ⟨sb, 4, none⟩) (.inl rfl) _).setCell (p := ⟨sb, 5, none⟩) (.inl rfl) _
theorem rfill_any {w : World} {rb gb : Nat} {l : List Int} {now : Int} {torn : Bool} (h : RdX w rb gb l now torn) :
  Calls Try.prog 111 #[.pointer (some ⟨rb, 0, none⟩)] w fun e w' => ∃ s, e = .returned (.agg (fillL s).toArray) ∧ FitS s ∧ RdR w w' rb gb (fillP now l) now torn (fun x => x = s) := by
 have M0 : Mod No w (w.alloc (.cells #[.int .i64 0, .int .i64 0, .int .i64 0, .int .i64 0, .int .i64 0, .int .i64 0] 180)) := (Mod.refl _ _).alloc _
 have H := hide (h.alloc (.cells #[.int .i64 0, .int .i64 0, .int .i64 0, .int .i64 0, .int .i64 0, .int .i64 0] 180))
 have B0 := hide (Has.new w #[.int .i64 0, .int .i64 0, .int .i64 0, .int .i64 0, .int .i64 0, .int .i64 0] 180)
 have hne : w.heap.size ≠ rb := by have := h.ne_box; omega
 have hgb : w.heap.size ≠ gb := by have := h.lt; omega
 have M0 := hide M0
 have hgl := h.lt
 have hrl := h.ne_box
 clear h
 go_enter Try.func111, Try.ntmps111
 go_wp2_with fail
 refine (rplace_any (unhide H)).mono ?_
 rintro e w1 ⟨r, c, rfl, fa, ha⟩
 have B1 := hide (ha.1.has (unhide B0) hne)
 obtain ⟨l1, t1, x1, k1⟩ := RdQ.bind (β := Sea) ha.2
 have hs1 := ha.1.size
 rw [World.size_alloc] at hs1
 have MB : Mod No w1 (w1.alloc (.cells #[.int .i64 r, .int .i64 c, .int .i64 0, .int .i64 0, .int .i64 0, .int .i64 0] 180)) := (Mod.refl _ _).alloc _
 have X1 := hide (x1.alloc (.cells #[.int .i64 r, .int .i64 c, .int .i64 0, .int .i64 0, .int .i64 0, .int .i64 0] 180))
 have C0 := hide (Has.new w1 #[.int .i64 r, .int .i64 c, .int .i64 0, .int .i64 0, .int .i64 0, .int .i64 0] 180)
 have B2 := hide (MB.has (unhide B1) (fun x => x))
 have K1 := hide k1
 have MT1 := hide (((unhide M0).mono (S' := (· = rb)) fun _ _ x => x.elim).trans ha.1)
 have MB := hide MB
 have FA := hide fa
 clear ha x1 k1 fa H B0 B1
 go_wp2_with fail
 refine (rnum_any (unhide X1)).mono ?_
 rintro e w2 ⟨n, rfl, fn, hn⟩
 obtain ⟨l2, t2, x2, k2⟩ := RdQ.bind (β := Sea) hn.2
 have MT2 := hide ((unhide MT1).trans (((unhide MB).mono (S' := (· = rb)) fun _ _ x => x.elim).trans hn.1))
 have hs2 := hn.1.size
 rw [World.size_alloc] at hs2
 have b3ne : w1.heap.size ≠ rb := by omega
 have b3gb : w1.heap.size ≠ gb := by omega
 have C1 := hn.1.has (unhide C0) b3ne
 have B3 := hn.1.has (unhide B2) hne
 obtain ⟨st, hst⟩ : ∃ st, n.tdiv 4 = st := ⟨_, rfl⟩
 obtain ⟨cl, hcl⟩ : ∃ cl, n.tmod 4 = cl := ⟨_, rfl⟩
 have fst : Fit st ∧ Fit cl := by
  have f1 := fit4 fn
  rw [hst, hcl] at f1
  exact f1
 have m3 : Mod (fun k => k = w1.heap.size) w2 ((w2.setCell ⟨w1.heap.size, 2, none⟩ (.int .i64 st)).setCell ⟨w1.heap.size, 4, none⟩ (.int .i64 cl)) := ((Mod.refl (fun k => k = w1.heap.size) w2).setCell (p := ⟨w1.heap.size, 2, none⟩) (.inl rfl) _).setCell (p := ⟨w1.heap.size, 4, none⟩) (.inl rfl) _
 have C2 := (C1.set 2 (.int .i64 st)).set 4 (.int .i64 cl)
 have B4 := m3.has B3 (by omega)
 have X3 := x2.mod m3 (fun e => b3ne e.symm) (fun e => b3gb e.symm)
 have q2 : w2.cell? ⟨w1.heap.size, 2, none⟩ = some (.int .i64 0) := C1.cell 2
 have q4 : w2.cell? ⟨w1.heap.size, 4, none⟩ = some (.int .i64 0) := C1.cell 4
 have qz := C1.frozen
 have hlt2 := C1.lt
 have K2 := hide k2
 have M3 := hide m3
 have HC2 := hide C2
 have HB4 := hide B4
 have HX3 := hide X3
 have FN := hide fst
 clear hn x2 k2 fn X1 C0 B2 C1 B3 m3 C2 B4 X3
 have hw1 : w.heap.size < w1.heap.size := by omega
 have hw2 : w1.heap.size < w2.heap.size := by omega
 by_cases s3 : st = 3
 ·subst s3
  obtain ⟨d0, d1, d2, d3, d4, d5, d6⟩ := fill_end (r := r) (c := c) (st := 3) (pa := 0) (cl := cl) (un := 0) (unhide HB4)
  have MF := ((unhide MT2).trans' (unhide M3) (fun k hk hl => by omega)).trans' d0 (fun k hk hl => by omega)
  have QF : RdQ ((((((((w2.setCell ⟨w1.heap.size, 2, none⟩ (.int .i64 3)).setCell ⟨w1.heap.size, 4, none⟩ (.int .i64 cl)).setCell ⟨w.heap.size, 0, none⟩ (.int .i64 r)).setCell ⟨w.heap.size, 1, none⟩ (.int .i64 c)).setCell ⟨w.heap.size, 2, none⟩ (.int .i64 3)).setCell ⟨w.heap.size, 3, none⟩ (.int .i64 0)).setCell ⟨w.heap.size, 4, none⟩ (.int .i64 cl)).setCell ⟨w.heap.size, 5, none⟩ (.int .i64 0)) rb gb (fillP now l) now torn (fun x => x = ⟨r, c, 3, 0, cl, 0⟩) := by
   refine (unhide K1) _ _ _ ((unhide K2) _ _ _ ?_)
   rw [hst, hcl]
   show RdQ _ rb gb (some (_, l2)) now t2 _
   exact ⟨rfl, (unhide HX3).mod d0 (by omega) (by omega)⟩
  have FIN := hide (show RdR w _ rb gb (fillP now l) now torn (fun x => x = ⟨r, c, 3, 0, cl, 0⟩) from ⟨MF, QF⟩)
  have HD := hide (And.intro d1 (And.intro d2 (And.intro d3 (And.intro d4 (And.intro d5 d6)))))
  clear d0 d1 d2 d3 d4 d5 d6 MF QF
  have e0 : ((w2.setCell ⟨w1.heap.size, 2, none⟩ (.int .i64 3)).setCell ⟨w1.heap.size, 4, none⟩ (.int .i64 cl)).cell? ⟨w1.heap.size, 0, none⟩ = some (.int .i64 r) := (unhide HC2).cell 0
  have e1 : ((w2.setCell ⟨w1.heap.size, 2, none⟩ (.int .i64 3)).setCell ⟨w1.heap.size, 4, none⟩ (.int .i64 cl)).cell? ⟨w1.heap.size, 1, none⟩ = some (.int .i64 c) := (unhide HC2).cell 1
  have e2 : ((w2.setCell ⟨w1.heap.size, 2, none⟩ (.int .i64 3)).setCell ⟨w1.heap.size, 4, none⟩ (.int .i64 cl)).cell? ⟨w1.heap.size, 2, none⟩ = some (.int .i64 3) := (unhide HC2).cell 2
  have e3 : ((w2.setCell ⟨w1.heap.size, 2, none⟩ (.int .i64 3)).setCell ⟨w1.heap.size, 4, none⟩ (.int .i64 cl)).cell? ⟨w1.heap.size, 3, none⟩ = some (.int .i64 0) := (unhide HC2).cell 3
  have e4 : ((w2.setCell ⟨w1.heap.size, 2, none⟩ (.int .i64 3)).setCell ⟨w1.heap.size, 4, none⟩ (.int .i64 cl)).cell? ⟨w1.heap.size, 4, none⟩ = some (.int .i64 cl) := (unhide HC2).cell 4
  have e5 : ((w2.setCell ⟨w1.heap.size, 2, none⟩ (.int .i64 3)).setCell ⟨w1.heap.size, 4, none⟩ (.int .i64 cl)).cell? ⟨w1.heap.size, 5, none⟩ = some (.int .i64 0) := (unhide HC2).cell 5
  have z0 : ((w2.setCell ⟨w1.heap.size, 2, none⟩ (.int .i64 3)).setCell ⟨w1.heap.size, 4, none⟩ (.int .i64 cl)).cell? ⟨w.heap.size, 0, none⟩ = some (.int .i64 0) := (unhide HB4).cell 0
  have z1 : ((w2.setCell ⟨w1.heap.size, 2, none⟩ (.int .i64 3)).setCell ⟨w1.heap.size, 4, none⟩ (.int .i64 cl)).cell? ⟨w.heap.size, 1, none⟩ = some (.int .i64 0) := (unhide HB4).cell 1
  have z2 : ((w2.setCell ⟨w1.heap.size, 2, none⟩ (.int .i64 3)).setCell ⟨w1.heap.size, 4, none⟩ (.int .i64 cl)).cell? ⟨w.heap.size, 2, none⟩ = some (.int .i64 0) := (unhide HB4).cell 2
  have z3 : ((w2.setCell ⟨w1.heap.size, 2, none⟩ (.int .i64 3)).setCell ⟨w1.heap.size, 4, none⟩ (.int .i64 cl)).cell? ⟨w.heap.size, 3, none⟩ = some (.int .i64 0) := (unhide HB4).cell 3
  have z4 : ((w2.setCell ⟨w1.heap.size, 2, none⟩ (.int .i64 3)).setCell ⟨w1.heap.size, 4, none⟩ (.int .i64 cl)).cell? ⟨w.heap.size, 4, none⟩ = some (.int .i64 0) := (unhide HB4).cell 4
  have z5 : ((w2.setCell ⟨w1.heap.size, 2, none⟩ (.int .i64 3)).setCell ⟨w1.heap.size, 4, none⟩ (.int .i64 cl)).cell? ⟨w.heap.size, 5, none⟩ = some (.int .i64 0) := (unhide HB4).cell 5
  have zf := (unhide HB4).frozen
  have zl := (unhide HB4).lt
  go_wp2_with fail
  obtain ⟨d1, d2, d3, d4, d5, d6⟩ := unhide HD
  refine bodyPost_ret (by simp [results, Try.results111, go_sem, d1, d2, d3, d4, d5, d6]; try rfl) rfl ?_
  exact ⟨⟨r, c, 3, 0, cl, 0⟩, rfl, ⟨unhide FA, fit3, fit0, (unhide FN).2, fit0⟩, unhide FIN⟩
 ·have e0 : ((w2.setCell ⟨w1.heap.size, 2, none⟩ (.int .i64 st)).setCell ⟨w1.heap.size, 4, none⟩ (.int .i64 cl)).cell? ⟨w1.heap.size, 0, none⟩ = some (.int .i64 r) := (unhide HC2).cell 0
  have e1 : ((w2.setCell ⟨w1.heap.size, 2, none⟩ (.int .i64 st)).setCell ⟨w1.heap.size, 4, none⟩ (.int .i64 cl)).cell? ⟨w1.heap.size, 1, none⟩ = some (.int .i64 c) := (unhide HC2).cell 1
  have e2 : ((w2.setCell ⟨w1.heap.size, 2, none⟩ (.int .i64 st)).setCell ⟨w1.heap.size, 4, none⟩ (.int .i64 cl)).cell? ⟨w1.heap.size, 2, none⟩ = some (.int .i64 st) := (unhide HC2).cell 2
  have e3 : ((w2.setCell ⟨w1.heap.size, 2, none⟩ (.int .i64 st)).setCell ⟨w1.heap.size, 4, none⟩ (.int .i64 cl)).cell? ⟨w1.heap.size, 3, none⟩ = some (.int .i64 0) := (unhide HC2).cell 3
  have e4 : ((w2.setCell ⟨w1.heap.size, 2, none⟩ (.int .i64 st)).setCell ⟨w1.heap.size, 4, none⟩ (.int .i64 cl)).cell? ⟨w1.heap.size, 4, none⟩ = some (.int .i64 cl) := (unhide HC2).cell 4
  have e5 : ((w2.setCell ⟨w1.heap.size, 2, none⟩ (.int .i64 st)).setCell ⟨w1.heap.size, 4, none⟩ (.int .i64 cl)).cell? ⟨w1.heap.size, 5, none⟩ = some (.int .i64 0) := (unhide HC2).cell 5
  have z0 : ((w2.setCell ⟨w1.heap.size, 2, none⟩ (.int .i64 st)).setCell ⟨w1.heap.size, 4, none⟩ (.int .i64 cl)).cell? ⟨w.heap.size, 0, none⟩ = some (.int .i64 0) := (unhide HB4).cell 0
  have z1 : ((w2.setCell ⟨w1.heap.size, 2, none⟩ (.int .i64 st)).setCell ⟨w1.heap.size, 4, none⟩ (.int .i64 cl)).cell? ⟨w.heap.size, 1, none⟩ = some (.int .i64 0) := (unhide HB4).cell 1
  have z2 : ((w2.setCell ⟨w1.heap.size, 2, none⟩ (.int .i64 st)).setCell ⟨w1.heap.size, 4, none⟩ (.int .i64 cl)).cell? ⟨w.heap.size, 2, none⟩ = some (.int .i64 0) := (unhide HB4).cell 2
  have z3 : ((w2.setCell ⟨w1.heap.size, 2, none⟩ (.int .i64 st)).setCell ⟨w1.heap.size, 4, none⟩ (.int .i64 cl)).cell? ⟨w.heap.size, 3, none⟩ = some (.int .i64 0) := (unhide HB4).cell 3
  have z4 : ((w2.setCell ⟨w1.heap.size, 2, none⟩ (.int .i64 st)).setCell ⟨w1.heap.size, 4, none⟩ (.int .i64 cl)).cell? ⟨w.heap.size, 4, none⟩ = some (.int .i64 0) := (unhide HB4).cell 4
  have z5 : ((w2.setCell ⟨w1.heap.size, 2, none⟩ (.int .i64 st)).setCell ⟨w1.heap.size, 4, none⟩ (.int .i64 cl)).cell? ⟨w.heap.size, 5, none⟩ = some (.int .i64 0) := (unhide HB4).cell 5
  have zf := (unhide HB4).frozen
  have zl := (unhide HB4).lt
  go_wp2_with fail
  refine (rnum_any (unhide HX3)).mono ?_
  rintro e w4 ⟨pa, rfl, fp, hp⟩
  have C4 := hp.1.has (unhide HC2) b3ne
  have B5 := hp.1.has (unhide HB4) hne
  have hs4 := hp.1.size
  simp only [World.size_setCell] at hs4
  obtain ⟨l3, t3, x3, k3⟩ := RdQ.bind (β := Sea) hp.2
  have MT4 := hide (((unhide MT2).trans' (unhide M3) (fun k hk hl => by omega)).trans hp.1)
  have m5 : Mod (fun k => k = w1.heap.size) w4 (w4.setCell ⟨w1.heap.size, 3, none⟩ (.int .i64 pa)) := (Mod.refl (fun k => k = w1.heap.size) w4).setCell (p := ⟨w1.heap.size, 3, none⟩) (.inl rfl) _
  have y3 : w4.cell? ⟨w1.heap.size, 3, none⟩ = some (.int .i64 0) := C4.cell 3
  have yf := C4.frozen
  have yl := C4.lt
  have HC5 := hide (C4.set 3 (.int .i64 pa))
  have HB6 := hide (m5.has B5 (by omega))
  have HX5 := hide (x3.mod m5 (fun e => b3ne e.symm) (fun e => b3gb e.symm))
  have MT5 := hide ((unhide MT4).trans' m5 (fun k hk hl => by omega))
  have K3 := hide k3
  have FP := hide fp
  have hw4 : w1.heap.size < w4.heap.size := by omega
  clear hp C4 B5 x3 k3 fp m5 e0 e1 e2 e3 e4 e5 z0 z1 z2 z3 z4 z5 zf zl HX3 HC2 HB4
  by_cases s1 : st = 1
  ·subst s1
   have e0 : (w4.setCell ⟨w1.heap.size, 3, none⟩ (.int .i64 pa)).cell? ⟨w1.heap.size, 0, none⟩ = some (.int .i64 r) := (unhide HC5).cell 0
   have e1 : (w4.setCell ⟨w1.heap.size, 3, none⟩ (.int .i64 pa)).cell? ⟨w1.heap.size, 1, none⟩ = some (.int .i64 c) := (unhide HC5).cell 1
   have e2 : (w4.setCell ⟨w1.heap.size, 3, none⟩ (.int .i64 pa)).cell? ⟨w1.heap.size, 2, none⟩ = some (.int .i64 1) := (unhide HC5).cell 2
   have e3 : (w4.setCell ⟨w1.heap.size, 3, none⟩ (.int .i64 pa)).cell? ⟨w1.heap.size, 3, none⟩ = some (.int .i64 pa) := (unhide HC5).cell 3
   have e4 : (w4.setCell ⟨w1.heap.size, 3, none⟩ (.int .i64 pa)).cell? ⟨w1.heap.size, 4, none⟩ = some (.int .i64 cl) := (unhide HC5).cell 4
   have e5 : (w4.setCell ⟨w1.heap.size, 3, none⟩ (.int .i64 pa)).cell? ⟨w1.heap.size, 5, none⟩ = some (.int .i64 0) := (unhide HC5).cell 5
   have z0 : (w4.setCell ⟨w1.heap.size, 3, none⟩ (.int .i64 pa)).cell? ⟨w.heap.size, 0, none⟩ = some (.int .i64 0) := (unhide HB6).cell 0
   have z1 : (w4.setCell ⟨w1.heap.size, 3, none⟩ (.int .i64 pa)).cell? ⟨w.heap.size, 1, none⟩ = some (.int .i64 0) := (unhide HB6).cell 1
   have z2 : (w4.setCell ⟨w1.heap.size, 3, none⟩ (.int .i64 pa)).cell? ⟨w.heap.size, 2, none⟩ = some (.int .i64 0) := (unhide HB6).cell 2
   have z3 : (w4.setCell ⟨w1.heap.size, 3, none⟩ (.int .i64 pa)).cell? ⟨w.heap.size, 3, none⟩ = some (.int .i64 0) := (unhide HB6).cell 3
   have z4 : (w4.setCell ⟨w1.heap.size, 3, none⟩ (.int .i64 pa)).cell? ⟨w.heap.size, 4, none⟩ = some (.int .i64 0) := (unhide HB6).cell 4
   have z5 : (w4.setCell ⟨w1.heap.size, 3, none⟩ (.int .i64 pa)).cell? ⟨w.heap.size, 5, none⟩ = some (.int .i64 0) := (unhide HB6).cell 5
   have zf := (unhide HB6).frozen
   have zl := (unhide HB6).lt
   have en : (w4.setCell ⟨w1.heap.size, 3, none⟩ (.int .i64 pa)).cell? ⟨rb, 1, none⟩ = some (.int .i64 now) := by
    obtain ⟨_, _, q, _⟩ := (unhide HX5).has
    exact q.cell 1
   have HN := hide (fill_num (unhide HX5) (unhide HC5) (unhide HB6) (unhide MT5) ⟨b3ne, b3gb, hne, by omega, by omega⟩)
   go_upto_region 7 with fail
   go_cut [] from 30 to 38 (fun wx => ∃ u, Fit u ∧ Hid (FillU w (w4.setCell ⟨w1.heap.size, 3, none⟩ (.int .i64 pa)) wx rb gb w1.heap.size w.heap.size r c pa cl now l3 t3 u))
   case first =>
    generalize (w4.setCell ⟨w1.heap.size, 3, none⟩ (.int .i64 pa)) = w5 at *
    go_region_with (go_at_call 107; refine ((unhide HN) _ ?_).mono ?_; (first | exact Mod.refl _ _ | exact (Mod.refl _ _).drew | exact (Mod.refl _ _).drewN _ | exact ((Mod.refl _ _).drewN _).drew); rintro e w6 ⟨u, rfl, fu, hn6, ⟨h61, h62, h63⟩, hF6⟩)
    all_goals (go_wp2_with fail; go_meet; exact ⟨u, fu, hF6 _ (by rw [IntKind.wrap_i64]; unfold wrap64; rfl)⟩)
   case rest =>
    obtain ⟨u, fu, hF⟩ := hcut
    clear e0 e1 e2 e3 e4 e5 z0 z1 z2 z3 z4 z5 zf zl en
    obtain ⟨v, hv⟩ : ∃ v, wrap64 (now + u) = v := ⟨_, rfl⟩
    have fv : Fit v := by rw [← hv]; unfold wrap64; omega
    obtain ⟨l4, t4, x4, k4⟩ := (unhide hF).rd
    have HC7 := (unhide hF).box
    rw [hv] at HC7
    have HC7 := hide HC7
    have HB8 := hide (unhide hF).res
    have MT8 := (unhide hF).mod
    obtain ⟨d0, d1, d2, d3, d4, d5, d6⟩ := fill_end (r := r) (c := c) (st := 1) (pa := pa) (cl := cl) (un := v) (unhide HB8)
    have MF := MT8.trans' d0 (fun k hk hl => by omega)
    have QF : RdQ ((((((wc.setCell ⟨w.heap.size, 0, none⟩ (.int .i64 r)).setCell ⟨w.heap.size, 1, none⟩ (.int .i64 c)).setCell ⟨w.heap.size, 2, none⟩ (.int .i64 1)).setCell ⟨w.heap.size, 3, none⟩ (.int .i64 pa)).setCell ⟨w.heap.size, 4, none⟩ (.int .i64 cl)).setCell ⟨w.heap.size, 5, none⟩ (.int .i64 v)) rb gb (fillP now l) now torn (fun x => x = ⟨r, c, 1, pa, cl, v⟩) := by
     refine (unhide K1) _ _ _ ((unhide K2) _ _ _ ?_)
     simp only [hst, hcl, if_neg s3, if_true]
     refine (unhide K3) _ _ _ (k4 _ _ _ ?_)
     rw [hv]
     show RdQ _ rb gb (some (_, l4)) now t4 _
     exact ⟨rfl, x4.mod d0 (by omega) (by omega)⟩
    have FIN := hide (show RdR w _ rb gb (fillP now l) now torn (fun x => x = ⟨r, c, 1, pa, cl, v⟩) from ⟨MF, QF⟩)
    have HD := hide (And.intro d1 (And.intro d2 (And.intro d3 (And.intro d4 (And.intro d5 d6)))))
    clear d0 d1 d2 d3 d4 d5 d6 MF QF x4 k4 MT8
    have e0 : wc.cell? ⟨w1.heap.size, 0, none⟩ = some (.int .i64 r) := (unhide HC7).cell 0
    have e1 : wc.cell? ⟨w1.heap.size, 1, none⟩ = some (.int .i64 c) := (unhide HC7).cell 1
    have e2 : wc.cell? ⟨w1.heap.size, 2, none⟩ = some (.int .i64 1) := (unhide HC7).cell 2
    have e3 : wc.cell? ⟨w1.heap.size, 3, none⟩ = some (.int .i64 pa) := (unhide HC7).cell 3
    have e4 : wc.cell? ⟨w1.heap.size, 4, none⟩ = some (.int .i64 cl) := (unhide HC7).cell 4
    have e5 : wc.cell? ⟨w1.heap.size, 5, none⟩ = some (.int .i64 v) := (unhide HC7).cell 5
    have z0 : wc.cell? ⟨w.heap.size, 0, none⟩ = some (.int .i64 0) := (unhide HB8).cell 0
    have z1 : wc.cell? ⟨w.heap.size, 1, none⟩ = some (.int .i64 0) := (unhide HB8).cell 1
    have z2 : wc.cell? ⟨w.heap.size, 2, none⟩ = some (.int .i64 0) := (unhide HB8).cell 2
    have z3 : wc.cell? ⟨w.heap.size, 3, none⟩ = some (.int .i64 0) := (unhide HB8).cell 3
    have z4 : wc.cell? ⟨w.heap.size, 4, none⟩ = some (.int .i64 0) := (unhide HB8).cell 4
    have z5 : wc.cell? ⟨w.heap.size, 5, none⟩ = some (.int .i64 0) := (unhide HB8).cell 5
    have zf := (unhide HB8).frozen
    have zl := (unhide HB8).lt
    go_wp2_with fail
    obtain ⟨d1, d2, d3, d4, d5, d6⟩ := unhide HD
    refine bodyPost_ret (by simp [results, Try.results111, go_sem, d1, d2, d3, d4, d5, d6]; try rfl) rfl ?_
    exact ⟨⟨r, c, 1, pa, cl, v⟩, rfl, ⟨unhide FA, (unhide FN).1, unhide FP, (unhide FN).2, fv⟩, unhide FIN⟩
  ·obtain ⟨d0, d1, d2, d3, d4, d5, d6⟩ := fill_end (r := r) (c := c) (st := st) (pa := pa) (cl := cl) (un := 0) (unhide HB6)
   have MF := (unhide MT5).trans' d0 (fun k hk hl => by omega)
   have QF : RdQ (((((((w4.setCell ⟨w1.heap.size, 3, none⟩ (.int .i64 pa)).setCell ⟨w.heap.size, 0, none⟩ (.int .i64 r)).setCell ⟨w.heap.size, 1, none⟩ (.int .i64 c)).setCell ⟨w.heap.size, 2, none⟩ (.int .i64 st)).setCell ⟨w.heap.size, 3, none⟩ (.int .i64 pa)).setCell ⟨w.heap.size, 4, none⟩ (.int .i64 cl)).setCell ⟨w.heap.size, 5, none⟩ (.int .i64 0)) rb gb (fillP now l) now torn (fun x => x = ⟨r, c, st, pa, cl, 0⟩) := by
    refine (unhide K1) _ _ _ ((unhide K2) _ _ _ ?_)
    simp only [hst, hcl, if_neg s3, if_neg s1]
    refine (unhide K3) _ _ _ ?_
    show RdQ _ rb gb (some (_, l3)) now t3 _
    exact ⟨rfl, (unhide HX5).mod d0 (by omega) (by omega)⟩
   have FIN := hide (show RdR w _ rb gb (fillP now l) now torn (fun x => x = ⟨r, c, st, pa, cl, 0⟩) from ⟨MF, QF⟩)
   have HD := hide (And.intro d1 (And.intro d2 (And.intro d3 (And.intro d4 (And.intro d5 d6)))))
   clear d0 d1 d2 d3 d4 d5 d6 MF QF
   have e0 : (w4.setCell ⟨w1.heap.size, 3, none⟩ (.int .i64 pa)).cell? ⟨w1.heap.size, 0, none⟩ = some (.int .i64 r) := (unhide HC5).cell 0
   have e1 : (w4.setCell ⟨w1.heap.size, 3, none⟩ (.int .i64 pa)).cell? ⟨w1.heap.size, 1, none⟩ = some (.int .i64 c) := (unhide HC5).cell 1
   have e2 : (w4.setCell ⟨w1.heap.size, 3, none⟩ (.int .i64 pa)).cell? ⟨w1.heap.size, 2, none⟩ = some (.int .i64 st) := (unhide HC5).cell 2
   have e3 : (w4.setCell ⟨w1.heap.size, 3, none⟩ (.int .i64 pa)).cell? ⟨w1.heap.size, 3, none⟩ = some (.int .i64 pa) := (unhide HC5).cell 3
   have e4 : (w4.setCell ⟨w1.heap.size, 3, none⟩ (.int .i64 pa)).cell? ⟨w1.heap.size, 4, none⟩ = some (.int .i64 cl) := (unhide HC5).cell 4
   have e5 : (w4.setCell ⟨w1.heap.size, 3, none⟩ (.int .i64 pa)).cell? ⟨w1.heap.size, 5, none⟩ = some (.int .i64 0) := (unhide HC5).cell 5
   have z0 : (w4.setCell ⟨w1.heap.size, 3, none⟩ (.int .i64 pa)).cell? ⟨w.heap.size, 0, none⟩ = some (.int .i64 0) := (unhide HB6).cell 0
   have z1 : (w4.setCell ⟨w1.heap.size, 3, none⟩ (.int .i64 pa)).cell? ⟨w.heap.size, 1, none⟩ = some (.int .i64 0) := (unhide HB6).cell 1
   have z2 : (w4.setCell ⟨w1.heap.size, 3, none⟩ (.int .i64 pa)).cell? ⟨w.heap.size, 2, none⟩ = some (.int .i64 0) := (unhide HB6).cell 2
   have z3 : (w4.setCell ⟨w1.heap.size, 3, none⟩ (.int .i64 pa)).cell? ⟨w.heap.size, 3, none⟩ = some (.int .i64 0) := (unhide HB6).cell 3
   have z4 : (w4.setCell ⟨w1.heap.size, 3, none⟩ (.int .i64 pa)).cell? ⟨w.heap.size, 4, none⟩ = some (.int .i64 0) := (unhide HB6).cell 4
   have z5 : (w4.setCell ⟨w1.heap.size, 3, none⟩ (.int .i64 pa)).cell? ⟨w.heap.size, 5, none⟩ = some (.int .i64 0) := (unhide HB6).cell 5
   have zf := (unhide HB6).frozen
   have zl := (unhide HB6).lt
   go_wp2_with fail
   obtain ⟨d1, d2, d3, d4, d5, d6⟩ := unhide HD
   refine bodyPost_ret (by simp [results, Try.results111, go_sem, d1, d2, d3, d4, d5, d6]; try rfl) rfl ?_
   exact ⟨⟨r, c, st, pa, cl, 0⟩, rfl, ⟨unhide FA, (unhide FN).1, unhide FP, (unhide FN).2, fit0⟩, unhide FIN⟩
set_option maxHeartbeats 8000000
def limsP : Nat → List Int → List Int → Option (List Int × List Int)
 | 0, acc, l => some (acc, l)
 | n + 1, acc, l => bindP (numP l 0 0) fun a r => limsP n (acc ++ [a]) r
def plaOf (s : Int × Int × Int) (xs : List Int) : Pla := ⟨s.1, s.2.1, s.2.2, xs.getD 0 0, xs.getD 1 0, xs.getD 2 0, xs.getD 3 0, 0⟩
def planeP (l : List Int) : Option (Pla × List Int) := bindP (shapeP l) fun s r => bindP (limsP 4 [] r) fun xs r => some (plaOf s xs, r)
def planeL (p : Pla) : List Value := [.int .i64 p.rows, .int .i64 p.cols, .int .i64 p.front, .int .i64 p.l0, .int .i64 p.l1, .int .i64 p.l2, .int .i64 p.l3]
def FitP (p : Pla) : Prop := (Fit p.rows ∧ Fit p.cols ∧ Fit p.front) ∧ Fit p.l0 ∧ Fit p.l1 ∧ Fit p.l2 ∧ Fit p.l3
structure PlaI (w w1 wr : World) (rb gb b sb : Nat) (s : Int × Int × Int) (l1 : List Int) (t1 : Bool) (now : Int) (j : Nat) (xs : List Int) : Prop where
 len : xs.length = j
 fit : ∀ x ∈ xs, Fit x
 box : Has wr b (planeL (plaOf s xs)).toArray 35
 res : Has wr sb #[.int .i64 0, .int .i64 0, .int .i64 0, .int .i64 0, .int .i64 0, .int .i64 0, .int .i64 0] 35
 mod : Mod (· = rb) w wr
 siz : w1.heap.size ≤ wr.heap.size
 rd : ∃ l2 t2, RdX wr rb gb l2 now t2 ∧ ∀ (w2 : World) (g : List Int → Prop), RdQ w2 rb gb (limsP (4 - j) xs l2) now t2 g → RdQ w2 rb gb (limsP 4 [] l1) now t1 g
theorem PlaI.next {w w1 wr w2 : World} {rb gb b sb : Nat} {s : Int × Int × Int} {l1 : List Int} {t1 : Bool} {now : Int} {j : Nat} {xs : List Int} (h : PlaI w w1 wr rb gb b sb s l1 t1 now j xs) (hj : j < 4) (hne : b ≠ rb ∧ b ≠ gb ∧ sb ≠ rb ∧ sb ≠ b ∧ w.heap.size ≤ b) {l2 : List Int} {t2 : Bool} {a : Int}
  (hk : ∀ (w2 : World) (g : List Int → Prop), RdQ w2 rb gb (limsP (4 - j) xs l2) now t2 g → RdQ w2 rb gb (limsP 4 [] l1) now t1 g) (ha : RdR wr w2 rb gb (numP l2 0 0) now t2 (fun x => x = a)) (fa : Fit a) : PlaI w w1 (w2.setCell ⟨b, 3 + j, none⟩ (.int .i64 a)) rb gb b sb s l1 t1 now (j + 1) (xs ++ [a]) := by
 obtain ⟨n1, n2, n3, n4, n5⟩ := hne
 have m : Mod (fun k => k = b) w2 (w2.setCell ⟨b, 3 + j, none⟩ (.int .i64 a)) := (Mod.refl (fun k => k = b) w2).setCell (p := ⟨b, 3 + j, none⟩) (.inl rfl) _
 obtain ⟨l3, t3, x3, k3⟩ := RdQ.bind (β := List Int) ha.2
 have hl := h.len
 refine ⟨by simp; omega, fun x hx => ?_, ?_, m.has (ha.1.has h.res n3) n4, (h.mod.trans ha.1).trans' m (fun k hk hl => by omega), by have := h.siz; have := ha.1.size; simp; omega, l3, t3, x3.mod m (fun e => n1 e.symm) (fun e => n2 e.symm), fun W g hg => hk W g ?_⟩
 ·rcases List.mem_append.1 hx with q | q
  ·exact h.fit x q
  ·simp at q; subst q; exact fa
 ·have := (ha.1.has h.box n1).set (3 + j) (.int .i64 a)
  have e : (planeL (plaOf s (xs ++ [a]))).toArray = (planeL (plaOf s xs)).toArray.setIfInBounds (3 + j) (.int .i64 a) := by
   have hj' : j = 0 ∨ j = 1 ∨ j = 2 ∨ j = 3 := by omega
   rcases hj' with e | e | e | e <;> subst e
   ·obtain rfl : xs = [] := List.eq_nil_of_length_eq_zero hl
    rfl
   ·obtain ⟨x0, rfl⟩ := List.length_eq_one_iff.1 hl
    rfl
   ·rcases xs with _ | ⟨x0, _ | ⟨x1, _ | ⟨x2, xs⟩⟩⟩ <;> simp at hl
    rfl
   ·rcases xs with _ | ⟨x0, _ | ⟨x1, _ | ⟨x2, _ | ⟨x3, xs⟩⟩⟩⟩ <;> simp at hl
    rfl
  rw [e]
  exact this
 ·rw [show 4 - j = (4 - (j + 1)) + 1 by omega]
  exact k3 _ _ _ hg
theorem RdQ.ret {α β : Type} {w1 : World} {rb gb : Nat} {p : Option (α × List Int)} {n : α} {y : α → β} {now : Int} {torn : Bool} {g : β → Prop} (h : RdQ w1 rb gb p now torn (fun x => x = n)) (hg : g (y n)) : RdQ w1 rb gb (bindP p fun x r => some (y x, r)) now torn g := by
 rcases p with _ | ⟨x, r⟩
 ·exact h
 ·obtain ⟨rfl, h⟩ := h
  exact ⟨hg, h⟩
theorem pla_end {W : World} {sb : Nat} {r c f x0 x1 x2 x3 : Int} (h : Has W sb #[.int .i64 0, .int .i64 0, .int .i64 0, .int .i64 0, .int .i64 0, .int .i64 0, .int .i64 0] 35) : Mod (fun k => k = sb) W (((((((W.setCell ⟨sb, 0, none⟩ (.int .i64 r)).setCell ⟨sb, 1, none⟩ (.int .i64 c)).setCell ⟨sb, 2, none⟩ (.int .i64 f)).setCell ⟨sb, 3, none⟩ (.int .i64 x0)).setCell ⟨sb, 4, none⟩ (.int .i64 x1)).setCell ⟨sb, 5, none⟩ (.int .i64 x2)).setCell ⟨sb, 6, none⟩ (.int .i64 x3)) ∧ (((((((W.setCell ⟨sb, 0, none⟩ (.int .i64 r)).setCell ⟨sb, 1, none⟩ (.int .i64 c)).setCell ⟨sb, 2, none⟩ (.int .i64 f)).setCell ⟨sb, 3, none⟩ (.int .i64 x0)).setCell ⟨sb, 4, none⟩ (.int .i64 x1)).setCell ⟨sb, 5, none⟩ (.int .i64 x2)).setCell ⟨sb, 6, none⟩ (.int .i64 x3)).cell? ⟨sb, 0, none⟩ = some (.int .i64 r) ∧ (((((((W.setCell ⟨sb, 0, none⟩ (.int .i64 r)).setCell ⟨sb, 1, none⟩ (.int .i64 c)).setCell ⟨sb, 2, none⟩ (.int .i64 f)).setCell ⟨sb, 3, none⟩ (.int .i64 x0)).setCell ⟨sb, 4, none⟩ (.int .i64 x1)).setCell ⟨sb, 5, none⟩ (.int .i64 x2)).setCell ⟨sb, 6, none⟩ (.int .i64 x3)).cell? ⟨sb, 1, none⟩ = some (.int .i64 c) ∧ (((((((W.setCell ⟨sb, 0, none⟩ (.int .i64 r)).setCell ⟨sb, 1, none⟩ (.int .i64 c)).setCell ⟨sb, 2, none⟩ (.int .i64 f)).setCell ⟨sb, 3, none⟩ (.int .i64 x0)).setCell ⟨sb, 4, none⟩ (.int .i64 x1)).setCell ⟨sb, 5, none⟩ (.int .i64 x2)).setCell ⟨sb, 6, none⟩ (.int .i64 x3)).cell? ⟨sb, 2, none⟩ = some (.int .i64 f) ∧ (((((((W.setCell ⟨sb, 0, none⟩ (.int .i64 r)).setCell ⟨sb, 1, none⟩ (.int .i64 c)).setCell ⟨sb, 2, none⟩ (.int .i64 f)).setCell ⟨sb, 3, none⟩ (.int .i64 x0)).setCell ⟨sb, 4, none⟩ (.int .i64 x1)).setCell ⟨sb, 5, none⟩ (.int .i64 x2)).setCell ⟨sb, 6, none⟩ (.int .i64 x3)).cell? ⟨sb, 3, none⟩ = some (.int .i64 x0) ∧ (((((((W.setCell ⟨sb, 0, none⟩ (.int .i64 r)).setCell ⟨sb, 1, none⟩ (.int .i64 c)).setCell ⟨sb, 2, none⟩ (.int .i64 f)).setCell ⟨sb, 3, none⟩ (.int .i64 x0)).setCell ⟨sb, 4, none⟩ (.int .i64 x1)).setCell ⟨sb, 5, none⟩ (.int .i64 x2)).setCell ⟨sb, 6, none⟩ (.int .i64 x3)).cell? ⟨sb, 4, none⟩ = some (.int .i64 x1) ∧ (((((((W.setCell ⟨sb, 0, none⟩ (.int .i64 r)).setCell ⟨sb, 1, none⟩ (.int .i64 c)).setCell ⟨sb, 2, none⟩ (.int .i64 f)).setCell ⟨sb, 3, none⟩ (.int .i64 x0)).setCell ⟨sb, 4, none⟩ (.int .i64 x1)).setCell ⟨sb, 5, none⟩ (.int .i64 x2)).setCell ⟨sb, 6, none⟩ (.int .i64 x3)).cell? ⟨sb, 5, none⟩ = some (.int .i64 x2) ∧ (((((((W.setCell ⟨sb, 0, none⟩ (.int .i64 r)).setCell ⟨sb, 1, none⟩ (.int .i64 c)).setCell ⟨sb, 2, none⟩ (.int .i64 f)).setCell ⟨sb, 3, none⟩ (.int .i64 x0)).setCell ⟨sb, 4, none⟩ (.int .i64 x1)).setCell ⟨sb, 5, none⟩ (.int .i64 x2)).setCell ⟨sb, 6, none⟩ (.int .i64 x3)).cell? ⟨sb, 6, none⟩ = some (.int .i64 x3) := by
 have B := (((((((h.set 0 (.int .i64 r)).set 1 (.int .i64 c)).set 2 (.int .i64 f)).set 3 (.int .i64 x0)).set 4 (.int .i64 x1)).set 5 (.int .i64 x2)).set 6 (.int .i64 x3))
 exact ⟨((((((((Mod.refl (fun k => k = sb) W).setCell (p := ⟨sb, 0, none⟩) (.inl rfl) _).setCell (p := ⟨sb, 1, none⟩) (.inl rfl) _).setCell (p := ⟨sb, 2, none⟩) (.inl rfl) _).setCell (p := ⟨sb, 3, none⟩) (.inl rfl) _).setCell (p := ⟨sb, 4, none⟩) (.inl rfl) _).setCell (p := ⟨sb, 5, none⟩) (.inl rfl) _).setCell (p := ⟨sb, 6, none⟩) (.inl rfl) _), B.cell 0, B.cell 1, B.cell 2, B.cell 3, B.cell 4, B.cell 5, B.cell 6⟩
theorem rplane_any {w : World} {rb gb : Nat} {l : List Int} {now : Int} {torn : Bool} (h : RdX w rb gb l now torn) :
  Calls Try.prog 110 #[.pointer (some ⟨rb, 0, none⟩)] w fun e w' => ∃ p, e = .returned (.agg (planeL p).toArray) ∧ FitP p ∧ RdR w w' rb gb (planeP l) now torn (fun x => x = p) := by
 have Z7 : Hid True := trivial
 have hne : w.heap.size ≠ rb := by have := h.ne_box; omega
 have hgb : w.heap.size ≠ gb := by have := h.lt; omega
 have hne2 : w.heap.size + 1 ≠ rb := by have := h.ne_box; omega
 have hgb2 : w.heap.size + 1 ≠ gb := by have := h.lt; omega
 have B0 := (Has.new w #[.int .i64 0, .int .i64 0, .int .i64 0, .int .i64 0, .int .i64 0, .int .i64 0, .int .i64 0] 35).alloc (.cells #[.int .i64 0, .int .i64 0, .int .i64 0, .int .i64 0, .int .i64 0, .int .i64 0, .int .i64 0] 35)
 have C0 := Has.new (w.alloc (.cells #[.int .i64 0, .int .i64 0, .int .i64 0, .int .i64 0, .int .i64 0, .int .i64 0, .int .i64 0] 35)) #[.int .i64 0, .int .i64 0, .int .i64 0, .int .i64 0, .int .i64 0, .int .i64 0, .int .i64 0] 35
 rw [World.size_alloc] at C0
 have B0 := hide B0
 have C0 := hide C0
 have M0 := hide ((((Mod.refl No w).alloc (.cells #[.int .i64 0, .int .i64 0, .int .i64 0, .int .i64 0, .int .i64 0, .int .i64 0, .int .i64 0] 35)).alloc (.cells #[.int .i64 0, .int .i64 0, .int .i64 0, .int .i64 0, .int .i64 0, .int .i64 0, .int .i64 0] 35)))
 have H := hide ((h.alloc (.cells #[.int .i64 0, .int .i64 0, .int .i64 0, .int .i64 0, .int .i64 0, .int .i64 0, .int .i64 0] 35)).alloc (.cells #[.int .i64 0, .int .i64 0, .int .i64 0, .int .i64 0, .int .i64 0, .int .i64 0, .int .i64 0] 35))
 clear h
 go_enter Try.func110, Try.ntmps110
 go_wp2_with fail
 refine (rshape_any (unhide H)).mono ?_
 rintro e w1 ⟨r, c, f, rfl, fs, hs⟩
 have C1 := hs.1.has (unhide C0) hne2
 have B1 := hs.1.has (unhide B0) hne
 obtain ⟨l1, t1, x1, k1⟩ := RdQ.bind (β := Pla) hs.2
 have hs1 := hs.1.size
 rw [World.size_alloc, World.size_alloc] at hs1
 have m3 : Mod (fun k => k = w.heap.size + 1) w1 (((w1.setCell ⟨w.heap.size + 1, 0, none⟩ (.int .i64 r)).setCell ⟨w.heap.size + 1, 1, none⟩ (.int .i64 c)).setCell ⟨w.heap.size + 1, 2, none⟩ (.int .i64 f)) := (((Mod.refl (fun k => k = w.heap.size + 1) w1).setCell (p := ⟨w.heap.size + 1, 0, none⟩) (.inl rfl) _).setCell (p := ⟨w.heap.size + 1, 1, none⟩) (.inl rfl) _).setCell (p := ⟨w.heap.size + 1, 2, none⟩) (.inl rfl) _
 have I0 : PlaI w w1 (((w1.setCell ⟨w.heap.size + 1, 0, none⟩ (.int .i64 r)).setCell ⟨w.heap.size + 1, 1, none⟩ (.int .i64 c)).setCell ⟨w.heap.size + 1, 2, none⟩ (.int .i64 f)) rb gb (w.heap.size + 1) w.heap.size (r, c, f) l1 t1 now 0 [] :=
  ⟨rfl, fun x hx => by simp at hx, ((C1.set 0 (.int .i64 r)).set 1 (.int .i64 c)).set 2 (.int .i64 f), m3.has B1 (by omega), ((((unhide M0).mono (S' := (· = rb)) fun _ _ x => x.elim).trans hs.1).trans' m3 (fun k hk hl => by omega)), by simp, l1, t1, x1.mod m3 (by omega) (by omega), fun W g hg => hg⟩
 have I0 := hide I0
 have K1 := hide k1
 have FZ := hide fs
 have q0 : w1.cell? ⟨w.heap.size + 1, 0, none⟩ = some (.int .i64 0) := C1.cell 0
 have q1 : w1.cell? ⟨w.heap.size + 1, 1, none⟩ = some (.int .i64 0) := C1.cell 1
 have q2 : w1.cell? ⟨w.heap.size + 1, 2, none⟩ = some (.int .i64 0) := C1.cell 2
 have qz := C1.frozen
 have ql := C1.lt
 clear hs C1 B1 x1 k1 m3 fs B0 C0 H
 go_wp2_with fail
 go_loopw [14] (fun s wr => ∃ (j : Nat) (xs : List Int), s = .int .i64 (j : Int) ∧ j ≤ 4 ∧ Hid (PlaI w w1 wr rb gb (w.heap.size + 1) w.heap.size (r, c, f) l1 t1 now j xs)) (fun s _ => 4 - (intOf s).toNat)
 case atStart => exact ⟨0, [], rfl, by omega, I0⟩
 case round =>
  obtain ⟨j, xs, rfl, hj, I1⟩ := hrel
  clear I0 q0 q1 q2 qz ql
  obtain ⟨l2, t2, x2, k2⟩ := (unhide I1).rd
  by_cases hj4 : (j : Int) < 4
  ·have hjn : j < 4 := by omega
   have X2 := hide x2
   have K2 := hide k2
   clear x2 k2
   go_wp2_with fail
   refine (rnum_any (unhide X2)).mono ?_
   rintro e w2 ⟨a, rfl, fa, ha⟩
   have hB := ha.1.has (unhide I1).box hne2
   have hl := (unhide I1).len
   obtain ⟨v, hv⟩ : ∃ v, w2.cell? ⟨w.heap.size + 1, 3 + j, none⟩ = some v := by
    have e : ∃ v, (planeL (plaOf (r, c, f) xs)).toArray[3 + j]? = some v := ⟨_, Array.getElem?_eq_getElem (by show 3 + j < 7; omega)⟩
    obtain ⟨v, e⟩ := e
    exact ⟨v, (hB.cell (3 + j)).trans e⟩
   have hz := hB.frozen (3 + j)
   have hlt := hB.lt
   have N1 := hide ((unhide I1).next hjn ⟨hne2, hgb2, hne, by omega, by omega⟩ (unhide K2) ha fa)
   clear ha hB hl fa X2 K2
   go_wp2_with fail
   exact ⟨⟨j + 1, xs ++ [a], by simp, by omega, N1⟩, by simp [intOf]; omega⟩
  ·obtain rfl : j = 4 := by omega
   obtain ⟨x0, x1, xx2, x3, rfl⟩ : ∃ x0 x1 x2 x3, xs = [x0, x1, x2, x3] := by
    have hl := (unhide I1).len
    rcases xs with _ | ⟨x0, _ | ⟨x1, _ | ⟨x2, _ | ⟨x3, _ | ⟨x4, xs⟩⟩⟩⟩⟩ <;> simp at hl
    exact ⟨_, _, _, _, rfl⟩
   have hf := (unhide I1).fit
   have hB : Has wr (w.heap.size + 1) #[.int .i64 r, .int .i64 c, .int .i64 f, .int .i64 x0, .int .i64 x1, .int .i64 xx2, .int .i64 x3] 35 := (unhide I1).box
   have hR := (unhide I1).res
   obtain ⟨d0, d1, d2, d3, d4, d5, d6, d7⟩ := pla_end (r := r) (c := c) (f := f) (x0 := x0) (x1 := x1) (x2 := xx2) (x3 := x3) hR
   have MF := (unhide I1).mod.trans' d0 (fun k hk hl => by omega)
   have QF : RdQ (((((((wr.setCell ⟨w.heap.size, 0, none⟩ (.int .i64 r)).setCell ⟨w.heap.size, 1, none⟩ (.int .i64 c)).setCell ⟨w.heap.size, 2, none⟩ (.int .i64 f)).setCell ⟨w.heap.size, 3, none⟩ (.int .i64 x0)).setCell ⟨w.heap.size, 4, none⟩ (.int .i64 x1)).setCell ⟨w.heap.size, 5, none⟩ (.int .i64 xx2)).setCell ⟨w.heap.size, 6, none⟩ (.int .i64 x3)) rb gb (planeP l) now torn (fun x => x = plaOf (r, c, f) [x0, x1, xx2, x3]) := by
    refine (unhide K1) _ _ _ (RdQ.ret (n := [x0, x1, xx2, x3]) (k2 _ _ ?_) rfl)
    show RdQ _ rb gb (some ([x0, x1, xx2, x3], l2)) now t2 _
    exact ⟨rfl, x2.mod d0 (by omega) (by omega)⟩
   have FIN := hide (show RdR w _ rb gb (planeP l) now torn (fun x => x = plaOf (r, c, f) [x0, x1, xx2, x3]) from ⟨MF, QF⟩)
   have HD := hide (And.intro d1 (And.intro d2 (And.intro d3 (And.intro d4 (And.intro d5 (And.intro d6 d7))))))
   have FT := hide (show FitP (plaOf (r, c, f) [x0, x1, xx2, x3]) from ⟨unhide FZ, hf x0 (by simp), hf x1 (by simp), hf xx2 (by simp), hf x3 (by simp)⟩)
   have zf := hR.frozen
   have zl := hR.lt
   have e0 : wr.cell? ⟨w.heap.size + 1, 0, none⟩ = some (.int .i64 r) := hB.cell 0
   have e1 : wr.cell? ⟨w.heap.size + 1, 1, none⟩ = some (.int .i64 c) := hB.cell 1
   have e2 : wr.cell? ⟨w.heap.size + 1, 2, none⟩ = some (.int .i64 f) := hB.cell 2
   have e3 : wr.cell? ⟨w.heap.size + 1, 3, none⟩ = some (.int .i64 x0) := hB.cell 3
   have e4 : wr.cell? ⟨w.heap.size + 1, 4, none⟩ = some (.int .i64 x1) := hB.cell 4
   have e5 : wr.cell? ⟨w.heap.size + 1, 5, none⟩ = some (.int .i64 xx2) := hB.cell 5
   have e6 : wr.cell? ⟨w.heap.size + 1, 6, none⟩ = some (.int .i64 x3) := hB.cell 6
   have z0 : wr.cell? ⟨w.heap.size, 0, none⟩ = some (.int .i64 0) := hR.cell 0
   have z1 : wr.cell? ⟨w.heap.size, 1, none⟩ = some (.int .i64 0) := hR.cell 1
   have z2 : wr.cell? ⟨w.heap.size, 2, none⟩ = some (.int .i64 0) := hR.cell 2
   have z3 : wr.cell? ⟨w.heap.size, 3, none⟩ = some (.int .i64 0) := hR.cell 3
   have z4 : wr.cell? ⟨w.heap.size, 4, none⟩ = some (.int .i64 0) := hR.cell 4
   have z5 : wr.cell? ⟨w.heap.size, 5, none⟩ = some (.int .i64 0) := hR.cell 5
   have z6 : wr.cell? ⟨w.heap.size, 6, none⟩ = some (.int .i64 0) := hR.cell 6
   clear d0 d1 d2 d3 d4 d5 d6 d7 MF QF x2 k2 hf hB hR I1
   go_wp2_with fail
   obtain ⟨d1, d2, d3, d4, d5, d6, d7⟩ := unhide HD
   refine bodyPost_ret (by simp [results, Try.results110, go_sem, d1, d2, d3, d4, d5, d6, d7]; try rfl) rfl ?_
   exact ⟨plaOf (r, c, f) [x0, x1, xx2, x3], rfl, unhide FT, unhide FIN⟩
end Go.Proofs.Ythhibagcpjeihaa
