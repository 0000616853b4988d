import Derived.Test.YthhibagcpjeihaaLKeep2ToSwap3
import Derived.Test.YthhibagcpjeihaaLRd3ToSeat
import Derived.Test.YthhibagcpjeihaaLPassToLook2
import Derived.Deep.DeepCutAuto
import Derived.Test.YthhibagcpjeihaaLRd9ToKeep3
namespace Go.Proofs.Ythhibagcpjeihaa
open Go.RowKit Go.WideMaps
open Go.ChangeMaps (setBlock)
open M
set_option linter.unusedVariables false
set_option linter.unusedSimpArgs false
set_option maxRecDepth 100000
set_option maxHeartbeats 4000000
attribute [local go_sem] field171
def accN (acc0 hs : List Sea) (n : Nat) : List Sea := (hs.take n).foldl reseatStep acc0
theorem reseat_walk (b m' g cp : Nat) (Q : Pla) (acc0 hs : List Sea) (a : Option Addr) (w : World) (h0 : ReI w w b m' Q acc0 hs 0 0) (hw : ∀ s ∈ hs, s.wf ∧ s.st ≠ 0) (hrow : 0 < hs.length → a = some ⟨g, 0, none⟩ ∧ RowE w g hs ∧ g ≠ b ∧ g ≠ m')
  (hl : hs.length ≤ 120) :
  Calls Try.prog 135 #[.pointer (some ⟨b, 0, none⟩), .slice a hs.length cp] w fun e w' => e = .returned (.tuple #[]) ∧ ∃ k, ReI w w' b m' Q acc0 hs hs.length k := by
 have HW := hide hw
 have HROW := hide hrow
 have H0 := hide h0
 have hbl : b < w.heap.size ∧ m' < w.heap.size := by
  obtain ⟨es', clock', hf⟩ := h0.fl
  exact ⟨hf.has.lt, (Array.getElem?_eq_some_iff.1 hf.map).1⟩
 obtain ⟨hlt, hlm⟩ := hbl
 have HLEN := hide fun (wr : World) (n k : Nat) (hR : ReI w wr b m' Q acc0 hs n k) => (show (accN acc0 hs n).length ≤ 120 from Fli.wf.len_le hR.re.wf)
 have HLOOK := hide fun (wr : World) (n k : Nat) (hR : ReI w wr b m' Q acc0 hs n k) (hk : k < (accN acc0 hs n).length) =>
  (show ∃ r c st pa cl un : Int, (∀ W, Mod No wr W → Calls Try.prog 68 #[.pointer (some ⟨b, 0, none⟩), .int .i64 (k : Int)] W fun e w' => e = .returned (.agg #[.int .i64 r, .int .i64 c]) ∧ Mod No W w') ∧
   (∀ W, Mod No wr W → (Instr.lookup 136 (.map (some m')) (.agg #[.int .i64 r, .int .i64 c]) false).run Try.prog W = .ok (.agg #[.int .i64 st, .int .i64 pa, .int .i64 cl, .int .i64 un]) W) ∧
   (∀ W, Mod No wr W → W.cell? ⟨b, 7, none⟩ = some (.map (some m'))) ∧
   (st ≠ 0 → ReI w wr b m' Q acc0 hs n (k + 1)) ∧
   (st = 0 → ∀ (hn : n < hs.length) W, Mod No wr W → Calls Try.prog 102 #[.pointer (some ⟨b, 0, none⟩), .agg #[.int .i64 r, .int .i64 c], .agg #[.int .i64 hs[n].st, .int .i64 hs[n].pa, .int .i64 hs[n].cl, .int .i64 hs[n].un]] W fun e w' =>
    e = .returned (.tuple #[]) ∧ ReI w w' b m' Q acc0 hs (n + 1) k ∧ Mod (fun k => k = b ∨ k = m') W w') from by
  obtain ⟨es', clock', hf⟩ := hR.fl
  have hwf := hR.re.wf
  have hB := hwf.bounds
  simp only at hB
  obtain ⟨C, hC⟩ : ∃ C : Nat, Q.cols = (C : Int) := ⟨Q.cols.toNat, by omega⟩
  have hl120 := Fli.wf.len_le hwf
  simp only at hl120
  have hk' : k < ((hs.take n).foldl reseatStep acc0).length := hk
  refine ⟨((hs.take n).foldl reseatStep acc0)[k].row, ((hs.take n).foldl reseatStep acc0)[k].col, ((hs.take n).foldl reseatStep acc0)[k].st, ((hs.take n).foldl reseatStep acc0)[k].pa, ((hs.take n).foldl reseatStep acc0)[k].cl, ((hs.take n).foldl reseatStep acc0)[k].un, fun W hW => ?_, fun W hW => seesX hf hwf k hk' W hW, fun W hW => ?_, fun h => hR.on hk' h, fun h hn W hW => (hR.still hW).put hw hn hk' h⟩
  ·have := placeAt_walk b _ _ C k W (hW.has hf.has (fun x => x)) (by rw [← hC]; rfl) (by omega) (by omega)
   have hp := hwf.place k hk'
   simp only at hp
   rw [hp.1, hp.2, hC]
   exact this
  ·rw [(hW.has hf.has (fun x => x)).cell]; rfl)
 have HLT := hide fun (wr : World) (n k : Nat) (hR : ReI w wr b m' Q acc0 hs n k) (hn : n < hs.length) (hk : k ≤ (accN acc0 hs n).length) => (show k < (accN acc0 hs n).length from hR.lt hn hk)
 have HNEXT := hide fun (n : Nat) (hn : n < hs.length) => (show (accN acc0 hs (n + 1)).length = (accN acc0 hs n).length from by
  unfold accN; rw [fold_take hn]; unfold reseatStep; rw [List.length_set])
 clear h0 hw hrow
 go_enter Try.func135, Try.ntmps135
 go_wp2_with fail
 go_loopw [4, 9] (fun s4 s9 wr => ∃ n k : Nat, s9 = .int .i64 (n : Int) ∧ n ≤ hs.length ∧ s4 = .int .i64 (k : Int) ∧ k ≤ (accN acc0 hs n).length ∧ Hid (ReI w wr b m' Q acc0 hs n k)) (fun _ s9 _ => hs.length - (intOf s9).toNat)
 case atStart => exact ⟨0, 0, rfl, by omega, rfl, by omega, H0⟩
 case round =>
  obtain ⟨n, k, rfl, hn, rfl, hk, R1⟩ := hrel
  by_cases h1 : n < hs.length
  ·have h1i : (n : Int) < (hs.length : Int) := by omega
   have hw3 : IntKind.i64.wrap ((n : Int) + 1) = ((n + 1 : Nat) : Int) := by rw [wrap_id _ (by omega) (by omega)]; rfl
   obtain ⟨rfl, hrw, hgb, hgm⟩ := (unhide HROW) (by omega)
   have hrw2 := hrw.mod (unhide R1).mod (by rintro (e | e); exact hgb e; exact hgm e)
   obtain ⟨cs, hg, hcs⟩ := hrw2.cur
   obtain ⟨c0, c1, c2, c3⟩ := hcs n h1
   have hgl := hg.lt
   rw [← hg.cell] at c0 c1 c2 c3
   have HG := hide hg
   obtain ⟨sn, hsn⟩ : ∃ s, hs[n] = s := ⟨_, rfl⟩
   rw [hsn] at c0 c1 c2 c3
   obtain ⟨sr, sc, st0, pa0, cl0, un0⟩ := sn
   simp only at c0 c1 c2 c3
   have LK := hide fun (wr : World) (k : Nat) (hR : ReI w wr b m' Q acc0 hs n k) (hk : k < (accN acc0 hs n).length) =>
    (show ∃ r c st pa cl un : Int, (∀ W, Mod No wr W → Calls Try.prog 68 #[.pointer (some ⟨b, 0, none⟩), .int .i64 (k : Int)] W fun e w' => e = .returned (.agg #[.int .i64 r, .int .i64 c]) ∧ Mod No W w') ∧
     (∀ W, Mod No wr W → (Instr.lookup 136 (.map (some m')) (.agg #[.int .i64 r, .int .i64 c]) false).run Try.prog W = .ok (.agg #[.int .i64 st, .int .i64 pa, .int .i64 cl, .int .i64 un]) W) ∧
     (∀ W, Mod No wr W → W.cell? ⟨b, 7, none⟩ = some (.map (some m'))) ∧
     (st ≠ 0 → ReI w wr b m' Q acc0 hs n (k + 1)) ∧
     (st = 0 → ∀ W, Mod No wr W → Calls Try.prog 102 #[.pointer (some ⟨b, 0, none⟩), .agg #[.int .i64 r, .int .i64 c], .agg #[.int .i64 st0, .int .i64 pa0, .int .i64 cl0, .int .i64 un0]] W fun e w' =>
      e = .returned (.tuple #[]) ∧ ReI w w' b m' Q acc0 hs (n + 1) k ∧ Mod (fun k => k = b ∨ k = m') W w') from by
    obtain ⟨r, c, st, pa, cl, un, q1, q2, q3, q4, q5⟩ := (unhide HLOOK) wr n k hR hk
    refine ⟨r, c, st, pa, cl, un, q1, q2, q3, q4, fun h W hW => ?_⟩
    have := q5 h h1 W hW
    rw [hsn] at this
    exact this)
   have LT := hide fun (wr : World) (k : Nat) (hR : ReI w wr b m' Q acc0 hs n k) (hk : k ≤ (accN acc0 hs n).length) => (unhide HLT) wr n k hR h1 hk
   have LN := hide ((unhide HNEXT) n h1)
   have LL := hide ((unhide HLEN) _ _ _ (unhide R1))
   have HH1 := hide h1
   have HG := hide hg
   have HN := hide hn
   have HGB := hide (And.intro hgb hgm)
   clear hrw hrw2 hcs hg hgb hgm hsn HLOOK HLT HNEXT HLEN hn
   clear h1
   go_wp2_with fail
   have R2 := hide ((unhide R1).still ((Mod.refl No wr).alloc (.cells #[.int .i64 st0, .int .i64 pa0, .int .i64 cl0, .int .i64 un0] 170)))
   have B2 := hide (Has.new wr #[.int .i64 st0, .int .i64 pa0, .int .i64 cl0, .int .i64 un0] 170)
   have hbw : b ≠ wr.heap.size ∧ m' ≠ wr.heap.size := by have := (unhide R1).mod.size; omega
   have HBW := hide hbw
   clear hbw c0 c1 c2 c3
   generalize hwx0 : wr.alloc (.cells #[.int .i64 st0, .int .i64 pa0, .int .i64 cl0, .int .i64 un0] 170) = wx0 at *
   clear hwx0
   generalize hgb : wr.heap.size = sb at *
   clear hgb
   go_loopw [4] (fun s4 wx => ∃ k : Nat, s4 = .int .i64 (k : Int) ∧ k ≤ (accN acc0 hs n).length ∧ Hid (ReI w wx b m' Q acc0 hs n k) ∧ Hid (Has wx sb #[.int .i64 st0, .int .i64 pa0, .int .i64 cl0, .int .i64 un0] 170)) (fun s4 _ => (accN acc0 hs n).length - (intOf s4).toNat)
   case atStart => exact ⟨k, rfl, hk, R2, B2⟩
   case round =>
    obtain ⟨k, rfl, hk, R3, B3⟩ := hrel
    have hk2 := (unhide LT) _ k (unhide R3) hk
    obtain ⟨r, c, st, pa, cl, un, q1, q2, q3, q4, q5⟩ := (unhide LK) _ k (unhide R3) hk2
    have Q1 := hide q1
    have Q5 := hide q5
    have Q4 := hide q4
    have hL : ∀ x : Wd wr, (Instr.lookup 136 (.map (some m')) (.agg #[.int .i64 r, .int .i64 c]) false).run Try.prog x.W = .ok (.agg #[.int .i64 st, .int .i64 pa, .int .i64 cl, .int .i64 un]) x.W := fun x => q2 _ x.h
    have h7 : ∀ x : Wd wr, x.W.cell? ⟨b, 7, none⟩ = some (.map (some m')) := fun x => q3 _ x.h
    have hne := wd_ne wr
    have HK2 := hide hk2
    have LL2 := unhide LL
    clear q1 q2 q3 q4 q5 hk2
    by_cases h0 : st = 0
    ·have HZ := hide h0
     subst h0
     go_wp2_with fail
     refine wp_region_wd (w0 := wr) (by kernel_rfl) (by kernel_rfl) (Mod.refl _ _) ?_
     repeat (go_big_quiet_step ((go_at_call 68; exact Calls.wd _ ((unhide Q1) _ (Wd.h _)))))
     refine wpQuiet_nil ?_
     rintro w3 ⟨⟨_, hm3⟩, rfl⟩
     have R4 := hide ((unhide R3).still hm3)
     have B4 := hide (hm3.has (unhide B3) (fun x => x))
     have M3 := hide hm3
     clear hm3 hL h7 hne R2 B2
     go_wp2_with fail
     have b4 := (unhide B4).cell
     have l4 := (unhide B4).lt
     have GP := hide fun W (hW : Mod No w3 W) => (unhide Q1) W ((unhide M3).trans hW)
     have GU := hide fun W (hW : Mod No w3 W) => (unhide Q5) (by trivial) W ((unhide M3).trans hW)
     have M0 := hide (Mod.refl No w3)
     go_region_with (first
       |(go_at_call 68; refine ((unhide GP) _ (unhide M0).drew).mono ?_; rintro e w5 ⟨rfl, hm5⟩; have b5 := (hm5.has (unhide B4).drew (fun x => x)).cell; have l5 := (hm5.has (unhide B4).drew (fun x => x)).lt)
       |(go_at_call 102; refine ((unhide GU) _ ((unhide M0).drew.trans hm5)).mono ?_; rintro e w6 ⟨rfl, hr6, hm6⟩))
     all_goals go_wp2
     all_goals exact ⟨⟨n + 1, k, by trivial, by have := unhide HH1; omega, by trivial, by rw [unhide LN]; exact hk, hr6⟩, by simp [intOf]; have := unhide HH1; omega⟩
    ·have HZ := hide h0
     have hnz : (st != 0) = true := by simp [h0]
     have hw4 : IntKind.i64.wrap ((k : Int) + 1) = ((k + 1 : Nat) : Int) := by rw [wrap_id _ (by omega) (by omega)]; rfl
     clear h0
     go_wp2_with fail
     refine wp_region_wd (w0 := wr) (by kernel_rfl) (by kernel_rfl) (Mod.refl _ _) ?_
     repeat (go_big_quiet_step ((go_at_call 68; exact Calls.wd _ ((unhide Q1) _ (Wd.h _)))))
     refine wpQuiet_nil ?_
     rintro w3 ⟨⟨_, hm3⟩, rfl⟩
     have R4 := hide (((unhide Q4) (unhide HZ)).still hm3)
     have B4 := hide (hm3.has (unhide B3) (fun x => x))
     clear hm3 hL h7 hne R2 B2 R3 B3
     go_wp2
     exact ⟨⟨k + 1, rfl, by have := unhide HK2; omega, R4, B4⟩, by simp [intOf]; have := unhide HK2; omega⟩
  ·have hii : n = hs.length := by omega
   subst hii
   have h1i : ¬ ((hs.length : Nat) : Int) < (hs.length : Int) := by omega
   go_wp2
   go_end0
   exact ⟨rfl, k, unhide R1⟩
def zeroFl : Array Value := #[.int .i64 0, .int .i64 0, .int .i64 0, .int .i64 0, .int .i64 0, .int .i64 0, .int .i64 0, .map none, .int .i64 0, .int .i64 0, .int .i64 0, .int .i64 0, .int .i64 0, .int .i64 0, .int .i64 0, .int .i64 0, .int .i64 0, .int .i64 0, .int .i64 0, .int .i64 0, .int .i64 0, .int .i64 0, .int .i64 0, .int .i64 0, .int .i64 0]
theorem oneFl (p : Pla) (m : Option Nat) (l : List Sea) : (fcells p (.map m) l).all (·.oneCell') = true := by simp [fcells, fcf, fcs, Value.oneCell']
theorem rowFl : (Try.prog.underlying 138).map (·.isRow) = some true := by kernel_rfl
theorem sizeFl : (Try.prog.info? 138).map (·.size) = some 25 := by kernel_rfl
def swapPre (p q : Pla) : Pla := ⟨q.rows, q.cols, q.front, p.l0, p.l1, p.l2, p.l3, p.ep⟩
theorem settle_reseat {b m m' clock clock0 : Nat} {p Q : Pla} {l : List Sea} {es es0 : List MEnt} {w w' : World} {v : Value} (hS : SetI w w' b m m' clock p Q l es v l.length) (hwf : Wf p l) (h1 : Q.sized = true) (h2 : Q.limited = true) (hn : ¬ Q.rows * Q.cols < (nFull l : Int)) (hbl : b < w.heap.size) (hml : m' < w.heap.size) :
  ∃ a cp, v = .slice a (homeless Q l).length cp ∧ Calls Try.prog 135 #[.pointer (some ⟨b, 0, none⟩), .slice a (homeless Q l).length cp] w' fun e w2 => e = .returned (.tuple #[]) ∧ (∃ es' clock', FlX w2 b Q (swapSeats Q l) m' es' clock') ∧ Mod (fun k => k = b ∨ k = m') w' w2 := by
 have hrow := hS.row
 have hfl := hS.fl
 rw [List.take_length] at hrow hfl
 obtain ⟨a, cp, rfl⟩ := slice_of_owns hrow
 refine ⟨a, cp, rfl, ?_⟩
 have h0 : ReI w' w' b m' Q (stay Q l) (homeless Q l) 0 0 := ⟨hfl, reseat_start hwf h1 h2 hn, fun j h hj => by omega, Mod.refl _ _⟩
 have hlen : (homeless Q l).length ≤ 120 := Nat.le_trans (List.length_filter_le _ _) (Fli.wf.len_le hwf)
 by_cases hpos : 0 < (homeless Q l).length
 ·obtain ⟨g, cp', hv, hE⟩ := rowE_of hrow hpos
  injection hv with e1 e2 e3
  subst e1 e3
  have hg := hS.new g rfl
  refine (reseat_walk b m' g cp Q (stay Q l) (homeless Q l) _ w' h0 (homeless_ok hwf) (fun _ => ⟨rfl, hE, by omega, by omega⟩) hlen).mono ?_
  rintro e w2 ⟨rfl, k, hR⟩
  have hfl := hR.fl
  rw [List.take_length] at hfl
  exact ⟨rfl, hfl, hR.mod⟩
 ·refine (reseat_walk b m' 0 cp Q (stay Q l) (homeless Q l) _ w' h0 (homeless_ok hwf) (fun h => absurd h hpos) hlen).mono ?_
  rintro e w2 ⟨rfl, k, hR⟩
  have hfl := hR.fl
  rw [List.take_length] at hfl
  exact ⟨rfl, hfl, hR.mod⟩
theorem refit_any {S : Nat → Prop} {b : Nat} {p q : Pla} {l : List Sea} {w : World} (h : FlH w S b p l) (hwf : Wf p l) (h1 : q.sized = true) (hn : ¬ q.rows * q.cols < (nFull l : Int)) :
  Calls Try.prog 134 #[.agg #[.int .i64 q.rows, .int .i64 q.cols, .int .i64 q.front], .pointer (some ⟨b, 0, none⟩)] w fun e w' =>
   e = .returned (.tuple #[]) ∧ FlH w' (fun k => k = b ∨ w.heap.size ≤ k) b (swapPla p q) (swapSeats (swapPla p q) l) ∧ Mod (fun k => k = b) w w' := by
 obtain ⟨m, es, clock, f1, f2, f3, f4, f5, f6⟩ := h
 have hx : FlX w b p l m es clock := ⟨f1, f2, f3, f4⟩
 have hlt := f1.lt
 have hml := (Array.getElem?_eq_some_iff.1 f2).1
 have hbm := f1.map_ne f2
 have hQ1 : (swapPre p q).sized = true := h1
 have hQ2 : (swapPre p q).limited = true := hwf.limited
 have HX := hide hx
 have H1 := hide h1
 have HFIT := hide fun W (hW : Mod No w W) => (show Calls Try.prog 131 #[.pointer (some ⟨b, 0, none⟩), .agg #[.int .i64 q.rows, .int .i64 q.cols, .int .i64 q.front, .int .i64 p.l0, .int .i64 p.l1, .int .i64 p.l2, .int .i64 p.l3]] W fun e w' =>
   e = .returned (.tuple #[]) ∧ (∃ m' es0 clock0, FlX w' b (swapPre p q) (emptySeats (swapPre p q)) m' es0 clock0 ∧ W.heap.size ≤ m') ∧ Mod (fun k => k = b) W w' from by
  refine (fit_any (p := swapPre p q) p.ep ⟨_, _, _, _, _, _, _, _, _, _, _, _, _, _, _, _, _, _, _, _, _, _, _, _, hW.has f1 (fun x => x)⟩ hQ1 hQ2).mono ?_
  rintro e w' ⟨rfl, ⟨m', es0, clock0, g1, g2, g3, g4, g5, g6⟩, hm⟩
  have := g1.map_ne g2
  exact ⟨rfl, ⟨m', es0, clock0, ⟨g1, g2, g3, g4⟩, by rcases g6 with h | h; exact absurd h this; exact h⟩, hm⟩)
 have HSET := hide fun (W : World) (m' clock0 : Nat) (es0 : List MEnt) (hf : FlX W b (swapPre p q) (emptySeats (swapPre p q)) m' es0 clock0) (hm : W.heap[m]? = some (mapObj es clock)) (hmm : m ≠ m') =>
  settle_walk b m m' clock clock0 p (swapPre p q) l es es0 W hf hm f3 f4 hwf hQ1 hQ2 hmm
 have HRES := hide fun (W w' : World) (m' : Nat) (v : Value) (hS : SetI W w' b m m' clock p (swapPre p q) l es v l.length) (hb : b < W.heap.size) (hm' : m' < W.heap.size) => settle_reseat (clock0 := 0) (es0 := []) hS hwf hQ1 hQ2 hn hb hm'
 clear h1 hn hwf f3 f4 f5 f6 hQ1 hQ2 hx
 have F1 := hide f1
 have F2 := hide f2
 clear f1 f2
 go_enter Try.func134, Try.ntmps134
 go_upto_region 1 with fail
 have mA : Mod No w (w.alloc (.cells #[.int .i64 q.rows, .int .i64 q.cols, .int .i64 q.front] 182)) := (Mod.refl _ w).alloc _
 have FA := hide (mA.has (unhide F1) (fun x => x))
 have lA := (unhide FA).lt
 have MA := hide mA
 have BA := hide (Has.new w #[.int .i64 q.rows, .int .i64 q.cols, .int .i64 q.front] 182)
 have hsA : (w.alloc (.cells #[.int .i64 q.rows, .int .i64 q.cols, .int .i64 q.front] 182)).heap.size = w.heap.size + 1 := World.size_alloc ..
 clear mA
 generalize hwA : w.alloc (.cells #[.int .i64 q.rows, .int .i64 q.cols, .int .i64 q.front] 182) = wA at *
 clear hwA
 have ZB := hide (show Has (wA.alloc (.cells #[.int .i64 0, .int .i64 0, .int .i64 0, .int .i64 0, .int .i64 0, .int .i64 0, .int .i64 0, .map none, .int .i64 0, .int .i64 0, .int .i64 0, .int .i64 0, .int .i64 0, .int .i64 0, .int .i64 0, .int .i64 0, .int .i64 0, .int .i64 0, .int .i64 0, .int .i64 0, .int .i64 0, .int .i64 0, .int .i64 0, .int .i64 0, .int .i64 0] 138)) (w.heap.size + 1) zeroFl 138 from by have := Has.new wA zeroFl 138; rw [hsA] at this; exact this)
 have MZ := hide ((unhide MA).alloc (.cells zeroFl 138))
 go_upto_region 2 with (first
  |(refine wpList_load_has rfl 138 _ rfl b 0 rfl (fcells p (.map (some m)) l) 138 (unhide FA) (fcells p (.map (some m)) l) (fun j v h => by rw [Nat.zero_add]; simpa using h) rowFl sizeFl ?_)
  |(refine wpList_store_has rfl 138 _ _ rfl (w.heap.size + 1) (fcells p (.map (some m)) l) rfl rfl zeroFl 138 (unhide ZB) rfl sizeFl (oneFl p _ l) ?_; intro w5 h5 m5))
 have M5 := hide ((unhide MZ).trans' m5 (fun i hi hl => by omega))
 have B5 := hide (m5.has ((unhide BA).alloc (.cells zeroFl 138)) (by omega))
 have O5 := hide h5
 have X5 := hide (show FlX w5 b p l m es clock from by
  have := unhide HX
  exact ⟨(unhide M5).has this.has (fun x => x), (unhide M5).map this.map (fun x => x), this.ok, this.rel⟩)
 clear m5 h5 ZB MZ
 have b5 := (unhide B5).cell
 have o3 := (unhide O5).cell 3
 rw [show (fcells p (.map (some m)) l)[3]? = some (.int .i64 p.l0) from rfl] at o3
 have o4 := (unhide O5).cell 4
 rw [show (fcells p (.map (some m)) l)[4]? = some (.int .i64 p.l1) from rfl] at o4
 have o5 := (unhide O5).cell 5
 rw [show (fcells p (.map (some m)) l)[5]? = some (.int .i64 p.l2) from rfl] at o5
 have o6 := (unhide O5).cell 6
 rw [show (fcells p (.map (some m)) l)[6]? = some (.int .i64 p.l3) from rfl] at o6
 go_wp2_with fail
 refine ((unhide HFIT) _ (unhide M5)).mono ?_
 rintro e w6 ⟨rfl, ⟨m', es0, clock0, x6, hm'⟩, m6⟩
 clear b5 o3 o4 o5 o6
 have s5 := (unhide O5).lt
 have hmm : m ≠ m' := by omega
 have F6 := hide (m6.map (unhide X5).map (fun e => hbm e))
 have O6 := hide (m6.has (unhide O5) (fun e => by omega))
 have X6 := hide x6
 have M6 := hide (((unhide M5).mono (S' := fun k => k = b) (fun _ _ x => x.elim)).trans m6)
 have l6 := x6.has.lt
 have lm6 := (Array.getElem?_eq_some_iff.1 x6.map).1
 have HM' := hide (show w.heap.size ≤ m' from by have := (unhide M5).size; omega)
 have hbm' := x6.has.map_ne x6.map
 clear x6 m6 X5 B5 O5
 go_wp2_with (first
  |(refine wpList_load_has rfl 138 _ rfl (w.heap.size + 1) 0 rfl (fcells p (.map (some m)) l) 138 (unhide O6) (fcells p (.map (some m)) l) (fun j v h => by rw [Nat.zero_add]; simpa using h) rowFl sizeFl ?_))
 refine ((unhide HSET) _ m' clock0 es0 (unhide X6) (unhide F6) hmm).mono ?_
 rintro e w7 ⟨v, rfl, hS⟩
 have M7 := hide hS.mod
 obtain ⟨a, cp, rfl, hR⟩ := (unhide HRES) _ _ m' v hS l6 lm6
 have HR := hide hR
 clear hR hS HRES HSET HFIT
 go_wp2_with fail
 refine (unhide HR).mono ?_
 rintro e w8 ⟨rfl, ⟨es9, clock9, x8⟩, m8⟩
 have hfin : FlH w8 (fun k => k = b ∨ w.heap.size ≤ k) b (swapPre p q) (swapSeats (swapPre p q) l) := ⟨m', es9, clock9, x8.has, x8.map, x8.ok, x8.rel, .inl rfl, .inr (unhide HM')⟩
 have M8 := hide ((unhide M7).trans m8)
 obtain ⟨c24, z24, l24⟩ : w8.cell? ⟨b, 24, none⟩ = some (.int .i64 p.ep) ∧ w8.frozen? ⟨b, 24, none⟩ = false ∧ b < w8.heap.size := hfin.cell24
 have wE := nx_eq p.ep
 have HB := hide (show FlH (w8.setCell ⟨b, 24, none⟩ (.int .i64 (nx p.ep))) (fun k => k = b ∨ w.heap.size ≤ k) b (swapPla p q) (swapSeats (swapPla p q) l) from hfin.bump.1)
 clear hfin x8 m8 HR
 go_wp2
 go_end0
 refine ⟨rfl, unhide HB, ?_⟩
 exact (((unhide M6).trans' (unhide M8) (fun i hi hl => by rcases hi with e | e; exact e; have := unhide HM'; omega))).at 24 _
open Go.RowKit
def doK (now : Int) (fl : Nat → Option (Pla × List Sea)) (c : Cmd) : Int × Int × (Nat → Option (Pla × List Sea)) :=
 if c.kind < 1 ∨ c.kind > 9 then (1, now, fl)
 else if c.kind = 8 then (if 1 ≤ c.time ∧ c.time ≤ 100 then (0, now + c.time, fun n => (fl n).map (tickF (now + c.time))) else (8, now, fl))
 else if ¬ (1 ≤ c.flight ∧ c.flight ≤ 20) then (2, now, fl)
 else match fl c.flight.toNat with
  | none => if c.kind = 1 then (if c.pla.sized = true ∧ c.pla.limited = true then (0, now, fun j => if j = c.flight.toNat then some (c.pla.at 1, emptySeats c.pla) else fl j) else (4, now, fl)) else (2, now, fl)
  | some x => if c.kind = 1 then (3, now, fl) else if seatErr x.1 x.2 c now = 0 then (0, now, fun j => if j = c.flight.toNat then some (planNew x.1 c, seatNew x.1 x.2 c) else fl j) else (seatErr x.1 x.2 c now, now, fl)
structure KeepH (w : World) (ow : Nat → Nat) (kb : Nat) (now : Int) (fl : Nat → Option (Pla × List Sea)) : Prop where
 ex : ∃ pt, KeepX w ow kb now pt fl
structure KeptX (w w' : World) (ow : Nat → Nat) (kb : Nat) (pt : Nat → Option Nat) (now : Int) (fl : Nat → Option (Pla × List Sea)) : Prop where
 keep : ∃ ow' pt', KeepX w' ow' kb now pt' fl ∧ (∀ k, k < w.heap.size → ow' k = ow k) ∧ ∀ i, 21 ≤ i → pt' i = pt i
 mod : Mod (fun k => ow k ≠ 0 ∧ ow k < 30) w w'
theorem apply_start {w : World} {ow : Nat → Nat} {kb : Nat} {now : Int} {pt : Nat → Option Nat} {fl : Nat → Option (Pla × List Sea)} (h : KeepX w ow kb now pt fl) (n : Nat) (hn : 1 ≤ n ∧ n ≤ 20) (hfl : fl n = none) (p : Pla) (h1 : p.sized = true) (h2 : p.limited = true) :
  Calls Try.prog 50 #[.pointer (some ⟨kb, 0, none⟩), .agg #[.int .i64 n, startV p]] w fun e w' =>
   e = .returned (.tuple #[]) ∧ KeptX w w' ow kb pt now (fun j => if j = n then some (p.at 1, emptySeats p) else fl j) := by
 refine apply_new kb n hn now pt p w _ h.has (h.gone n (by omega) hfl) (fun W hW hk hb => ?_)
 have hs : w.heap.size ≤ W.heap.size := hW.size
 have hbl := hb.lt
 refine (start_any hb h1 h2).mono ?_
 rintro e w' ⟨rfl, hf, hm⟩
 refine ⟨rfl, ⟨fun k => if k < w.heap.size then ow k else if k = w.heap.size + 2 ∨ (W.heap.size ≤ k ∧ k < w'.heap.size) then n + 2 else 0, updP pt n (w.heap.size + 2), ?_, fun k hk => by simp [hk], fun i hi => by simp only [updP]; rw [if_neg (by omega)]⟩, ?_⟩
 ·have kl : kb < w.heap.size := h.has.lt
  have hm' : Mod (fun k => k = w.heap.size + 2) W w' := hm
  have hsz : W.heap.size ≤ w'.heap.size := hm.size
  refine ⟨hm'.has hk (by omega), by simp [kl, h.mine], fun k hk' => ?_, fun j hj hn' => ?_, fun j p' l' hj hn' => ?_⟩
  ·split at hk'
   ·omega
   ·split at hk'
    ·rename_i e; rcases e with e | e <;> omega
    ·exact absurd rfl hk'
  ·by_cases e : j = n
   ·rw [if_pos e] at hn'; exact absurd hn' (by simp)
   ·rw [if_neg e] at hn'
    simp only [updP, if_neg e]
    exact h.gone j hj hn'
  ·by_cases e : j = n
   ·rw [if_pos e] at hn'
    simp only [Option.some.injEq, Prod.mk.injEq] at hn'
    obtain ⟨rfl, rfl⟩ := hn'
    subst e
    refine ⟨w.heap.size + 2, by simp [updP], (empty_wf h1 h2).at 1, ?_⟩
    refine hf.narrow.wide (fun k ⟨hk1, hk2⟩ => ?_)
    have : ¬ k < w.heap.size := by rcases hk1 with e | e <;> omega
    have h3 : k = w.heap.size + 2 ∨ (W.heap.size ≤ k ∧ k < w'.heap.size) := by rcases hk1 with e | e; exact .inl e; exact .inr ⟨e, hk2⟩
    simp only [if_neg this, if_pos h3]
   ·rw [if_neg e] at hn'
    obtain ⟨b', e1, e2, e3⟩ := h.here j p' l' hj hn'
    refine ⟨b', by simp only [updP, if_neg e]; exact e1, e2, ?_⟩
    have f1 : FlH W (fun k => ow k = j + 2) b' p' l' := e3.mod hW (fun k hk' e => by subst e; rw [h.mine] at hk'; omega)
    have f2 : FlH w' (fun k => ow k = j + 2) b' p' l' := f1.mod hm' (fun k hk' e => by
     subst e
     have := h.old _ (show ow (w.heap.size + 2) ≠ 0 by omega)
     omega)
    refine f2.wide (fun k hk' => ?_)
    have := h.old k (by omega)
    simp only [if_pos this]
    exact hk'
 ·refine (hW.mono (fun k _ (e : k = kb) => by subst e; show ow k ≠ 0 ∧ ow k < 30; rw [h.mine]; omega)).trans' hm (fun i (e : i = w.heap.size + 2) hl => by omega)
theorem refit_keep {w : World} {ow : Nat → Nat} {kb : Nat} {now : Int} {pt : Nat → Option Nat} {fl : Nat → Option (Pla × List Sea)} (h : KeepX w ow kb now pt fl) (n : Nat) (hn : 1 ≤ n ∧ n ≤ 20) {p : Pla} {l : List Sea} (hfl : fl n = some (p, l)) (c : Cmd) (h9 : c.kind = 9) (he : seatErr p l c now = 0) :
  Calls Try.prog 50 #[.pointer (some ⟨kb, 0, none⟩), .agg #[.int .i64 n, changeV c]] w fun e w' =>
   e = .returned (.tuple #[]) ∧ KeptX w w' ow kb pt now (fun j => if j = n then some (planNew p c, seatNew p l c) else fl j) := by
 obtain ⟨b, hp, hwf, hf⟩ := h.here n p l (by omega) hfl
 have hc : (keepCells now pt)[1 + n]? = some (.pointer (some ⟨b, 0, none⟩)) := by rw [keep_at now pt n (by omega), hp]; rfl
 have hob : ow b = n + 2 := by obtain ⟨m, es, clock, _, _, _, _, q, _⟩ := hf; exact q
 have hbl : b < w.heap.size := by obtain ⟨m, es, clock, q, _⟩ := hf; exact q.lt
 have hq : c.pla.sized = true ∧ ¬ (c.pla.rows * c.pla.cols < (nFull l : Int)) := by
  unfold seatErr at he
  rw [if_pos h9] at he
  by_cases hq : c.pla.sized = true ∧ ¬ (c.pla.rows * c.pla.cols < (nFull l : Int))
  ·exact hq
  ·rw [if_neg hq] at he; exact absurd he (by omega)
 have ech : changeV c = refitV c.pla := by unfold changeV; rw [if_pos h9]
 have esn : seatNew p l c = swapSeats (swapPla p c.pla) l := by unfold seatNew; rw [if_pos h9]
 have epn : planNew p c = swapPla p c.pla := by unfold planNew; rw [if_pos h9]
 have hwf2 : Wf (swapPla p c.pla) (swapSeats (swapPla p c.pla) l) := swap_wf (q := swapPla p c.pla) hwf hq.1 hwf.limited hq.2
 rw [ech, esn, epn]
 unfold refitV
 refine apply_refit kb b n hn _ _ _ _ w _ h.has hc (fun W hW => (refit_any (hf.mod0 hW) hwf hq.1 hq.2).mono ?_)
 rintro e w' ⟨rfl, hf', hm⟩
 have hs : w.heap.size ≤ W.heap.size := hW.size
 have kl : kb < w.heap.size := h.has.lt
 have hsz : W.heap.size ≤ w'.heap.size := hm.size
 refine ⟨rfl, ⟨fun k => if k < w.heap.size then ow k else if W.heap.size ≤ k ∧ k < w'.heap.size then n + 2 else 0, pt, ?_, fun k hk => by simp [hk], fun _ _ => rfl⟩, (hW.mono (fun _ _ x => x.elim)).trans (hm.mono (fun k _ (e : k = b) => by subst e; show ow k ≠ 0 ∧ ow k < 30; omega))⟩
 refine ⟨hm.has (hW.has h.has (fun x => x)) (by intro e; have := h.mine; rw [e] at this; omega), by simp [kl, h.mine], fun k hk' => ?_, fun j hj hn' => ?_, fun j p' l' hj hn' => ?_⟩
 ·split at hk'
  ·omega
  ·split at hk'
   ·omega
   ·exact absurd rfl hk'
 ·by_cases e : j = n
  ·rw [if_pos e] at hn'; exact absurd hn' (by simp)
  ·rw [if_neg e] at hn'
   exact h.gone j hj hn'
 ·by_cases e : j = n
  ·rw [if_pos e] at hn'
   simp only [Option.some.injEq, Prod.mk.injEq] at hn'
   obtain ⟨rfl, rfl⟩ := hn'
   subst e
   refine ⟨b, hp, hwf2, hf'.narrow.wide (fun k ⟨hk1, hk2⟩ => ?_)⟩
   rcases hk1 with e | e
   ·subst e
    simp only [if_pos hbl]
    exact hob
   ·have : ¬ k < w.heap.size := by omega
    simp only [if_neg this, if_pos (And.intro e hk2)]
  ·rw [if_neg e] at hn'
   obtain ⟨b', e1, e2, e3⟩ := h.here j p' l' hj hn'
   refine ⟨b', e1, e2, ?_⟩
   have f2 : FlH w' (fun k => ow k = j + 2) b' p' l' := (e3.mod0 hW).mod hm (fun k hk' e => by subst e; omega)
   refine f2.wide (fun k hk' => ?_)
   have := h.old k (by omega)
   simp only [if_pos this]
   exact hk'
theorem flat6 : ∀ (l : List Sea) (j t : Nat) (hj : j < l.length) (ht : t < 6), (l.flatMap fillL)[j * 6 + t]? = (fillL l[j])[t]?
 | x :: l, 0, t, _, ht => by
  rw [List.flatMap_cons, Nat.zero_mul, Nat.zero_add, List.getElem?_append_left (by simpa [fillL] using ht)]
  rfl
 | x :: l, j + 1, t, hj, ht => by
  rw [List.flatMap_cons, List.getElem?_append_right (by simp [fillL]; omega)]
  have := flat6 l j t (by simpa using hj) ht
  rw [show (j + 1) * 6 + t - (fillL x).length = j * 6 + t by simp [fillL]; omega, this]
  rfl
theorem fill_cells {w : World} {a : Option Addr} {len cap : Nat} {l : List Sea} (h : w.ownsRow 0 180 6 (.slice a len cap) l.length (l.flatMap fillL)) (j : Nat) (hj : j < l.length) :
  ∃ g, a = some ⟨g, 0, none⟩ ∧ g < w.heap.size ∧ w.cell? ⟨g, j * 6, none⟩ = some (.int .i64 l[j].row) ∧ w.cell? ⟨g, j * 6 + 1, none⟩ = some (.int .i64 l[j].col) ∧ w.cell? ⟨g, j * 6 + 2, none⟩ = some (.int .i64 l[j].st) ∧ w.cell? ⟨g, j * 6 + 3, none⟩ = some (.int .i64 l[j].pa) ∧ w.cell? ⟨g, j * 6 + 4, none⟩ = some (.int .i64 l[j].cl) ∧ w.cell? ⟨g, j * 6 + 5, none⟩ = some (.int .i64 l[j].un) := by
 have h' := h
 rcases h.2 with ⟨h1, h2⟩ | ⟨g, cp, cur, hv, hr⟩
 ·omega
 ·injection hv with e1 e2 e3
  have hc := fun t (ht : t < 6) v (hv : (fillL l[j])[t]? = some v) => h.cells (by rw [e1]; rfl) (j * 6 + t) v (by rw [flat6 l j t hj ht]; exact hv)
  refine ⟨g, e1, (h'.lt g (by rw [e1]; rfl)).2, ?_, ?_, ?_, ?_, ?_, ?_⟩
  ·have := hc 0 (by omega) _ rfl
   rw [Addr.add_mid] at this
   simpa using this
  all_goals first
   |(have := hc 1 (by omega) _ rfl; rw [Addr.add_mid, Nat.zero_add] at this; exact this)
   |(have := hc 2 (by omega) _ rfl; rw [Addr.add_mid, Nat.zero_add] at this; exact this)
   |(have := hc 3 (by omega) _ rfl; rw [Addr.add_mid, Nat.zero_add] at this; exact this)
   |(have := hc 4 (by omega) _ rfl; rw [Addr.add_mid, Nat.zero_add] at this; exact this)
   |(have := hc 5 (by omega) _ rfl; rw [Addr.add_mid, Nat.zero_add] at this; exact this)
def putsL (p : Pla) (l : List Sea) (ss : List Sea) : List Sea := ss.foldl (fun l s => l.set (p.idx s.row s.col) s) l
theorem putsL_snoc (p : Pla) (l ss : List Sea) (s : Sea) : putsL p l (ss ++ [s]) = (putsL p l ss).set (p.idx s.row s.col) s := by
 unfold putsL
 rw [List.foldl_append]
 rfl
theorem putsL_len (p : Pla) (l : List Sea) : ∀ ss, (putsL p l ss).length = l.length := by
 intro ss
 unfold putsL
 induction ss generalizing l with
 | nil => rfl
 | cons s ss ih => rw [List.foldl_cons, ih, List.length_set]
def PutOk (p : Pla) (s : Sea) : Prop := s.wf ∧ p.has s.row s.col = true
theorem putsL_wf {p : Pla} : ∀ (ss : List Sea) {l : List Sea}, Wf p l → (∀ s ∈ ss, PutOk p s) → Wf p (putsL p l ss)
 | [], l, h, _ => h
 | s :: ss, l, h, hs => by
  have h1 := hs s (by simp)
  have hi : p.idx s.row s.col < l.length := Fli.wf.idx_lt h h1.2
  have hp := Fli.wf.idx_place h h1.2
  exact putsL_wf ss (Wf.set h hi h1.1 hp.1.symm hp.2.symm) (fun x hx => hs x (by simp [hx]))
theorem FlH.ep_set {w : World} {S : Nat → Prop} {b : Nat} {p : Pla} {l : List Sea} (h : FlH w S b p l) (e : Int) : FlH (w.setCell ⟨b, 24, none⟩ (.int .i64 e)) S b (p.at e) l ∧ Mod S w (w.setCell ⟨b, 24, none⟩ (.int .i64 e)) := by
 obtain ⟨m, es, clock, h1, h2, h3, h4, h5, h6⟩ := h
 refine ⟨⟨m, es, clock, h1.set 24 _, by rw [Below.heap_setCell _ _ _ _ (by exact h1.map_ne h2)]; exact h2, h3, ?_, h5, h6⟩, (Mod.refl _ w).setCell (p := ⟨b, 24, none⟩) (.inl h5) _⟩
 exact ⟨h4.1, h4.2, h4.3⟩
theorem FlH.ep_cell {w : World} {S : Nat → Prop} {b : Nat} {p : Pla} {l : List Sea} (h : FlH w S b p l) : w.cell? ⟨b, 24, none⟩ = some (.int .i64 p.ep) ∧ w.frozen? ⟨b, 24, none⟩ = false ∧ b < w.heap.size := by
 obtain ⟨m, es, clock, h1, _⟩ := h
 exact ⟨h1.cell 24, h1.frozen 24, h1.lt⟩
theorem Wf.ep {p : Pla} {l : List Sea} (h : Wf p l) (e : Int) : Wf (p.at e) l := ⟨h.sized, h.limited, h.len, h.place, h.seat⟩
theorem whole_do {b : Nat} {p : Pla} {w : World} {a : Option Addr} {cap : Nat} {ss : List Sea} (h : Has w b (fcs 0 0 0 0 0 0 0 (.map none) 0 0 0 0 0 0 0 0 0 0 0 0 0 0 0 0 0) 138) (h1 : p.sized = true) (h2 : p.limited = true) (hs : ∀ s ∈ ss, PutOk p s) (hl : ss.length ≤ 120)
  (hr : w.ownsRow 0 180 6 (.slice a ss.length cap) ss.length (ss.flatMap fillL)) (hb : ∀ g, (Value.slice a ss.length cap).ownBlock = some g → g ≠ b) :
  Calls Try.prog 132 #[.agg #[.int .i64 p.rows, .int .i64 p.cols, .int .i64 p.front, .int .i64 p.l0, .int .i64 p.l1, .int .i64 p.l2, .int .i64 p.l3, .slice a ss.length cap, .int .i64 p.ep], .pointer (some ⟨b, 0, none⟩)] w fun e w' =>
   e = .returned (.tuple #[]) ∧ FlH w' (fun k => k = b ∨ w.heap.size ≤ k) b p (putsL p (emptySeats p) ss) ∧ Mod (fun k => k = b) w w' := by
 have hbl := h.lt
 have HF := hide fun W (hW : AnyF W b 0) => fit_any (p := p) 0 hW h1 h2
 have H := hide h
 have m0 : Mod No w (w.alloc (.cells #[.int .i64 p.rows, .int .i64 p.cols, .int .i64 p.front, .int .i64 p.l0, .int .i64 p.l1, .int .i64 p.l2, .int .i64 p.l3, .slice a ss.length cap, .int .i64 p.ep] 177)) := (Mod.refl _ _).alloc _
 have C0 := hide (Has.new w #[.int .i64 p.rows, .int .i64 p.cols, .int .i64 p.front, .int .i64 p.l0, .int .i64 p.l1, .int .i64 p.l2, .int .i64 p.l3, .slice a ss.length cap, .int .i64 p.ep] 177)
 have HR := hide hr
 have HB := hide hb
 have HS := hide hs
 have HWF := hide (empty_wf h1 h2)
 have M0 := hide m0
 clear h hr hb hs m0 h1 h2
 go_enter Try.func132, Try.ntmps132
 go_wp2_with fail
 refine ((unhide HF) _ ⟨_, _, _, _, _, _, _, _, _, _, _, _, _, _, _, _, _, _, _, _, _, _, _, _, (unhide H).alloc _⟩).mono ?_
 rintro e w1 ⟨rfl, f1, m1⟩
 have F1 := hide (f1.wide (S' := fun k => k = b ∨ w.heap.size < k) (fun k hk => by rw [World.size_alloc] at hk; omega))
 have hcb : ¬ w.heap.size = b := by omega
 have C1 := hide (m1.has (unhide C0) hcb)
 have M1 := hide (((unhide M0).mono (S' := fun k => k = b) fun _ _ x => x.elim).trans m1)
 have c7 : w1.cell? ⟨w.heap.size, 7, none⟩ = some (.slice a ss.length cap) := (unhide C1).cell 7
 have cl := (unhide C1).lt
 clear f1 m1 H HF C0 M0
 go_wp2_with fail
 go_loopw [13] (fun s wr => ∃ i : Nat, s = .int .i64 i ∧ i ≤ ss.length ∧ Hid (FlH wr (fun k => k = b ∨ w.heap.size < k) b (p.at 0) (putsL p (emptySeats p) (ss.take i))) ∧ Hid (Mod (fun k => k = b) w wr) ∧ Hid (Has wr w.heap.size #[.int .i64 p.rows, .int .i64 p.cols, .int .i64 p.front, .int .i64 p.l0, .int .i64 p.l1, .int .i64 p.l2, .int .i64 p.l3, .slice a ss.length cap, .int .i64 p.ep] 177)) (fun s _ => ss.length - (intOf s).toNat)
 case atStart => exact ⟨0, rfl, by omega, F1, M1, C1⟩
 case round =>
  obtain ⟨i, rfl, hi, F2, M2, C2⟩ := hrel
  clear F1 M1 C1 c7 cl
  by_cases hlt : i < ss.length
  ·have hlt1 : (i : Int) < (ss.length : Int) := by omega
   have hnb : ∀ k, (Value.slice a ss.length cap).ownBlock = some k → ¬ k = b := unhide HB
   obtain ⟨g, rfl, hg, q0, q1, q2, q3, q4, q5⟩ := fill_cells ((unhide M2).owns (unhide HR) hnb) i hlt
   have hok := (unhide HS) ss[i] (List.getElem_mem hlt)
   have hwf1 : Wf p (putsL p (emptySeats p) (ss.take i)) := putsL_wf _ (unhide HWF) (fun s hs => (unhide HS) s (List.mem_of_mem_take hs))
   have hix : p.idx ss[i].row ss[i].col < (putsL p (emptySeats p) (ss.take i)).length := Fli.wf.idx_lt hwf1 hok.2
   have hpl := Fli.wf.idx_place hwf1 hok.2
   have HP := hide fun W (hW : FlH W (fun k => k = b ∨ w.heap.size < k) b (p.at 0) (putsL p (emptySeats p) (ss.take i))) => put_any hW (hwf1.ep 0) (p.idx ss[i].row ss[i].col) hix ss[i] hok.1 hpl.1.symm hpl.2.symm
   have HSN := hide (show (putsL p (emptySeats p) (ss.take i)).set (p.idx ss[i].row ss[i].col) ss[i] = putsL p (emptySeats p) (ss.take (i + 1)) by
    rw [← putsL_snoc, List.take_add_one, List.getElem?_eq_getElem hlt]
    rfl)
   have H120 := hide hl
   clear hok hwf1 hix hpl hnb
   generalize hsi : ss[i] = s at *
   clear hsi
   go_wp2_with fail
   have mA : Mod No wr (wr.alloc (.cells #[.int .i64 s.row, .int .i64 s.col, .int .i64 s.st, .int .i64 s.pa, .int .i64 s.cl, .int .i64 s.un] 180)) := (Mod.refl _ _).alloc _
   refine ((unhide HP) _ ((unhide F2).mod0 mA)).mono ?_
   rintro e w5 ⟨rfl, f5, m5⟩
   rw [unhide HSN] at f5
   have F5 := hide f5
   have M5 := hide (((unhide M2).trans (mA.mono fun _ _ x => x.elim)).trans' m5 (fun k hk hl => by omega))
   have C5 := hide (m5.has (mA.has (unhide C2) (fun x => x)) (by show ¬ (w.heap.size = b ∨ w.heap.size < w.heap.size); omega))
   have H12 := unhide H120
   clear f5 m5 mA
   go_wp2
   exact ⟨⟨i + 1, rfl, by omega, F5, M5, C5⟩, by simp [intOf]; omega⟩
  ·have hlt1 : ¬ (i : Int) < (ss.length : Int) := by omega
   obtain rfl : i = ss.length := by omega
   have c8 : wr.cell? ⟨w.heap.size, 8, none⟩ = some (.int .i64 p.ep) := (unhide C2).cell 8
   have cl := (unhide C2).lt
   obtain ⟨f24, z24, l24⟩ := (unhide F2).ep_cell
   have FE := hide ((unhide F2).ep_set p.ep)
   go_wp2_with fail
   go_end0
   have fe := (unhide FE).1
   rw [List.take_length] at fe
   exact ⟨rfl, fe.wide (fun k hk => by omega), (unhide M2).at 24 _⟩
end Go.Proofs.Ythhibagcpjeihaa
