import Derived.Test.YtlcbemcamdafjaaGreatCdoesSwap2
import Derived.Test.YtlcbemcamdafjaaGreatCdoesLook7Swap0
import Derived.Test.YtlcbemcamdafjaaGreatCdoesLook1Look2
import Derived.Deep.DeepCutAuto
/- Another plane: the homeless find seats. -/
namespace Go.Proofs.YtlcbemcamdafjaaGreat
open Go.RowKit Go.WideMaps
open Go.ChangeMaps (setBlock)
open M
set_option linter.unusedVariables false
set_option linter.unusedSimpArgs false
set_option maxRecDepth 100000
set_option maxHeartbeats 4000000

/-- A row of seats without their places, to be read. -/
structure RowE (w : World) (g : Nat) (hs : List Sea) : Prop where
  cur : ∃ cs, Has w g cs 179 ∧ ∀ i (h : i < hs.length), cs[i * 4]? = some (.int .i64 hs[i].st) ∧ cs[i * 4 + 1]? = some (.int .i64 hs[i].pa) ∧ cs[i * 4 + 2]? = some (.int .i64 hs[i].cl) ∧ cs[i * 4 + 3]? = some (.int .i64 hs[i].un)

/-- The flat form of a row: its cells. -/
theorem flat_at4 (f : Sea → List Value) (hf : ∀ x, (f x).length = 4) : ∀ (l : List Sea) (i : Nat) (h : i < l.length) (j : Nat), j < 4 → (l.flatMap f)[i * 4 + j]? = (f l[i])[j]?
  | [], i, h, _, _ => absurd h (Nat.not_lt_zero _)
  | x :: l, 0, h, j, hj => by
    rw [List.flatMap_cons, Nat.zero_mul, Nat.zero_add, List.getElem?_append_left (by rw [hf]; exact hj)]
    rfl
  | x :: l, i + 1, h, j, hj => by
    rw [List.flatMap_cons, List.getElem?_append_right (by rw [hf, Nat.add_mul]; omega), hf]
    rw [show (i + 1) * 4 + j - 4 = i * 4 + j by rw [Nat.add_mul, Nat.one_mul]; omega]
    exact flat_at4 f hf l i (by simpa using h) j hj

theorem rowE_of {w : World} {v : Value} {hs : List Sea} (h : w.ownsRow 0 179 4 v hs.length (hs.flatMap seL)) (hpos : 0 < hs.length) : ∃ g cp, v = .slice (some ⟨g, 0, none⟩) hs.length cp ∧ RowE w g hs := by
  obtain ⟨h0, h1 | ⟨g, cap, cur, hv, hb, hg, hn, hm, hsz, ht⟩⟩ := h
  · exact absurd h1.2 (by omega)
  · refine ⟨g, cap, hv, cur, hg, fun i hi => ?_⟩
    have hk : ∀ j, j < 4 → cur[i * 4 + j]? = (seL hs[i])[j]? := fun j hj => by
      have := flat_at4 seL seL_len hs i hi j hj
      rw [← ht, List.getElem?_take, if_pos (by omega)] at this
      rw [← Array.getElem?_toList, this]
    exact ⟨hk 0 (by omega), hk 1 (by omega), hk 2 (by omega), hk 3 (by omega)⟩

theorem RowE.mod {w w' : World} {g : Nat} {hs : List Sea} {S : Nat → Prop} (h : RowE w g hs) (hm : Mod S w w') (hg : ¬ S g) : RowE w' g hs := by
  obtain ⟨cs, h1, h2⟩ := h.cur
  exact ⟨cs, hm.has h1 hg, h2⟩

/-- While the homeless find seats: those behind n are still to come; the first k seats are taken. -/
structure ReI (w wr : World) (b m' : Nat) (Q : Pla) (acc0 : List Sea) (hs : List Sea) (n k : Nat) : Prop where
  fl : ∃ es' clock', FlX wr b Q ((hs.take n).foldl reseatStep acc0) m' es' clock'
  re : Reseat Q ((hs.take n).foldl reseatStep acc0) (hs.length - n)
  full : ∀ j (h : j < ((hs.take n).foldl reseatStep acc0).length), j < k → ((hs.take n).foldl reseatStep acc0)[j].st ≠ 0
  mod : Mod (fun k => k = b ∨ k = m') w wr

theorem ReI.still {w wr w2 : World} {b m' : Nat} {Q : Pla} {acc0 hs : List Sea} {n k : Nat} (h : ReI w wr b m' Q acc0 hs n k) (hm : Mod No wr w2) : ReI w w2 b m' Q acc0 hs n k := by
  obtain ⟨es', clock', hf⟩ := h.fl
  exact ⟨⟨es', clock', hm.has hf.has (fun x => x), hm.map hf.map (fun x => x), hf.ok, hf.rel⟩, h.re, h.full, h.mod.trans (hm.mono (fun _ _ x => x.elim))⟩

theorem firstFree_eq {acc : List Sea} {k : Nat} (hk : k < acc.length) (h0 : acc[k].st = 0) (hf : ∀ j (h : j < acc.length), j < k → acc[j].st ≠ 0) : firstFree acc = k := by
  unfold firstFree
  rw [List.findIdx_eq hk]
  refine ⟨by simp [h0], fun j hj => ?_⟩
  have := hf j (by omega) hj
  simpa using this

theorem reseatStep_at {acc : List Sea} {k : Nat} (hk : k < acc.length) (h0 : acc[k].st = 0) (hf : ∀ j (h : j < acc.length), j < k → acc[j].st ≠ 0) (s : Sea) : reseatStep acc s = acc.set k (Sea.at s acc[k]) := by
  unfold reseatStep
  rw [firstFree_eq hk h0 hf, List.getD_eq_getElem?_getD, List.getElem?_eq_getElem hk]
  rfl

theorem fold_take {acc0 hs : List Sea} {n : Nat} (hn : n < hs.length) : (hs.take (n + 1)).foldl reseatStep acc0 = reseatStep ((hs.take n).foldl reseatStep acc0) hs[n] := by
  rw [take_succ hs n hn, List.foldl_append]
  rfl

/-- The next seat is free: the next of the homeless takes it. -/
theorem ReI.put {w wr : World} {b m' : Nat} {Q : Pla} {acc0 hs : List Sea} {n k : Nat} (h : ReI w wr b m' Q acc0 hs n k) (hw : ∀ s ∈ hs, s.wf ∧ s.st ≠ 0) (hn : n < hs.length) (hk : k < ((hs.take n).foldl reseatStep acc0).length) (h0 : ((hs.take n).foldl reseatStep acc0)[k].st = 0) :
    Calls Tryz.prog 101 #[.pointer (some ⟨b, 0, none⟩), .agg #[.int .i64 ((hs.take n).foldl reseatStep acc0)[k].row, .int .i64 ((hs.take n).foldl reseatStep acc0)[k].col], .agg #[.int .i64 hs[n].st, .int .i64 hs[n].pa, .int .i64 hs[n].cl, .int .i64 hs[n].un]] wr fun e w' =>
      e = .returned (.tuple #[]) ∧ ReI w w' b m' Q acc0 hs (n + 1) k ∧ Mod (fun k => k = b ∨ k = m') wr w' := by
  obtain ⟨es', clock', hf⟩ := h.fl
  have hs' := hw _ (List.getElem_mem hn)
  have hff := firstFree_eq hk h0 h.full
  have hre : Reseat Q ((hs.take n).foldl reseatStep acc0) ((hs.length - (n + 1)) + 1) := by rw [show hs.length - (n + 1) + 1 = hs.length - n by omega]; exact h.re
  have hstep := Reseat.step hre hs'.1 hs'.2
  refine (put_exact hf h.re.wf k hk (Sea.at hs[n] ((hs.take n).foldl reseatStep acc0)[k]) (at_wf hs'.1) rfl rfl).mono ?_
  rintro e w' ⟨rfl, hf', hm'⟩
  have e1 : (hs.take (n + 1)).foldl reseatStep acc0 = ((hs.take n).foldl reseatStep acc0).set k (Sea.at hs[n] ((hs.take n).foldl reseatStep acc0)[k]) := by
    rw [fold_take hn]
    exact reseatStep_at hk h0 h.full _
  refine ⟨rfl, ⟨⟨_, _, by rw [e1]; exact hf'⟩, by rw [fold_take hn]; exact hstep, fun j hj hjk => ?_, h.mod.trans hm'⟩, hm'⟩
  simp only [e1] at hj ⊢
  rw [List.getElem_set_ne (by omega)]
  exact h.full j (by simpa using hj) hjk

theorem ReI.on {w wr : World} {b m' : Nat} {Q : Pla} {acc0 hs : List Sea} {n k : Nat} (h : ReI w wr b m' Q acc0 hs n k) (hk : k < ((hs.take n).foldl reseatStep acc0).length) (h0 : ((hs.take n).foldl reseatStep acc0)[k].st ≠ 0) : ReI w wr b m' Q acc0 hs n (k + 1) := by
  refine ⟨h.fl, h.re, fun j hj hjk => ?_, h.mod⟩
  by_cases e : j = k
  · subst e; exact h0
  · exact h.full j hj (by omega)

/-- There is a seat to come. -/
theorem ReI.lt {w wr : World} {b m' : Nat} {Q : Pla} {acc0 hs : List Sea} {n k : Nat} (h : ReI w wr b m' Q acc0 hs n k) (hn : n < hs.length) (hk : k ≤ ((hs.take n).foldl reseatStep acc0).length) : k < ((hs.take n).foldl reseatStep acc0).length := by
  have hre : Reseat Q ((hs.take n).foldl reseatStep acc0) ((hs.length - (n + 1)) + 1) := by rw [show hs.length - (n + 1) + 1 = hs.length - n by omega]; exact h.re
  have hl := firstFree_lt hre
  have h0 := firstFree_at hl
  rcases Nat.lt_or_ge (firstFree ((hs.take n).foldl reseatStep acc0)) k with h1 | h1
  · exact absurd h0 (h.full _ hl h1)
  · omega

theorem seesX {w : World} {b m clock : Nat} {p : Pla} {l : List Sea} {es : List MEnt} (h : FlX w b p l m es clock) (hwf : Wf p l) (i : Nat) (hi : i < l.length) (W : World) (hW : Mod No w W) :
    (Instr.lookup 152 (.map (some m)) (.agg #[.int .i64 l[i].row, .int .i64 l[i].col]) false).run Tryz.prog W = .ok (.agg #[.int .i64 l[i].st, .int .i64 l[i].pa, .int .i64 l[i].cl, .int .i64 l[i].un]) W := by
  have hplace := (hwf.place_has hi).1
  simp only [Pla.has, decide_eq_true_eq] at hplace
  obtain ⟨B1, B2, B3, B4, _⟩ := hwf.bounds
  simp only at B1 B2 B3 B4
  have := run_lookup W m es clock (hW.map h.map (fun x => x)) h.ok l[i].row l[i].col (by omega) (by omega)
  rw [h.rel.seat i hi] at this
  exact this
end Go.Proofs.YtlcbemcamdafjaaGreat
/- Another plane: the walk of the homeless. -/
namespace Go.Proofs.YtlcbemcamdafjaaGreat
open Go.RowKit Go.WideMaps
open Go.ChangeMaps (setBlock)
open M
set_option linter.unusedVariables false
set_option linter.unusedSimpArgs false
set_option maxRecDepth 100000
set_option maxHeartbeats 4000000
attribute [local go_sem] field171

/-- The seats that find a place, so far. -/
def accN (acc0 hs : List Sea) (n : Nat) : List Sea := (hs.take n).foldl reseatStep acc0

theorem reseat_walk (b m' g cp : Nat) (Q : Pla) (acc0 hs : List Sea) (a : Option Addr) (w : World) (h0 : ReI w w b m' Q acc0 hs 0 0) (hw : ∀ s ∈ hs, s.wf ∧ s.st ≠ 0) (hrow : 0 < hs.length → a = some ⟨g, 0, none⟩ ∧ RowE w g hs ∧ g ≠ b ∧ g ≠ m')
    (hl : hs.length ≤ 120) :
    Calls Tryz.prog 124 #[.pointer (some ⟨b, 0, none⟩), .slice a hs.length cp] w fun e w' => e = .returned (.tuple #[]) ∧ ∃ k, ReI w w' b m' Q acc0 hs hs.length k := by
  have HW := hide hw
  have HROW := hide hrow
  have H0 := hide h0
  have hbl : b < w.heap.size ∧ m' < w.heap.size := by
    obtain ⟨es', clock', hf⟩ := h0.fl
    exact ⟨hf.has.lt, (Array.getElem?_eq_some_iff.1 hf.map).1⟩
  obtain ⟨hlt, hlm⟩ := hbl
  -- what a look at the next seat tells
  have HLEN := hide fun (wr : World) (n k : Nat) (hR : ReI w wr b m' Q acc0 hs n k) => (show (accN acc0 hs n).length ≤ 120 from Fli.wf.len_le hR.re.wf)
  have HLOOK := hide fun (wr : World) (n k : Nat) (hR : ReI w wr b m' Q acc0 hs n k) (hk : k < (accN acc0 hs n).length) =>
    (show ∃ r c st pa cl un : Int, (∀ W, Mod No wr W → Calls Tryz.prog 95 #[.pointer (some ⟨b, 0, none⟩), .int .i64 (k : Int)] W fun e w' => e = .returned (.agg #[.int .i64 r, .int .i64 c]) ∧ Mod No W w') ∧
      (∀ W, Mod No wr W → (Instr.lookup 152 (.map (some m')) (.agg #[.int .i64 r, .int .i64 c]) false).run Tryz.prog W = .ok (.agg #[.int .i64 st, .int .i64 pa, .int .i64 cl, .int .i64 un]) W) ∧
      (∀ W, Mod No wr W → W.cell? ⟨b, 7, none⟩ = some (.map (some m'))) ∧
      (st ≠ 0 → ReI w wr b m' Q acc0 hs n (k + 1)) ∧
      (st = 0 → ∀ (hn : n < hs.length) W, Mod No wr W → Calls Tryz.prog 101 #[.pointer (some ⟨b, 0, none⟩), .agg #[.int .i64 r, .int .i64 c], .agg #[.int .i64 hs[n].st, .int .i64 hs[n].pa, .int .i64 hs[n].cl, .int .i64 hs[n].un]] W fun e w' =>
        e = .returned (.tuple #[]) ∧ ReI w w' b m' Q acc0 hs (n + 1) k ∧ Mod (fun k => k = b ∨ k = m') W w') from by
    obtain ⟨es', clock', hf⟩ := hR.fl
    have hwf := hR.re.wf
    have hB := hwf.bounds
    simp only at hB
    obtain ⟨C, hC⟩ : ∃ C : Nat, Q.cols = (C : Int) := ⟨Q.cols.toNat, by omega⟩
    have hl120 := Fli.wf.len_le hwf
    simp only at hl120
    have hk' : k < ((hs.take n).foldl reseatStep acc0).length := hk
    refine ⟨((hs.take n).foldl reseatStep acc0)[k].row, ((hs.take n).foldl reseatStep acc0)[k].col, ((hs.take n).foldl reseatStep acc0)[k].st, ((hs.take n).foldl reseatStep acc0)[k].pa, ((hs.take n).foldl reseatStep acc0)[k].cl, ((hs.take n).foldl reseatStep acc0)[k].un, fun W hW => ?_, fun W hW => seesX hf hwf k hk' W hW, fun W hW => ?_, fun h => hR.on hk' h, fun h hn W hW => (hR.still hW).put hw hn hk' h⟩
    · have := placeAt_walk b _ _ C k W (hW.has hf.has (fun x => x)) (by rw [← hC]; rfl) (by omega) (by omega)
      have hp := hwf.place k hk'
      simp only at hp
      rw [hp.1, hp.2, hC]
      exact this
    · rw [(hW.has hf.has (fun x => x)).cell]; rfl)
  have HLT := hide fun (wr : World) (n k : Nat) (hR : ReI w wr b m' Q acc0 hs n k) (hn : n < hs.length) (hk : k ≤ (accN acc0 hs n).length) => (show k < (accN acc0 hs n).length from hR.lt hn hk)
  have HNEXT := hide fun (n : Nat) (hn : n < hs.length) => (show (accN acc0 hs (n + 1)).length = (accN acc0 hs n).length from by
    unfold accN; rw [fold_take hn]; unfold reseatStep; rw [List.length_set])
  clear h0 hw hrow
  go_enter Tryz.func124, Tryz.ntmps124
  go_wp2_with fail
  go_loopw [4, 9] (fun s4 s9 wr => ∃ n k : Nat, s9 = .int .i64 (n : Int) ∧ n ≤ hs.length ∧ s4 = .int .i64 (k : Int) ∧ k ≤ (accN acc0 hs n).length ∧ Hid (ReI w wr b m' Q acc0 hs n k)) (fun _ s9 _ => hs.length - (intOf s9).toNat)
  case atStart => exact ⟨0, 0, rfl, by omega, rfl, by omega, H0⟩
  case round =>
    obtain ⟨n, k, rfl, hn, rfl, hk, R1⟩ := hrel
    by_cases h1 : n < hs.length
    · have h1i : (n : Int) < (hs.length : Int) := by omega
      have hw3 : IntKind.i64.wrap ((n : Int) + 1) = ((n + 1 : Nat) : Int) := by rw [wrap_id _ (by omega) (by omega)]; rfl
      obtain ⟨rfl, hrw, hgb, hgm⟩ := (unhide HROW) (by omega)
      have hrw2 := hrw.mod (unhide R1).mod (by rintro (e | e); exact hgb e; exact hgm e)
      obtain ⟨cs, hg, hcs⟩ := hrw2.cur
      obtain ⟨c0, c1, c2, c3⟩ := hcs n h1
      have hgl := hg.lt
      rw [← hg.cell] at c0 c1 c2 c3
      have HG := hide hg
      obtain ⟨sn, hsn⟩ : ∃ s, hs[n] = s := ⟨_, rfl⟩
      rw [hsn] at c0 c1 c2 c3
      obtain ⟨sr, sc, st0, pa0, cl0, un0⟩ := sn
      simp only at c0 c1 c2 c3
      have LK := hide fun (wr : World) (k : Nat) (hR : ReI w wr b m' Q acc0 hs n k) (hk : k < (accN acc0 hs n).length) =>
        (show ∃ r c st pa cl un : Int, (∀ W, Mod No wr W → Calls Tryz.prog 95 #[.pointer (some ⟨b, 0, none⟩), .int .i64 (k : Int)] W fun e w' => e = .returned (.agg #[.int .i64 r, .int .i64 c]) ∧ Mod No W w') ∧
          (∀ W, Mod No wr W → (Instr.lookup 152 (.map (some m')) (.agg #[.int .i64 r, .int .i64 c]) false).run Tryz.prog W = .ok (.agg #[.int .i64 st, .int .i64 pa, .int .i64 cl, .int .i64 un]) W) ∧
          (∀ W, Mod No wr W → W.cell? ⟨b, 7, none⟩ = some (.map (some m'))) ∧
          (st ≠ 0 → ReI w wr b m' Q acc0 hs n (k + 1)) ∧
          (st = 0 → ∀ W, Mod No wr W → Calls Tryz.prog 101 #[.pointer (some ⟨b, 0, none⟩), .agg #[.int .i64 r, .int .i64 c], .agg #[.int .i64 st0, .int .i64 pa0, .int .i64 cl0, .int .i64 un0]] W fun e w' =>
            e = .returned (.tuple #[]) ∧ ReI w w' b m' Q acc0 hs (n + 1) k ∧ Mod (fun k => k = b ∨ k = m') W w') from by
        obtain ⟨r, c, st, pa, cl, un, q1, q2, q3, q4, q5⟩ := (unhide HLOOK) wr n k hR hk
        refine ⟨r, c, st, pa, cl, un, q1, q2, q3, q4, fun h W hW => ?_⟩
        have := q5 h h1 W hW
        rw [hsn] at this
        exact this)
      have LT := hide fun (wr : World) (k : Nat) (hR : ReI w wr b m' Q acc0 hs n k) (hk : k ≤ (accN acc0 hs n).length) => (unhide HLT) wr n k hR h1 hk
      have LN := hide ((unhide HNEXT) n h1)
      have LL := hide ((unhide HLEN) _ _ _ (unhide R1))
      have HH1 := hide h1
      have HG := hide hg
      have HN := hide hn
      have HGB := hide (And.intro hgb hgm)
      clear hrw hrw2 hcs hg hgb hgm hsn HLOOK HLT HNEXT HLEN hn
      clear h1
      go_wp2_with fail
      have R2 := hide ((unhide R1).still ((Mod.refl No wr).alloc (.cells #[.int .i64 st0, .int .i64 pa0, .int .i64 cl0, .int .i64 un0] 179)))
      have B2 := hide (Has.new wr #[.int .i64 st0, .int .i64 pa0, .int .i64 cl0, .int .i64 un0] 179)
      have hbw : b ≠ wr.heap.size ∧ m' ≠ wr.heap.size := by have := (unhide R1).mod.size; omega
      have HBW := hide hbw
      clear hbw c0 c1 c2 c3
      generalize hwx0 : wr.alloc (.cells #[.int .i64 st0, .int .i64 pa0, .int .i64 cl0, .int .i64 un0] 179) = wx0 at *
      clear hwx0
      generalize hgb : wr.heap.size = sb at *
      clear hgb
      go_loopw [4] (fun s4 wx => ∃ k : Nat, s4 = .int .i64 (k : Int) ∧ k ≤ (accN acc0 hs n).length ∧ Hid (ReI w wx b m' Q acc0 hs n k) ∧ Hid (Has wx sb #[.int .i64 st0, .int .i64 pa0, .int .i64 cl0, .int .i64 un0] 179)) (fun s4 _ => (accN acc0 hs n).length - (intOf s4).toNat)
      case atStart => exact ⟨k, rfl, hk, R2, B2⟩
      case round =>
        obtain ⟨k, rfl, hk, R3, B3⟩ := hrel
        have hk2 := (unhide LT) _ k (unhide R3) hk
        obtain ⟨r, c, st, pa, cl, un, q1, q2, q3, q4, q5⟩ := (unhide LK) _ k (unhide R3) hk2
        have Q1 := hide q1
        have Q5 := hide q5
        have Q4 := hide q4
        have hL : ∀ x : Wd wr, (Instr.lookup 152 (.map (some m')) (.agg #[.int .i64 r, .int .i64 c]) false).run Tryz.prog x.W = .ok (.agg #[.int .i64 st, .int .i64 pa, .int .i64 cl, .int .i64 un]) x.W := fun x => q2 _ x.h
        have h7 : ∀ x : Wd wr, x.W.cell? ⟨b, 7, none⟩ = some (.map (some m')) := fun x => q3 _ x.h
        have hne := wd_ne wr
        have HK2 := hide hk2
        have LL2 := unhide LL
        clear q1 q2 q3 q4 q5 hk2
        by_cases h0 : st = 0
        · have HZ := hide h0
          subst h0
          go_wp2_with fail
          refine wp_region_wd (w0 := wr) (by kernel_rfl) (by kernel_rfl) (Mod.refl _ _) ?_
          repeat (go_big_quiet_step ((go_at_call 95; exact Calls.wd _ ((unhide Q1) _ (Wd.h _)))))
          refine wpQuiet_nil ?_
          rintro w3 ⟨⟨_, hm3⟩, rfl⟩
          have R4 := hide ((unhide R3).still hm3)
          have B4 := hide (hm3.has (unhide B3) (fun x => x))
          have M3 := hide hm3
          clear hm3 hL h7 hne R2 B2
          go_wp2_with fail
          have b4 := (unhide B4).cell
          have l4 := (unhide B4).lt
          have GP := hide fun W (hW : Mod No w3 W) => (unhide Q1) W ((unhide M3).trans hW)
          have GU := hide fun W (hW : Mod No w3 W) => (unhide Q5) (by trivial) W ((unhide M3).trans hW)
          have M0 := hide (Mod.refl No w3)
          go_region_with (first
              | (go_at_call 95; refine ((unhide GP) _ (unhide M0).drew).mono ?_; rintro e w5 ⟨rfl, hm5⟩; have b5 := (hm5.has (unhide B4).drew (fun x => x)).cell; have l5 := (hm5.has (unhide B4).drew (fun x => x)).lt)
              | (go_at_call 101; refine ((unhide GU) _ ((unhide M0).drew.trans hm5)).mono ?_; rintro e w6 ⟨rfl, hr6, hm6⟩))
          all_goals go_wp2
          all_goals exact ⟨⟨n + 1, k, by trivial, by have := unhide HH1; omega, by trivial, by rw [unhide LN]; exact hk, hr6⟩, by simp [intOf]; have := unhide HH1; omega⟩
        · have HZ := hide h0
          have hnz : (st != 0) = true := by simp [h0]
          have hw4 : IntKind.i64.wrap ((k : Int) + 1) = ((k + 1 : Nat) : Int) := by rw [wrap_id _ (by omega) (by omega)]; rfl
          clear h0
          go_wp2_with fail
          refine wp_region_wd (w0 := wr) (by kernel_rfl) (by kernel_rfl) (Mod.refl _ _) ?_
          repeat (go_big_quiet_step ((go_at_call 95; exact Calls.wd _ ((unhide Q1) _ (Wd.h _)))))
          refine wpQuiet_nil ?_
          rintro w3 ⟨⟨_, hm3⟩, rfl⟩
          have R4 := hide (((unhide Q4) (unhide HZ)).still hm3)
          have B4 := hide (hm3.has (unhide B3) (fun x => x))
          clear hm3 hL h7 hne R2 B2 R3 B3
          go_wp2
          exact ⟨⟨k + 1, rfl, by have := unhide HK2; omega, R4, B4⟩, by simp [intOf]; have := unhide HK2; omega⟩
    · have hii : n = hs.length := by omega
      subst hii
      have h1i : ¬ ((hs.length : Nat) : Int) < (hs.length : Int) := by omega
      go_wp2
      go_end0
      exact ⟨rfl, k, unhide R1⟩
end Go.Proofs.YtlcbemcamdafjaaGreat
