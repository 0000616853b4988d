import Derived.Test.YthhibagcpjeihaaGreatHRef16ToSwap1
import Derived.Test.YthhibagcpjeihaaGreatHKeepDToRef17
import Derived.Test.YthhibagcpjeihaaGreatHMaps2ToRef3
import Derived.Test.YthhibagcpjeihaaGreatHReckonToPut2
import Derived.Test.YthhibagcpjeihaaGreatHChangeToEq40
import Derived.Test.YthhibagcpjeihaaGreatHBaseToMaps
import Derived.Handy
import Derived.OwnWalk
import Derived.Deep.MidRow
import Derived.Test.YthhibagcpjeihaaGreatHRef24ToRef29
import Derived.Test.YthhibagcpjeihaaGreatHSwap2ToSwap4
import Derived.Test.YthhibagcpjeihaaGreatHLook7ToRef7
namespace Go.Proofs.YthhibagcpjeihaaGreat
open Go.RowKit
open M
set_option linter.unusedVariables false
set_option linter.unusedSimpArgs false
set_option maxRecDepth 100000
set_option maxHeartbeats 8000000
def weigh1 (x : FR) : Int := 60 + 30 * ((x.f.seats.length : Int) - (nFree x.f.seats : Int))
def weightOf (xs : List FR) : Int := 200 + (xs.map weigh1).sum
theorem weightOf_take (xs : List FR) (i : Nat) (hi : i < xs.length) : weightOf (xs.take (i + 1)) = weightOf (xs.take i) + weigh1 xs[i] := by
 unfold weightOf
 rw [List.take_add_one, List.getElem?_eq_getElem hi, Option.toList_some, List.map_append, List.sum_append, List.map_cons, List.map_nil, List.sum_cons, List.sum_nil]
 omega
theorem weigh1_bound (x : FR) (h : x.f.seats.length ≤ 120) : 60 ≤ weigh1 x ∧ weigh1 x ≤ 3660 := by
 unfold weigh1
 have := nFree_le x.f.seats
 omega
theorem weightOf_bound : ∀ (xs : List FR), (∀ x ∈ xs, x.f.seats.length ≤ 120) → 200 ≤ weightOf xs ∧ weightOf xs ≤ 200 + 3660 * (xs.length : Int)
 | [], _ => by simp [weightOf]
 | x :: xs, h => by
  have h1 := weightOf_bound xs (fun y hy => h y (by simp [hy]))
  have h2 := weigh1_bound x (h x (by simp))
  have e : weightOf (x :: xs) = weightOf xs + weigh1 x := by unfold weightOf; simp; omega
  rw [e]
  simp only [List.length_cons]
  omega
theorem wweight_nil {w : World} {wb : Nat} {now : Int} (h : Has w wb #[.slice none 0 0, .int .i64 now] 72) :
  Calls Tryz.prog 31 #[.pointer (some ⟨wb, 0, none⟩)] w fun e w' => e = .returned (.int .i64 200) ∧ Mod No w w' := by
 have hc := h.cell
 clear h
 go_enter Tryz.func31, Tryz.ntmps31
 go_wp2_with fail
 go_loopw [3, 4] (fun s3 s4 wr => s3 = .int .i64 200 ∧ s4 = .int .i64 0 ∧ wr = w) (fun _ _ _ => 0)
 case atStart => exact ⟨rfl, rfl, rfl⟩
 case round =>
  obtain ⟨rfl, rfl, rfl⟩ := hrel
  go_wp2
  go_ret
  exact ⟨rfl, Mod.refl _ _⟩
theorem wweight_row {w : World} {ow : Nat → Nat} {wb gf cap : Nat} {xs : List FR} {now : Int} (h : WorR w ow wb (.slice (some ⟨gf, 0, none⟩) xs.length cap) xs now) (hne : 0 < xs.length) :
  Calls Tryz.prog 31 #[.pointer (some ⟨wb, 0, none⟩)] w fun e w' => e = .returned (.int .i64 (weightOf xs)) ∧ Mod No w w' := by
 have few := h.few
 have H := hide h
 obtain ⟨og, rf⟩ := h.parts rfl hne
 have RF := hide rf
 have HW := hide h.has
 have HS : ∀ x ∈ xs, x.f.seats.length ≤ 120 := fun x hx => by
  obtain ⟨i, hi, rfl⟩ := List.getElem_of_mem hx
  exact wf_len (h.seats i hi).2.2
 have HS := hide HS
 clear h rf og hne
 go_enter Tryz.func31, Tryz.ntmps31
 go_wp2_with fail
 go_loopw [3, 4] (fun s3 s4 wr => ∃ i : Nat, s4 = .int .i64 i ∧ i ≤ xs.length ∧ s3 = .int .i64 (weightOf (xs.take i)) ∧ Hid (Mod No w wr)) (fun _ s4 _ => xs.length - (intOf s4).toNat)
 case atStart => exact ⟨0, rfl, by omega, by simp [weightOf], hide (Mod.refl _ _)⟩
 case round =>
  obtain ⟨i, rfl, hi, rfl, M1⟩ := hrel
  have v0 : wr.cell? ⟨wb, 0, none⟩ = some (.slice (some ⟨gf, 0, none⟩) xs.length cap) := ((unhide M1).has (unhide HW) (fun x => x)).cell 0
  by_cases hix : i < xs.length
  ·have hixi : (i : Int) < (xs.length : Int) := by omega
   have h0i : (0 : Int) ≤ i := by omega
   have hi1 : IntKind.i64.wrap ((i : Int) + 1) = ((i + 1 : Nat) : Int) := by rw [wrap_id _ (by omega) (by omega)]; rfl
   have rf1 := (unhide RF).mod (unhide M1) (fun x => x)
   have g0 : wr.cell? ⟨gf, i * 10, none⟩ = some (.int .i64 xs[i].f.num) := rf1.cell i hix 0 (by omega)
   have g1 : wr.cell? ⟨gf, i * 10 + 1, none⟩ = some (.int .i64 xs[i].f.pla.rows) := rf1.cell i hix 1 (by omega)
   have g2 : wr.cell? ⟨gf, i * 10 + 2, none⟩ = some (.int .i64 xs[i].f.pla.cols) := rf1.cell i hix 2 (by omega)
   have g3 : wr.cell? ⟨gf, i * 10 + 3, none⟩ = some (.int .i64 xs[i].f.pla.front) := rf1.cell i hix 3 (by omega)
   have g4 : wr.cell? ⟨gf, i * 10 + 4, none⟩ = some (.int .i64 xs[i].f.pla.l0) := rf1.cell i hix 4 (by omega)
   have g5 : wr.cell? ⟨gf, i * 10 + 5, none⟩ = some (.int .i64 xs[i].f.pla.l1) := rf1.cell i hix 5 (by omega)
   have g6 : wr.cell? ⟨gf, i * 10 + 6, none⟩ = some (.int .i64 xs[i].f.pla.l2) := rf1.cell i hix 6 (by omega)
   have g7 : wr.cell? ⟨gf, i * 10 + 7, none⟩ = some (.int .i64 xs[i].f.pla.l3) := rf1.cell i hix 7 (by omega)
   have g8 : wr.cell? ⟨gf, i * 10 + 8, none⟩ = some (.slice (some ⟨xs[i].g, 0, none⟩) xs[i].f.seats.length xs[i].cap) := rf1.cell i hix 8 (by omega)
   have g9 : wr.cell? ⟨gf, i * 10 + 9, none⟩ = some (.int .i64 xs[i].f.ep) := rf1.cell i hix 9 (by omega)
   obtain ⟨rs, os, wf⟩ := (unhide H).seats i hix
   have hl120 : xs[i].f.seats.length ≤ 120 := wf_len wf
   have hfr := nFree_le xs[i].f.seats
   have hb1 := weightOf_bound (xs.take i) (fun x hx => (unhide HS) x (List.mem_of_mem_take hx))
   have hb2 : ((xs.take i).length : Int) ≤ 20 := by rw [List.length_take]; omega
   have hnx := weightOf_take xs i hix
   have hw1 : weigh1 xs[i] = 60 + 30 * ((xs[i].f.seats.length : Int) - (nFree xs[i].f.seats : Int)) := rfl
   rw [hw1] at hnx
   have rs1 := rs.mod (unhide M1) (fun x => x)
   have FB := Has.new wr (friV xs[i]) 134
   have M2 := hide ((unhide M1).alloc (.cells (friV xs[i]) 134))
   have rs2 := rs1.mod ((Mod.refl No wr).alloc (.cells (friV xs[i]) 134)) (fun x => x)
   have HFR := hide fun n => free_any wr.heap.size 0 xs[i].g xs[i].cap xs[i].f.seats ((wr.alloc (.cells (friV xs[i]) 134)).drewN n) (rs2.mod ((Mod.refl No _).drewN n) (fun x => x)) (by omega) ((FB.drewN n).cell 8)
   have fb := FB.cell
   have fl := FB.lt
   unfold friV at HFR M2 fb fl
   generalize weightOf (xs.take i) = wt at *
   generalize hwt2 : weightOf (xs.take (i + 1)) = wt2 at *
   have HWT2 := hide hwt2
   clear hwt2
   generalize hfrN : nFree xs[i].f.seats = fr at *
   generalize hlenN : xs[i].f.seats.length = ln at *
   have e1 : IntKind.i64.wrap (wt + 60) = wt + 60 := wrap_id _ (by omega) (by omega)
   have e2 : IntKind.i64.wrap ((ln : Int) - (fr : Int)) = (ln : Int) - (fr : Int) := wrap_id _ (by omega) (by omega)
   have e3 : IntKind.i64.wrap (30 * ((ln : Int) - (fr : Int))) = 30 * ((ln : Int) - (fr : Int)) := wrap_id _ (by omega) (by omega)
   have e4 : IntKind.i64.wrap (wt + 60 + 30 * ((ln : Int) - (fr : Int))) = wt2 := by rw [wrap_id _ (by omega) (by omega)]; omega
   clear rf1 rs os wf rs1 rs2 FB hb1 hb2 hnx hw1 H RF HS
   go_wp2_with fail
   go_quiet ((go_at_call 58; exact Calls.quiet_of_same ((unhide HFR) _)))
   go_wp2
   exact ⟨⟨i + 1, rfl, by omega, by rw [unhide HWT2], (unhide M2).drewN _⟩, by simp [intOf]; omega⟩
  ·have hixi : ¬ (i : Int) < (xs.length : Int) := by omega
   have e : i = xs.length := by omega
   subst e
   rw [List.take_length]
   go_wp2
   go_ret
   exact ⟨rfl, unhide M1⟩
theorem wweight_any {w : World} {ow : Nat → Nat} {wb : Nat} {v : Value} {xs : List FR} {now : Int} (h : WorR w ow wb v xs now) (hv : xs = [] → v = .slice none 0 0) :
  Calls Tryz.prog 31 #[.pointer (some ⟨wb, 0, none⟩)] w fun e w' => e = .returned (.int .i64 (weightOf xs)) ∧ Mod No w w' := by
 rcases h.fls with ⟨rfl, rfl⟩ | ⟨gf, cap, rfl, _, _⟩
 ·exact wweight_nil h.has
 ·by_cases hne : 0 < xs.length
  ·exact wweight_row h hne
  ·have := hv (List.eq_nil_of_length_eq_zero (by omega))
   cases this
theorem worR_weight {w : World} {ow : Nat → Nat} {wb : Nat} {v : Value} {xs : List FR} {now : Int} (h : WorR w ow wb v xs now) : 200 ≤ weightOf xs ∧ weightOf xs ≤ 100000 := by
 have h1 := weightOf_bound xs (fun x hx => by
  obtain ⟨i, hi, rfl⟩ := List.getElem_of_mem hx
  exact wf_len (h.seats i hi).2.2)
 have := h.few
 omega
set_option maxHeartbeats 4000000
theorem lpick_any (c n : Int) (hc : -9223372036854775808 ≤ c ∧ c ≤ 9223372036854775807) (hn : 0 < n ∧ n ≤ 1099511627776) (w : World) :
  Calls Tryz.prog 13 #[.int .i64 c, .int .i64 n] w fun e w' => e = .returned (.int .i64 (pickN c n)) ∧ w' = w := by
 unfold pickN
 have hz : n ≠ 0 := by omega
 by_cases h : c < 0
 ·have h1 : IntKind.i64.wrap (c + 1) = c + 1 := wrap_fit _ (by omega) (by omega)
  have h2 : IntKind.i64.wrap (-(c + 1)) = -(c + 1) := wrap_fit _ (by omega) (by omega)
  go_enter Tryz.func13, Tryz.ntmps13
  go_wp2
  go_ret
  refine ⟨?_, rfl⟩
  rw [← Int.tmod_eq_emod_of_nonneg (by omega), Int.neg_tmod]
  rfl
 ·go_enter Tryz.func13, Tryz.ntmps13
  go_wp2
  go_ret
  exact ⟨rfl, rfl⟩
theorem same_any (a b s : Nat → Int) (w : World) :
  Calls Tryz.prog 37 #[.agg (tF a b s), .agg (tF a b s)] w fun e w' => e = .returned (.bool true) ∧ Mod No w w' := by
 have B1 := hide ((Has.new w (tF a b s) 91).alloc (.cells (tF a b s) 91))
 have B2 := hide (show Has ((w.alloc (.cells (tF a b s) 91)).alloc (.cells (tF a b s) 91)) (w.heap.size + 1) (tF a b s) 91 from by
  have := Has.new (w.alloc (.cells (tF a b s) 91)) (tF a b s) 91
  rw [World.size_alloc] at this
  exact this)
 have M0 := hide (((Mod.refl No w).alloc (.cells (tF a b s) 91)).alloc (.cells (tF a b s) 91))
 generalize hT : tF a b s = T at *
 go_enter Tryz.func37, Tryz.ntmps37
 go_wp2_with fail
 generalize (w.alloc (.cells T 91)).alloc (.cells T 91) = w2 at *
 go_loopw [5] (fun s5 wr => ∃ i : Nat, s5 = .int .i64 i ∧ i ≤ 4 ∧ Hid (Mod No w wr) ∧ Hid (Mod No w2 wr)) (fun s5 _ => 4 - (intOf s5).toNat)
 case atStart => exact ⟨0, rfl, by omega, M0, Mod.refl _ _⟩
 case round =>
  obtain ⟨i, rfl, hi, M1, M2⟩ := hrel
  by_cases h4 : i < 4
  ·have h4i : (i : Int) < 4 := by omega
   have h0i : (0 : Int) ≤ i := by omega
   have hi1 : IntKind.i64.wrap ((i : Int) + 1) = ((i + 1 : Nat) : Int) := by rw [wrap_id _ (by omega) (by omega)]; rfl
   have h1 := (unhide M2).has (unhide B1) (fun x => x)
   have h2 := (unhide M2).has (unhide B2) (fun x => x)
   rw [← hT] at h1 h2
   have a1 : wr.cell? ⟨w.heap.size, i, none⟩ = some (.int .i64 (a i)) := by rw [h1.cell, tF_a _ _ _ _ h4]
   have b1 : wr.cell? ⟨w.heap.size, 4 + i, none⟩ = some (.int .i64 (b i)) := by rw [h1.cell, tF_b _ _ _ _ h4]
   have s1 : wr.cell? ⟨w.heap.size, 8 + i, none⟩ = some (.int .i64 (s i)) := by rw [h1.cell, tF_s _ _ _ _ h4]
   have a2 : wr.cell? ⟨w.heap.size + 1, i, none⟩ = some (.int .i64 (a i)) := by rw [h2.cell, tF_a _ _ _ _ h4]
   have b2 : wr.cell? ⟨w.heap.size + 1, 4 + i, none⟩ = some (.int .i64 (b i)) := by rw [h2.cell, tF_b _ _ _ _ h4]
   have s2 : wr.cell? ⟨w.heap.size + 1, 8 + i, none⟩ = some (.int .i64 (s i)) := by rw [h2.cell, tF_s _ _ _ _ h4]
   have d1 : (a i != a i) = false := by simp
   have d2 : (b i != b i) = false := by simp
   have d3 : (s i != s i) = false := by simp
   clear h1 h2 hT
   go_wp2_with fail
   go_quiet (fail)
   go_wp2
   exact ⟨⟨i + 1, rfl, by omega, (unhide M1).drewN _, (unhide M2).drewN _⟩, by simp [intOf]; omega⟩
  ·have h4i : ¬ (i : Int) < 4 := by omega
   go_wp2
   go_ret
   exact ⟨rfl, unhide M1⟩
theorem doK_cfit {now : Int} {fl : Nat → Option (Pla × List Sea)} {c : Cmd} (hn : 0 ≤ now ∧ now ≤ 4611686018427387000) (hwf : ∀ n p l, n < 21 → fl n = some (p, l) → Wf p l) (h : (doK now fl c).1 = 0) : CFit now (entOf now c) := by
 unfold doK at h
 by_cases hbad : c.kind < 1 ∨ c.kind > 9
 ·rw [if_pos hbad] at h; exact absurd h (by simp)
 rw [if_neg hbad] at h
 by_cases h8 : c.kind = 8
 ·rw [if_pos h8] at h
  by_cases ht : 1 ≤ c.time ∧ c.time ≤ 100
  ·exact fit_pass h8 ht hn
  ·rw [if_neg ht] at h; exact absurd h (by simp)
 rw [if_neg h8] at h
 by_cases hf : 1 ≤ c.flight ∧ c.flight ≤ 20
 case neg => rw [if_pos hf] at h; exact absurd h (by simp)
 rw [if_neg (by simpa using hf)] at h
 cases hfl : fl c.flight.toNat with
 | none =>
  rw [hfl] at h
  simp only at h
  by_cases k1 : c.kind = 1
  ·rw [if_pos k1] at h
   by_cases hs : c.pla.sized = true ∧ c.pla.limited = true
   ·exact fit_start k1 hf hs.1 hs.2
   ·rw [if_neg hs] at h; exact absurd h (by simp)
  ·rw [if_neg k1] at h; exact absurd h (by simp)
 | some x =>
  obtain ⟨p, l⟩ := x
  rw [hfl] at h
  simp only at h
  by_cases k1 : c.kind = 1
  ·rw [if_pos k1] at h; exact absurd h (by simp)
  rw [if_neg k1] at h
  by_cases hz : seatErr p l c now = 0
  ·exact fit_seat (by omega) hf (hwf _ p l (by omega) hfl) hn hz
  ·rw [if_neg hz] at h; exact absurd h hz
theorem layP_ok {T : TP} {i : Nat} {r : List Int} (hi : i < 2) (hf : T.fuse < 0) (hr : (T.used : Int) + r.length ≤ T.room) : (layP T i r).1 = 0 ∧ (layP T i r).2.fuse = T.fuse ∧ (layP T i r).2.room = T.room ∧ (layP T i r).2.used = T.used + r.length := by
 have hb : burnt T.fuse = T.fuse := by unfold burnt; rw [if_neg (by omega)]
 have ha : appendP T i r = (true, T.put i (T.b i ++ r) (T.last i) T.fuse) := by
  unfold appendP
  rw [if_neg (by omega), hb]
 have hs : writeP T i r = (true, (T.put i (T.b i ++ r) (T.last i) T.fuse).put i (T.b i ++ r) (T.b i ++ r).length T.fuse) := by
  unfold writeP
  rw [ha, if_pos rfl]
  unfold syncP
  rw [if_neg (by show ¬ T.fuse = 0; omega)]
  have e1 : (T.put i (T.b i ++ r) (T.last i) T.fuse).b i = T.b i ++ r := by simp [TP.put]
  simp only [e1]
  show (true, _) = (true, _)
  rw [show burnt (T.put i (T.b i ++ r) (T.last i) T.fuse).fuse = T.fuse from hb]
 unfold layP
 rw [if_neg (by omega), hs, if_pos rfl]
 refine ⟨rfl, rfl, rfl, ?_⟩
 have : i = 0 ∨ i = 1 := by omega
 rcases this with rfl | rfl <;> simp [TP.used, TP.put] <;> omega
open Go.RowKit Go.WideMaps
open Go.ChangeMaps (setBlock)
structure FEnt where
 born : Nat
 r : Int
 c : Int
 n : Int
def FEnt.obj (e : FEnt) : MapEntry := ⟨kv e.r e.c, .int .i64 e.n, e.born⟩
def folObj (l : List FEnt) (clock : Nat) : Obj := .map (l.map FEnt.obj).toArray clock
def FEnt.is (r c : Int) (e : FEnt) : Bool := e.r == r && e.c == c
structure FolOk (l : List FEnt) : Prop where
 keys : ∀ e ∈ l, 0 ≤ e.r ∧ e.r ≤ 1000 ∧ 0 ≤ e.c ∧ e.c ≤ 1000
 apart : l.Pairwise fun a b => ¬ (a.r = b.r ∧ a.c = b.c)
def lookF (l : List FEnt) (r c : Int) : Option Int := (l.find? (FEnt.is r c)).map FEnt.n
set_option maxHeartbeats 2000000
attribute [local go_sem] idx40_0 idx40_1 idx40_2 idx40_3
theorem mod_fol {S : Nat → Prop} {w w' : World} (h : Mod S w w') {m : Nat} {es : List FEnt} {clock : Nat} (hm : w.heap[m]? = some (folObj es clock)) (hs : ¬ S m) : w'.heap[m]? = some (folObj es clock) := by
 rw [h.block m (Array.getElem?_eq_some_iff.1 hm).1 hs]; exact hm
def tb (es : List FEnt) (n c : Int) : Int := (lookF es n c).getD (-1)
structure Nw where
 n : Int
 c : Int
 l : Int
def nwL (x : Nw) : List Value := [.int .i64 x.n, .int .i64 x.c, .int .i64 x.l]
structure FolX (w : World) (ow om : Nat → Nat) (kb : Nat) (tl : Nat → Option (List FEnt)) : Prop where
 un : ∀ i, i < 8 → tl i = none → w.cell? ⟨kb, 22 + i, none⟩ = some (.map none)
 is : ∀ i, i < 8 → ∀ es, tl i = some es → ∃ m clock, w.cell? ⟨kb, 22 + i, none⟩ = some (.map (some m)) ∧ om m = i + 1 ∧ w.heap[m]? = some (folObj es clock) ∧ FolOk es
 old : ∀ k, om k ≠ 0 → k < w.heap.size ∧ ow k = 0
def lv (x : Pla × List Sea) (c : Nat) : Int := min (cE x.1 x.2 c) 9
set_option maxHeartbeats 4000000
theorem wcopy_all {w : World} {ow : Nat → Nat} {wb : Nat} {v : Value} {xs : List FR} {now : Int} (h : WorR w ow wb v xs now) (hv : xs = [] → v = .slice none 0 0) :
  Calls Tryz.prog 26 #[.pointer (some ⟨wb, 0, none⟩)] w fun e w' => e = .returned (.pointer (some ⟨w.heap.size, 0, none⟩)) ∧ ∃ v' ys ow', CopyI w w' w.heap.size xs now xs.length v' ys ow' ∧ (ys = [] → v' = .slice none 0 0) := by
 by_cases hx : xs = []
 ·subst hx
  obtain rfl := hv rfl
  refine (wcopy_nil h.has).mono ?_
  rintro e w' ⟨rfl, rfl⟩
  exact ⟨rfl, _, _, _, copy_start w now [], fun _ => rfl⟩
 ·refine (wcopy_any h).mono ?_
  rintro e w' ⟨v', ys, ow', rfl, hC⟩
  exact ⟨rfl, v', ys, ow', hC, fun e => by have := hC.len; rw [e] at this; exact absurd (List.eq_nil_of_length_eq_zero this.symm) hx⟩
theorem flOf_congr : ∀ (xs ys : List FR), ys.map (·.f) = xs.map (·.f) → ∀ n, flOf ys n = flOf xs n
 | [], [], _, _ => rfl
 | [], y :: ys, h, _ => by simp at h
 | x :: xs, [], h, _ => by simp at h
 | x :: xs, y :: ys, h, n => by
  simp only [List.map_cons, List.cons.injEq] at h
  have ih := flOf_congr xs ys h.2 n
  unfold flOf at ih ⊢
  simp only [List.find?_cons, h.1]
  cases (x.f.num == (n : Int))
  ·exact ih
  ·simp [h.1]
theorem Same.congr {xs ys : List FR} {fl : Nat → Option (Pla × List Sea)} (h : Same xs fl) (hl : ys.length = xs.length) (hf : ∀ j (h : j < ys.length) (h' : j < xs.length), ys[j].f = xs[j].f) : Same ys fl := by
 have hm : ys.map (·.f) = xs.map (·.f) := by
  apply List.ext_getElem
  ·simpa using hl
  ·intro j h1 h2
   simp only [List.getElem_map]
   exact hf j (by simpa using h1) (by simpa using h2)
 refine ⟨?_, fun y hy => ?_, fun n hn => ?_⟩
 ·rw [List.pairwise_iff_getElem]
  intro a b ha hb hab
  rw [hf a ha (by omega), hf b hb (by omega)]
  exact (List.pairwise_iff_getElem.1 h.sort) a b (by omega) (by omega) hab
 ·obtain ⟨j, hj, rfl⟩ := List.getElem_of_mem hy
  rw [hf j hj (by omega)]
  exact h.rng _ (List.getElem_mem (by omega))
 ·rw [flOf_congr xs ys hm]
  exact h.eq n hn
theorem doK_time (now : Int) (fl : Nat → Option (Pla × List Sea)) (c : Cmd) : now ≤ (doK now fl c).2.1 ∧ (doK now fl c).2.1 ≤ now + 100 := by
 by_cases k0 : c.kind < 1 ∨ c.kind > 9
 ·rw [doK_bad k0]; simp only; omega
 by_cases k8 : c.kind = 8
 ·by_cases tt : 1 ≤ c.time ∧ c.time ≤ 100
  ·rw [doK_tick k8 tt]; simp only; omega
  ·rw [doK_tock k8 tt]; simp only; omega
 by_cases hf : 1 ≤ c.flight ∧ c.flight ≤ 20
 case neg => rw [doK_num k0 k8 hf]; simp only; omega
 cases hx : fl c.flight.toNat with
 | none =>
  rw [doK_none k0 k8 hf hx]
  repeat' split
  all_goals simp only
  all_goals omega
 | some x =>
  rw [doK_some k0 k8 hf hx]
  repeat' split
  all_goals simp only
  all_goals omega
def tolC (vs : Nat → Value) (bs : Nat → Bool) : Array Value := #[vs 0, vs 1, vs 2, vs 3, vs 4, vs 5, vs 6, vs 7, .bool (bs 0), .bool (bs 1), .bool (bs 2), .bool (bs 3), .bool (bs 4), .bool (bs 5), .bool (bs 6), .bool (bs 7)]
structure TolX (w : World) (ow : Nat → Nat) (tob : Nat) (vs : Nat → Value) (ns : Nat → List Nw) (bs : Nat → Bool) : Prop where
 has : Has w tob (tolC vs bs) 76
 rows : ∀ i, i < 8 → w.ownsRow 0 68 3 (vs i) (ns i).length ((ns i).flatMap nwL)
 own : ∀ i, i < 8 → ∀ k, (vs i).ownBlock = some k → ow k = i + 2
 mine : ow tob = 1
theorem TolX.mod {w w' : World} {ow : Nat → Nat} {tob : Nat} {vs : Nat → Value} {ns : Nat → List Nw} {bs : Nat → Bool} {S : Nat → Prop} (h : TolX w ow tob vs ns bs) (hm : Mod S w w') (hs : ∀ k, ow k ≠ 0 → ¬ S k) : TolX w' ow tob vs ns bs :=
 ⟨hm.has h.has (hs _ (by rw [h.mine]; omega)), fun i hi => hm.owns (h.rows i hi) (fun k hk => hs k (by rw [h.own i hi k hk]; omega)), h.own, h.mine⟩
structure WI where
 wb : Nat
 ow : Nat → Nat
 v : Value
 xs : List FR
 now : Int
 fl : Nat → Option (Pla × List Sea)
structure WX (w : World) (I : WI) : Prop where
 wor : WorR w I.ow I.wb I.v I.xs I.now
 same : Same I.xs I.fl
 tidy : I.xs = [] → I.v = .slice none 0 0
theorem WX.mod {w w' : World} {I : WI} {S : Nat → Prop} (h : WX w I) (hm : Mod S w w') (hs : ∀ k, I.ow k ≠ 0 → ¬ S k) : WX w' I := ⟨h.wor.mod hm hs, h.same, h.tidy⟩
structure OneI where
 kb : Option Nat
 W : WI
 mb : Option WI
 tob : Nat
 okp : Nat → Nat
 owt : Nat → Nat
 om : Nat → Nat
 now : Int
 fl : Nat → Option (Pla × List Sea)
 K : KS
 most : Int
 ch : Int
 sh : Bool
 n0 : Int
 n1 : Int
 n2 : Int
 tl : Nat → Option (List FEnt)
 vs : Nat → Value
 ns : Nat → List Nw
 bs : Nat → Bool
def ptrOf (x : Option Nat) : Value := .pointer (x.map fun b => ⟨b, 0, none⟩)
def oneV (I : OneI) : Array Value := #[.pointer (some ⟨I.K.tb, 0, none⟩), ptrOf I.kb, .pointer (some ⟨I.W.wb, 0, none⟩), ptrOf (I.mb.map (·.wb)), .pointer (some ⟨I.tob, 0, none⟩), .int .i64 I.most, .int .i64 I.ch, .bool I.sh, .int .i64 I.n0, .int .i64 I.n1, .int .i64 I.n2]
structure KeepO (w : World) (ow om : Nat → Nat) (kb : Option Nat) (now : Int) (fl : Nat → Option (Pla × List Sea)) (K : KS) (tl : Nat → Option (List FEnt)) : Prop where
 some : ∀ b, kb = some b → (∃ pt, KeepT w ow b now pt fl K) ∧ FolX w ow om b tl
 none : kb = none → TapeH w (fun k => ow k = 30) K.tb K.T ∧ ∀ k, ow k ≠ 0 → k < w.heap.size
theorem KeepO.mod {w w' : World} {ow om : Nat → Nat} {kb : Option Nat} {now : Int} {fl : Nat → Option (Pla × List Sea)} {K : KS} {tl : Nat → Option (List FEnt)} {S : Nat → Prop} (h : KeepO w ow om kb now fl K tl) (hm : Mod S w w') (hs : ∀ k, ow k ≠ 0 → ¬ S k) (hs2 : ∀ k, om k ≠ 0 → ¬ S k) : KeepO w' ow om kb now fl K tl := by
 refine ⟨fun b hb => ?_, fun hn => ?_⟩
 ·obtain ⟨⟨pt, h1⟩, h2⟩ := h.some b hb
  refine ⟨⟨pt, h1.mod hm hs⟩, ?_⟩
  have hkb : ¬ S b := hs b (by rw [h1.keep.mine]; omega)
  have hc : ∀ o v, w.cell? ⟨b, o, Option.none⟩ = Option.some v → w'.cell? ⟨b, o, Option.none⟩ = Option.some v := fun o v hc => by
   have hlt := World.block_lt_of_cell? w _ hc
   rw [World.cell?_of_block (w := w) (hm.block _ hlt hkb)]
   exact hc
  exact ⟨fun i hi ht => hc _ _ (h2.un i hi ht), fun i hi es ht => by
   obtain ⟨m, clock, a1, a2, a3, a4⟩ := h2.is i hi es ht
   exact ⟨m, clock, hc _ _ a1, a2, mod_fol hm a3 (hs2 m (by omega)), a4⟩, fun k hk => ⟨Nat.lt_of_lt_of_le (h2.old k hk).1 hm.size, (h2.old k hk).2⟩⟩
 ·obtain ⟨h1, h2⟩ := h.none hn
  exact ⟨h1.mod hm (fun k hk => hs k (by omega)), fun k hk => Nat.lt_of_lt_of_le (h2 k hk) hm.size⟩
structure OneX (w : World) (O : Nat → Prop) (ob : Nat) (I : OneI) : Prop where
 has : Has w ob (oneV I) 55
 keep : KeepO w I.okp I.om I.kb I.now I.fl I.K I.tl
 wor : WX w I.W
 may : ∀ M, I.mb = some M → WX w M
 told : TolX w I.owt I.tob I.vs I.ns I.bs
 ex : ∃ cls : Nat → Nat, cls ob = 1 ∧ (∀ k, I.okp k ≠ 0 → cls k = 2) ∧ (∀ k, I.W.ow k ≠ 0 → cls k = 3) ∧ (∀ k, I.owt k ≠ 0 → cls k = 4) ∧ (∀ k, I.om k ≠ 0 → cls k = 5) ∧ (∀ M, I.mb = some M → ∀ k, M.ow k ≠ 0 → cls k = 6) ∧ ∀ k, cls k ≠ 0 → O k
 lt : ∀ k, O k → k < w.heap.size
def grow (O : Nat → Prop) (w w' : World) : Nat → Prop := fun k => O k ∨ (w.heap.size ≤ k ∧ k < w'.heap.size)
theorem OneX.mod {w w' : World} {O S : Nat → Prop} {ob : Nat} {I : OneI} (h : OneX w O ob I) (hm : Mod S w w') (hs : ∀ k, O k → ¬ S k) : OneX w' O ob I := by
 obtain ⟨cls, c1, c2, c3, c4, c5, c6, c7⟩ := h.ex
 have g : ∀ k n, cls k = n → n ≠ 0 → ¬ S k := fun k n e hn => hs k (c7 k (by omega))
 exact ⟨hm.has h.has (g _ _ c1 (by omega)), h.keep.mod hm (fun k hk => g _ _ (c2 k hk) (by omega)) (fun k hk => g _ _ (c5 k hk) (by omega)), h.wor.mod hm (fun k hk => g _ _ (c3 k hk) (by omega)),
  fun M hM => (h.may M hM).mod hm (fun k hk => g _ _ (c6 M hM k hk) (by omega)), h.told.mod hm (fun k hk => g _ _ (c4 k hk) (by omega)), ⟨cls, c1, c2, c3, c4, c5, c6, c7⟩, fun k hk => Nat.lt_of_lt_of_le (h.lt k hk) hm.size⟩
structure OneD (w w' : World) (O : Nat → Prop) (ob : Nat) (R : OneI → Prop) : Prop where
 ex : ∃ I', OneX w' (grow O w w') ob I' ∧ R I'
 mod : Mod O w w'
structure Weighed (w w' : World) (ob : Nat) (I : OneI) (wt : Int) : Prop where
 ex : Has w' ob (oneV { I with most := max I.most wt }) 55
 mod : Mod (fun k => k = ob) w w'
theorem weigh_any {w : World} {ob : Nat} {I : OneI} (hh : Has w ob (oneV I) 55) (hw : WX w I.W) (W : Int) (hwt : weightOf I.W.xs = W) :
  Calls Tryz.prog 29 #[.pointer (some ⟨ob, 0, none⟩)] w fun e w' => e = .returned (.tuple #[]) ∧ Weighed w w' ob I W := by
 have HW := wweight_any hw.wor hw.tidy
 rw [hwt] at HW
 have HW := hide HW
 have c2 : w.cell? ⟨ob, 2, none⟩ = some (.pointer (some ⟨I.W.wb, 0, none⟩)) := hh.cell 2
 have ol := hh.lt
 have HH := hide hh
 clear hh hw hwt
 go_enter Tryz.func29, Tryz.ntmps29
 go_wp2_with fail
 refine (unhide HW).mono ?_
 rintro e w1 ⟨rfl, m1⟩
 have h1 := m1.has (unhide HH) (fun x => x)
 have c5 : w1.cell? ⟨ob, 5, none⟩ = some (.int .i64 I.most) := h1.cell 5
 have f1 := h1.frozen
 have l1 := h1.lt
 have M1 := hide (m1.mono (S' := fun k => k = ob) (fun _ _ x => x.elim))
 have H1 := hide h1
 clear m1 h1 HW c2
 by_cases hg : W > I.most
 ·go_wp2
  go_end0
  refine ⟨rfl, ?_, (unhide M1).at 5 _⟩
  rw [show max I.most W = W by omega]
  exact (unhide H1).set 5 (.int .i64 W)
 ·go_wp2
  go_end0
  refine ⟨rfl, ?_, unhide M1⟩
  rw [show max I.most W = I.most by omega]
  exact unhide H1
set_option maxHeartbeats 8000000
def nHome (Q : Pla) (l : List Sea) (i : Nat) : Nat := (homeless Q (l.take i)).length
def nStay (Q : Pla) (l : List Sea) (i : Nat) : Nat := (stay Q (l.take i)).length
theorem nFull_free (l : List Sea) : nFull l + nFree l = l.length := by
 induction l with
 | nil => rfl
 | cons x l ih =>
  unfold nFull nFree at *
  simp only [List.countP_cons, List.length_cons]
  by_cases h : x.st = 0 <;> simp [h] <;> omega
theorem bare_eq {s x : Sea} (hs : s.wf) (hx : x.wf) (h0 : s.st = 0) (x0 : x.st = 0) (hr : x.row = s.row) (hc : x.col = s.col) : x = s := by
 obtain ⟨a1, a2, a3⟩ := hs.bare (.inl h0)
 obtain ⟨b1, b2, b3⟩ := hx.bare (.inl x0)
 obtain ⟨r, c, st, pa, cl, un⟩ := s
 obtain ⟨r', c', st', pa', cl', un'⟩ := x
 simp only at *
 subst h0 x0 hr hc a1 a2 a3 b1 b2 b3
 rfl
theorem stay_put {p q : Pla} {l : List Sea} (hwf : Wf p l) (h1 : q.sized = true) (h2 : q.limited = true) (i : Nat) (hi : i < l.length) (hh : q.has l[i].row l[i].col = true) :
  ∃ hj : q.idx l[i].row l[i].col < (stay q (l.take i)).length, (stay q (l.take i))[q.idx l[i].row l[i].col].row = l[i].row ∧ (stay q (l.take i))[q.idx l[i].row l[i].col].col = l[i].col ∧ stay q (l.take (i + 1)) = (stay q (l.take i)).set (q.idx l[i].row l[i].col) l[i] := by
 have hS := stayed_take hwf h1 h2 i (by omega)
 obtain ⟨hj, f0, fr, fc⟩ := hS.free hwf hi hh
 refine ⟨hj, fr, fc, ?_⟩
 rw [stay_take q l i hi]
 unfold stayStep
 by_cases h0 : l[i].st = 0
 ·rw [if_neg (fun e => e.1 h0)]
  have e := bare_eq (hwf.seat _ (List.getElem_mem hi)) (hS.wf.seat _ (List.getElem_mem hj)) h0 f0 fr fc
  have h3 : (stay q (l.take i)).set (q.idx l[i].row l[i].col) ((stay q (l.take i))[q.idx l[i].row l[i].col]) = stay q (l.take i) := List.set_getElem_self hj
  rw [e] at h3
  exact h3.symm
 ·rw [if_pos ⟨h0, hh⟩]
def nV (num : Int) (Q : Pla) (g E cap : Nat) (ep : Int) : Array Value :=
 #[.int .i64 num, .int .i64 Q.rows, .int .i64 Q.cols, .int .i64 Q.front, .int .i64 Q.l0, .int .i64 Q.l1, .int .i64 Q.l2, .int .i64 Q.l3, .slice (some ⟨g, 0, none⟩) E cap, .int .i64 ep]
structure NewF (w wr : World) (nb g cap : Nat) (Q : Pla) (num ep : Int) (acc : List Sea) : Prop where
 has : Has wr nb (nV num Q g acc.length cap ep) 134
 row : RowS wr g cap acc
 wf : Wf Q acc
 ne : nb ≠ g
 new : w.heap.size ≤ nb ∧ w.heap.size ≤ g
 mod : Mod No w wr
theorem NewF.flR {w wr : World} {nb g cap : Nat} {Q : Pla} {num ep : Int} {acc : List Sea} (h : NewF w wr nb g cap Q num ep acc) : FlR wr nb 0 g cap Q acc := by
 refine ⟨h.row, by have := wf_len h.wf; omega, h.ne, h.has.cell 8, fun j hj => ?_⟩
 have := h.has.cell (4 + j)
 rw [Nat.zero_add, this]
 match j, hj with
 | 0, _ => rfl
 | 1, _ => rfl
 | 2, _ => rfl
 | 3, _ => rfl
theorem NewF.step {w wr w2 : World} {nb g cap : Nat} {Q : Pla} {num ep : Int} {acc : List Sea} {S : Nat → Prop} (h : NewF w wr nb g cap Q num ep acc) (hm : Mod S wr w2) (h1 : ¬ S nb) (h2 : ¬ S g) (h3 : ∀ k, S k → w.heap.size ≤ k) : NewF w w2 nb g cap Q num ep acc :=
 ⟨hm.has h.has h1, h.row.mod hm h2, h.wf, h.ne, h.new, h.mod.trans' hm (fun k hk hl => by have := h3 k hk; omega)⟩
theorem NewF.still {w wr w2 : World} {nb g cap : Nat} {Q : Pla} {num ep : Int} {acc : List Sea} (h : NewF w wr nb g cap Q num ep acc) (hm : Mod No wr w2) : NewF w w2 nb g cap Q num ep acc :=
 h.step hm (fun x => x) (fun x => x) (fun k x => x.elim)
theorem NewF.put {w wr : World} {nb g cap : Nat} {Q : Pla} {num ep : Int} {acc : List Sea} (h : NewF w wr nb g cap Q num ep acc) (j : Nat) (hj : j < acc.length) (s : Sea) (hs : s.wf) (hr : acc[j].row = s.row) (hc : acc[j].col = s.col) :
  NewF w ((((((wr.setCell ⟨g, j * 6, none⟩ (.int .i64 s.row)).setCell ⟨g, j * 6 + 1, none⟩ (.int .i64 s.col)).setCell ⟨g, j * 6 + 2, none⟩ (.int .i64 s.st)).setCell ⟨g, j * 6 + 3, none⟩ (.int .i64 s.pa)).setCell ⟨g, j * 6 + 4, none⟩ (.int .i64 s.cl)).setCell ⟨g, j * 6 + 5, none⟩ (.int .i64 s.un)) nb g cap Q num ep (acc.set j s) := by
 have hm := (Mod.refl (fun k => k = g) wr).put6 rfl j (.int .i64 s.row) (.int .i64 s.col) (.int .i64 s.st) (.int .i64 s.pa) (.int .i64 s.cl) (.int .i64 s.un)
 have hh := hm.has h.has h.ne
 refine ⟨?_, h.row.put6 j hj s, h.wf.set hj hs hr.symm hc.symm, h.ne, h.new, h.mod.trans' hm (fun k hk hl => by have := h.new.2; omega)⟩
 rw [List.length_set]
 exact hh
structure StI (w wr : World) (nb g cap : Nat) (Q : Pla) (num ep : Int) (l : List Sea) (v : Value) (i : Nat) : Prop where
 n : NewF w wr nb g cap Q num ep (stay Q (l.take i))
 home : wr.ownsRow 0 63 6 v (nHome Q l i) ((homeless Q (l.take i)).flatMap seaL)
 own : ∀ k, v.ownBlock = some k → w.heap.size ≤ k ∧ k ≠ nb ∧ k ≠ g
theorem StI.still {w wr w2 : World} {nb g cap : Nat} {Q : Pla} {num ep : Int} {l : List Sea} {v : Value} {i : Nat} (h : StI w wr nb g cap Q num ep l v i) (hm : Mod No wr w2) : StI w w2 nb g cap Q num ep l v i :=
 ⟨h.n.still hm, hm.owns h.home (fun _ _ x => x), h.own⟩
theorem StI.start {w wr : World} {nb g cap : Nat} {Q : Pla} {num ep : Int} (l : List Sea) (h : NewF w wr nb g cap Q num ep (emptySeats Q)) : StI w wr nb g cap Q num ep l (.slice none 0 0) 0 :=
 ⟨h, World.ownsRow_nil _ _ _ _, fun k hk => by simp [Value.ownBlock] at hk⟩
theorem StI.pass {w wr : World} {nb g cap : Nat} {Q : Pla} {num ep : Int} {l : List Sea} {v : Value} {i : Nat} (h : StI w wr nb g cap Q num ep l v i) (hi : i < l.length) (hn : Q.has l[i].row l[i].col = false) (h0 : l[i].st = 0) : StI w wr nb g cap Q num ep l v (i + 1) := by
 have e1 : stay Q (l.take (i + 1)) = stay Q (l.take i) := by
  rw [stay_take Q l i hi]
  unfold stayStep
  rw [if_neg (fun e => e.1 h0)]
 have e2 : homeless Q (l.take (i + 1)) = homeless Q (l.take i) := by
  rw [homeless_take Q l i hi, if_neg (fun e => e.1 h0), List.append_nil]
 refine ⟨by rw [e1]; exact h.n, ?_, h.own⟩
 have := h.home
 unfold nHome at *
 rw [e2]
 exact this
theorem StI.lay {p : Pla} {w wr : World} {nb g cap : Nat} {Q : Pla} {num ep : Int} {l : List Sea} {v : Value} {i : Nat} (h : StI w wr nb g cap Q num ep l v i) (hwf : Wf p l) (h1 : Q.sized = true) (h2 : Q.limited = true) (hi : i < l.length) (hh : Q.has l[i].row l[i].col = true) (s : Sea) (hs : l[i] = s) :
  StI w ((((((wr.setCell ⟨g, Q.idx s.row s.col * 6, none⟩ (.int .i64 s.row)).setCell ⟨g, Q.idx s.row s.col * 6 + 1, none⟩ (.int .i64 s.col)).setCell ⟨g, Q.idx s.row s.col * 6 + 2, none⟩ (.int .i64 s.st)).setCell ⟨g, Q.idx s.row s.col * 6 + 3, none⟩ (.int .i64 s.pa)).setCell ⟨g, Q.idx s.row s.col * 6 + 4, none⟩ (.int .i64 s.cl)).setCell ⟨g, Q.idx s.row s.col * 6 + 5, none⟩ (.int .i64 s.un)) nb g cap Q num ep l v (i + 1) := by
 subst hs
 obtain ⟨hj, fr, fc, e1⟩ := stay_put hwf h1 h2 i hi hh
 have e2 : homeless Q (l.take (i + 1)) = homeless Q (l.take i) := by
  rw [homeless_take Q l i hi, if_neg (fun e => e.2 hh), List.append_nil]
 have hm := (Mod.refl (fun k => k = g) wr).put6 rfl (Q.idx l[i].row l[i].col) (.int .i64 l[i].row) (.int .i64 l[i].col) (.int .i64 l[i].st) (.int .i64 l[i].pa) (.int .i64 l[i].cl) (.int .i64 l[i].un)
 refine ⟨?_, ?_, h.own⟩
 ·rw [e1]
  exact h.n.put _ hj l[i] (hwf.seat _ (List.getElem_mem hi)) fr fc
 ·have := hm.owns h.home (fun k hk e => (h.own k hk).2.2 e)
  unfold nHome at *
  rw [e2]
  exact this
theorem nHome_same {Q : Pla} {l : List Sea} {i : Nat} (hi : i < l.length) (h : ¬ (l[i].st ≠ 0 ∧ ¬ Q.has l[i].row l[i].col = true)) : nHome Q l (i + 1) = nHome Q l i := by
 unfold nHome
 rw [homeless_take Q l i hi, if_neg h, List.append_nil]
theorem nHome_more {Q : Pla} {l : List Sea} {i : Nat} (hi : i < l.length) (h : l[i].st ≠ 0 ∧ ¬ Q.has l[i].row l[i].col = true) : nHome Q l (i + 1) = nHome Q l i + 1 := by
 unfold nHome
 rw [homeless_take Q l i hi, if_pos h, List.length_append]
 rfl
theorem nHome_le (Q : Pla) (l : List Sea) (i : Nat) : nHome Q l i ≤ l.length := by
 unfold nHome homeless
 have := List.length_filter_le (fun s : Sea => s.st != 0 && !Q.has s.row s.col) (l.take i)
 rw [List.length_take] at this
 omega
theorem StI.leave {w wr w2 w3 : World} {nb g cap : Nat} {Q : Pla} {num ep : Int} {l : List Sea} {v v' : Value} {i : Nat} (h : StI w wr nb g cap Q num ep l v i) (hi : i < l.length) (hn : Q.has l[i].row l[i].col = false) (h0 : l[i].st ≠ 0) (hm : Mod No wr w2) (o : Obj)
  (ho : w3.ownsRow 0 63 6 v' (nHome Q l i + 1) ((homeless Q (l.take i)).flatMap seaL ++ seaL l[i])) (hg : (w2.alloc o).grownBy w3 v.ownBlock) (hs : Stays (w2.alloc o) v v') : StI w w3 nb g cap Q num ep l v' (i + 1) := by
 have e1 : stay Q (l.take (i + 1)) = stay Q (l.take i) := by
  rw [stay_take Q l i hi]
  unfold stayStep
  rw [if_neg (fun e => by have := e.2; rw [hn] at this; cases this)]
 have e2 : homeless Q (l.take (i + 1)) = homeless Q (l.take i) ++ [l[i]] := by
  rw [homeless_take Q l i hi, if_pos ⟨h0, by rw [hn]; simp⟩]
 have hM : Mod (fun k => w.heap.size ≤ k ∧ k ≠ nb ∧ k ≠ g) wr w3 := ((hm.mono (fun _ _ x => x.elim)).alloc o).grown hg (fun k hk => .inl (h.own k hk))
 have hlt := h.n.row.lt
 have hlt2 := h.n.has.lt
 have hsz := h.n.mod.size
 have hs2 := (hm.alloc o).size
 refine ⟨by rw [e1]; exact h.n.step hM (fun x => x.2.1 rfl) (fun x => x.2.2 rfl) (fun k x => x.1), ?_, fun k hk => ?_⟩
 ·unfold nHome at *
  rw [e2, List.length_append, List.flatMap_append]
  simpa using ho
 ·rcases hs k hk with e | e
  ·exact h.own k e
  ·omega
end Go.Proofs.YthhibagcpjeihaaGreat
