import Derived.Test.YthhibagcpjeihaaKStsToPaged2
import Derived.Test.YthhibagcpjeihaaKPg4ToPg6
import Derived.Deep.DeepCutAuto
import Derived.Test.YthhibagcpjeihaaKRd3ToSeat
import Derived.Test.YthhibagcpjeihaaKBaseToAppend
namespace Go.Proofs.Ythhibagcpjeihaa
open Go.RowKit
open M
set_option linter.unusedVariables false
set_option linter.unusedSimpArgs false
set_option maxRecDepth 100000
set_option maxHeartbeats 1500000
structure WhoI (w wr : World) (rb ab : Nat) (now : Int) (lf : Nat → Int) (c : Nat → Nat → Int) (s : Nat → Nat → Nat → Int) : Prop where
 res : Has wr rb (tab (fun _ => 0) 15457) 85
 box : Has wr ab (tab (allG now lf c s) 15457) 85
 mod : Mod No w wr
 rn : w.heap.size ≤ rb
 an : w.heap.size ≤ ab
 ne : ab ≠ rb
theorem WhoI.still {w wr w2 : World} {rb ab : Nat} {now : Int} {lf : Nat → Int} {c : Nat → Nat → Int} {s : Nat → Nat → Nat → Int} (h : WhoI w wr rb ab now lf c s) (hm : Mod No wr w2) : WhoI w w2 rb ab now lf c s :=
 ⟨hm.has h.res (fun x => x), hm.has h.box (fun x => x), h.mod.trans hm, h.rn, h.an, h.ne⟩
theorem WhoI.cell {w wr : World} {rb ab : Nat} {now : Int} {lf : Nat → Int} {c : Nat → Nat → Int} {s : Nat → Nat → Nat → Int} (h : WhoI w wr rb ab now lf c s) (o : Nat) (ho : o < 15457) : wr.cell? ⟨ab, o, none⟩ = some (.int .i64 (allG now lf c s o)) := by
 rw [h.box.cell, tab_get _ _ _ ho]
theorem WhoI.put {w wr : World} {rb ab : Nat} {now : Int} {lf : Nat → Int} {c c' : Nat → Nat → Int} {s s' : Nat → Nat → Nat → Int} (h : WhoI w wr rb ab now lf c s) (o : Nat) (v : Int) (he : (fun j => if j = o then v else allG now lf c s j) = allG now lf c' s') :
  WhoI w (wr.setCell ⟨ab, o, none⟩ (.int .i64 v)) rb ab now lf c' s' := by
 have hb := h.box.set o (.int .i64 v)
 rw [tab_set, he] at hb
 exact ⟨h.res.set_ne (fun e => h.ne e.symm) _, hb, h.mod.setCell (p := ⟨ab, o, none⟩) (.inr h.an) _, h.rn, h.an, h.ne⟩
theorem WhoI.congr {w wr : World} {rb ab : Nat} {now : Int} {lf : Nat → Int} {c c' : Nat → Nat → Int} {s s' : Nat → Nat → Nat → Int} (h : WhoI w wr rb ab now lf c s) (hc : ∀ a b, a < 21 → b < 12 → c a b = c' a b) (hs : ∀ a i t, a < 21 → i < 120 → t < 6 → s a i t = s' a i t) : WhoI w wr rb ab now lf c' s' := by
 refine ⟨h.res, ?_, h.mod, h.rn, h.an, h.ne⟩
 have e : tab (allG now lf c' s') 15457 = tab (allG now lf c s) 15457 := tab_congr (fun j hj => by
  unfold allG
  by_cases h0 : j = 0
  ·rw [if_pos h0, if_pos h0]
  rw [if_neg h0, if_neg h0]
  by_cases h1 : j < 253
  ·rw [if_pos h1, if_pos h1]
   exact (hc _ _ (by omega) (by omega)).symm
  rw [if_neg h1, if_neg h1]
  by_cases h2 : j < 337
  ·rw [if_pos h2, if_pos h2]
  rw [if_neg h2, if_neg h2]
  exact (hs _ _ _ (by omega) (by omega) (by omega)).symm)
 rw [e]
 exact h.box
theorem WhoI.counts {w : World} {rb ab : Nat} {now : Int} {lf : Nat → Int} {s : Nat → Nat → Nat → Int} (n : Nat) (hn : n < 21) : ∀ (vs : List Int) (t : Nat) (wr : World) (c : Nat → Nat → Int), t + vs.length ≤ 12 → WhoI w wr rb ab now lf c s →
  WhoI w (wr.setCells ab (1 + n * 12 + t) (vs.map (Value.int .i64))) rb ab now lf (fun a b => if a = n ∧ t ≤ b ∧ b < t + vs.length then vs.getD (b - t) 0 else c a b) s
 | [], t, wr, c, ht, h => h.congr (fun a b _ _ => by rw [if_neg (by rintro ⟨_, q1, q2⟩; simp at q2; omega)]) (fun _ _ _ _ _ _ => rfl)
 | v :: r, t, wr, c, ht, h => by
  simp only [List.length_cons] at ht
  have h1 := h.put (1 + n * 12 + t) v (allG_cnt n t hn (by omega) v)
  have h2 := WhoI.counts n hn r (t + 1) _ _ (by omega) h1
  refine h2.congr (fun a b ha hb => ?_) (fun _ _ _ _ _ _ => rfl)
  simp only [List.length_cons]
  by_cases e : a = n
  ·subst e
   by_cases e1 : b = t
   ·subst e1
    rw [if_neg (by omega), if_pos ⟨rfl, rfl⟩, if_pos ⟨rfl, by omega, by omega⟩]
    simp
   ·by_cases e2 : t + 1 ≤ b ∧ b < t + 1 + r.length
    ·rw [if_pos ⟨rfl, e2⟩, if_pos ⟨rfl, by omega, by omega⟩]
     rw [show b - t = (b - (t + 1)) + 1 by omega]
     simp
    ·rw [if_neg (fun q => e2 q.2), if_neg (by omega), if_neg (by omega)]
  ·rw [if_neg (by omega), if_neg (by omega), if_neg (by omega)]
def totL (p : Pla) (l : List Sea) : List Int := [cA p l 0, cA p l 1, cA p l 2, cA p l 3, cB p l 0, cB p l 1, cB p l 2, cB p l 3, cS l 0, cS l 1, cS l 2, cS l 3]
theorem totL_at (p : Pla) (l : List Sea) (b : Nat) (hb : b < 12) : (totL p l).getD b 0 = totN p l b := by
 have : b = 0 ∨ b = 1 ∨ b = 2 ∨ b = 3 ∨ b = 4 ∨ b = 5 ∨ b = 6 ∨ b = 7 ∨ b = 8 ∨ b = 9 ∨ b = 10 ∨ b = 11 := by omega
 rcases this with h | h | h | h | h | h | h | h | h | h | h | h <;> (subst h; rfl)
theorem WhoI.seat {w wr : World} {rb ab : Nat} {now : Int} {lf : Nat → Int} {c : Nat → Nat → Int} {s : Nat → Nat → Nat → Int} (h : WhoI w wr rb ab now lf c s) (n i : Nat) (hn : n < 21) (hi : i < 120) (x : Sea) :
  WhoI w ((((((wr.setCell ⟨ab, 337 + n * 720 + i * 6, none⟩ (.int .i64 x.row)).setCell ⟨ab, 337 + n * 720 + i * 6 + 1, none⟩ (.int .i64 x.col)).setCell ⟨ab, 337 + n * 720 + i * 6 + 2, none⟩ (.int .i64 x.st)).setCell ⟨ab, 337 + n * 720 + i * 6 + 3, none⟩ (.int .i64 x.pa)).setCell ⟨ab, 337 + n * 720 + i * 6 + 4, none⟩ (.int .i64 x.cl)).setCell ⟨ab, 337 + n * 720 + i * 6 + 5, none⟩ (.int .i64 x.un)) rb ab now lf c (fun a b t => if a = n ∧ b = i then seaN x t else s a b t) := by
 have h0 := h.put _ x.row (allG_seat n i 0 hn hi (by omega) x.row)
 have h1 := h0.put _ x.col (allG_seat n i 1 hn hi (by omega) x.col)
 have h2 := h1.put _ x.st (allG_seat n i 2 hn hi (by omega) x.st)
 have h3 := h2.put _ x.pa (allG_seat n i 3 hn hi (by omega) x.pa)
 have h4 := h3.put _ x.cl (allG_seat n i 4 hn hi (by omega) x.cl)
 have h5 := h4.put _ x.un (allG_seat n i 5 hn hi (by omega) x.un)
 refine h5.congr (fun _ _ _ _ => rfl) (fun a b t ha hb ht => ?_)
 by_cases e : a = n ∧ b = i
 ·rw [if_pos e]
  obtain ⟨rfl, rfl⟩ := e
  have : t = 0 ∨ t = 1 ∨ t = 2 ∨ t = 3 ∨ t = 4 ∨ t = 5 := by omega
  rcases this with h | h | h | h | h | h <;> (subst h; simp [seaN])
 ·rw [if_neg e]
  have e' : ∀ k, ¬ (a = n ∧ b = i ∧ t = k) := fun k q => e ⟨q.1, q.2.1⟩
  simp only [if_neg (e' _)]
theorem built_at (now : Int) (lf : Nat → Int) (a : Act) (h1 : a.eval (.tmp 11) = .int .i64 now) (h2 : a.eval (.tmp 13) = .agg (tab lf 84)) :
  Try.prog.built 85 ((#[(0, Operand.tmp 11), (2, Operand.tmp 13)] : Array (Nat × Operand)).map fun (i, x) => (i, a.eval x)).toList = some (tab (allG now lf (fun _ _ => 0) (fun _ _ _ => 0)) 15457) := by
 have : ((#[(0, Operand.tmp 11), (2, Operand.tmp 13)] : Array (Nat × Operand)).map fun (i, x) => (i, a.eval x)).toList = [(0, .int .i64 now), (2, .agg (tab lf 84))] := by simp [h1, h2]
 rw [this]
 exact built_all now lf
theorem whole_walk {w : World} {ow : Nat → Nat} {kb : Nat} {now : Int} {fl : Fls} (h : KeepH w ow kb now fl) (h0 : fl 0 = none) :
  Calls Try.prog 30 #[.pointer (some ⟨kb, 0, none⟩)] w fun e w' => e = .returned (.agg (tab (allF now fl) 15457)) ∧ Mod No w w' := by
 have HNow := hide (show ∀ W, Mod No w W → Calls Try.prog 24 #[.pointer (some ⟨kb, 0, none⟩)] W fun e w' => e = .returned (.int .i64 now) ∧ w' = W from fun W hW => by
  obtain ⟨pt, hx⟩ := h.mod hW (fun _ _ x => x)
  exact now_any hx)
 have HLeft := hide fun W (hW : Mod No w W) => leftT_walk (h.mod hW (fun _ _ x => x))
 have HCnt := hide fun W (hW : Mod No w W) (n : Int) => count_any (h.mod hW (fun _ _ x => x)) n
 have HSe := hide fun W (hW : Mod No w W) (n : Nat) (hn : 1 ≤ n ∧ n ≤ 20) p l (hf : fl n = some (p, l)) => seatsAll_walk (w := W) (h.wf (by omega) hf) kb n 30 (by omega) (fun W' hW' r c e => by
  have := seats_any (h.mod (hW.trans hW') (fun _ _ x => x)) n r c e 30
  unfold seatsK at this
  rw [if_neg (by omega), Int.toNat_natCast, hf] at this
  exact this)
 have HWF := hide fun (n : Nat) (hn : n < 21) p l (hf : fl n = some (p, l)) => h.wf hn hf
 clear h
 have HB := hide (built_at now (leftT fl))
 have M0 := hide ((Mod.refl No w).alloc (.cells Try.zeroCells85 85))
 go_enter Try.func30, Try.ntmps30
 go_wp2_with fail
 refine ((unhide HNow) _ (unhide M0)).mono ?_
 rintro e w1 ⟨rfl, rfl⟩
 go_wp2_with fail
 refine ((unhide HLeft) _ (unhide M0)).mono ?_
 rintro e w1 ⟨rfl, m1⟩
 have A1 := hide (Has.new w1 Try.zeroCells85 85)
 have R1 := hide (m1.has (Has.new w Try.zeroCells85 85) (fun x => x))
 have M1 := hide ((unhide M0).trans m1)
 clear m1 M0
 rename_i Q0 K1 k1 K0 k0
 refine k0 _ _ ?_
 refine wpList_buildTo rfl 85 _ rfl (some 14) rfl _ ((unhide HB) _ rfl rfl) ?_
 have SC := hide (show (tab (allG now (leftT fl) (fun _ _ => 0) (fun _ _ _ => 0)) 15457).size = 15457 from tab_size _ _)
 have OC := hide (tab_one (allG now (leftT fl) (fun _ _ => 0) (fun _ _ _ => 0)) 15457)
 generalize hcs : tab (allG now (leftT fl) (fun _ _ => 0) (fun _ _ _ => 0)) 15457 = cs at *
 have EC := hide hcs
 clear hcs HB
 go_wp2_with (refine wpList_store_has rfl 85 _ _ rfl w1.heap.size cs rfl rfl Try.zeroCells85 85 (unhide A1) ((unhide SC).trans Try.zeroCells85_size.symm) (by rw [unhide SC]; exact sizeA) (unhide OC) ?_; intro w2 h2 m2)
 have LT := hide (unhide R1).lt
 have I0 := hide (show WhoI w w2 w.heap.size w1.heap.size now (leftT fl) (cntF (below fl 1)) (setF (below fl 1)) from by
  have hr := m2.has ((unhide R1).alloc (.cells Try.zeroCells85 85)) (fun e => by have := unhide LT; omega)
  rw [zeroA] at hr
  rw [← unhide EC] at h2
  refine (show WhoI w w2 w.heap.size w1.heap.size now (leftT fl) (fun _ _ => 0) (fun _ _ _ => 0) from ⟨hr, h2, ((unhide M1).alloc _).trans' m2 (fun k e hl => by subst e; exact absurd hl (by have := (unhide M1).size; omega)), Nat.le_refl _, (unhide M1).size, fun e => by have := unhide LT; omega⟩).congr (fun a b _ _ => ?_) (fun a i t _ _ _ => ?_)
  ·unfold cntF
   rw [below_none h0, below_zero]
   rfl
  ·unfold setF
   rw [below_none h0, below_zero]
   rfl)
 clear R1 M1 h2 m2 SC OC EC A1 HNow HLeft LT
 generalize w1.heap.size = ab at *
 generalize w.heap.size = rb at *
 clear w1
 go_loopw [4] (fun x wr => ∃ n : Nat, x = .int .i64 n ∧ 1 ≤ n ∧ n ≤ 21 ∧ Hid (WhoI w wr rb ab now (leftT fl) (cntF (below fl n)) (setF (below fl n)))) (fun x _ => 21 - (intOf x).toNat)
 case atStart => exact ⟨1, rfl, by omega, by omega, I0⟩
 case round =>
  obtain ⟨n, rfl, hn1, hn2, I⟩ := hrel
  clear I0
  by_cases h21 : n = 21
  ·subst h21
   have hcond : ¬ ((21 : Nat) : Int) ≤ 20 := by omega
   go_upto_region 13 with fail
   have J := (unhide I).congr (c' := cntF fl) (s' := setF fl) (fun a b ha _ => by unfold cntF below; rw [if_pos ha]) (fun a i t ha _ _ => by unfold setF below; rw [if_pos ha])
   obtain ⟨cz, hz⟩ : ∃ cz, cz = tab (allF now fl) 15457 := ⟨_, rfl⟩
   obtain ⟨cy, hy⟩ : ∃ cy, cy = tab (fun _ => (0 : Int)) 15457 := ⟨_, rfl⟩
   have SZ : cz.size = 15457 := by rw [hz]; exact tab_size _ _
   have SY : cy.size = 15457 := by rw [hy]; exact tab_size _ _
   have OZ : cz.all (·.oneCell') = true := by rw [hz]; exact tab_one _ _
   have B : Has wr ab cz 85 := by rw [hz]; exact J.box
   have R : Has wr rb cy 85 := by rw [hy]; exact J.res
   have M := hide J.mod
   have RN := hide J.rn
   have HZ := hide hz
   clear hz hy J I HCnt HSe HWF
   refine wp_region_list ?_
   refine (wpList_load_has rfl 85 _ rfl ab 0 rfl cz 85 B cz (fun j v h => by rw [Nat.zero_add]; simpa using h) rowA (by rw [SZ]; exact sizeA) ?_)
   refine (wpList_store_has rfl 85 _ _ rfl rb cz rfl rfl cy 85 R (by rw [SZ, SY]) (by rw [SZ]; exact sizeA) OZ ?_)
   intro w5 h5 m5
   have H5 := hide h5
   have M5 := hide ((unhide M).trans' (S := No) m5 (fun i e hl => by subst e; have := unhide RN; omega))
   have SZ := hide SZ
   clear m5 h5 B R OZ SY M
   go_wp2
   refine bodyPost_ret (results_box Try.results30 rfl (unhide H5) rowA (by rw [unhide SZ]; exact sizeA)) rfl ?_
   exact ⟨by rw [unhide HZ], unhide M5⟩
  have hcond : (n : Int) ≤ 20 := by omega
  have hw1 : IntKind.i64.wrap ((n : Int) + 1) = ((n + 1 : Nat) : Int) := by rw [wrap_id _ (by omega) (by omega)]; rfl
  have HC := hide ((unhide HCnt) wr (unhide I).mod n)
  unfold countK at HC
  rw [if_neg (by omega), Int.toNat_natCast] at HC
  cases hf : fl n with
  | none =>
   rw [hf] at HC
   simp only at HC
   unfold zero51 at HC
   go_wp2_with fail
   refine (unhide HC).mono ?_
   rintro e w3 ⟨rfl, m3⟩
   have I3 := hide (((unhide I).still m3).still ((Mod.refl No w3).alloc (.cells #[.int .i64 0, .int .i64 0, .int .i64 0, .int .i64 0, .int .i64 0, .int .i64 0, .int .i64 0, .int .i64 0, .int .i64 0, .int .i64 0, .int .i64 0, .int .i64 0] 45)))
   clear m3 I HC
   rw [← below_none hf] at I3
   go_wp2
   exact ⟨⟨n + 1, rfl, by omega, by omega, I3⟩, by simp [intOf]; omega⟩
  | some x =>
   obtain ⟨p, l⟩ := x
   rw [hf] at HC
   simp only at HC
   unfold totV at HC
   have hwf := (unhide HWF) n (by omega) p l hf
   have HWfn := hide hwf
   have h120 : l.length ≤ 120 := Fli.wf.len_le hwf
   have hpos := one_seat hwf
   have HSn := hide fun W hW => (unhide HSe) W hW n (by omega) p l hf
   have hF := hide hf
   clear hwf hf
   go_wp2_with fail
   refine (unhide HC).mono ?_
   rintro e w3 ⟨rfl, m3⟩
   have I3 := hide (((unhide I).still m3).still ((Mod.refl No w3).alloc (.cells #[.int .i64 (cA p l 0), .int .i64 (cA p l 1), .int .i64 (cA p l 2), .int .i64 (cA p l 3), .int .i64 (cB p l 0), .int .i64 (cB p l 1), .int .i64 (cB p l 2), .int .i64 (cB p l 3), .int .i64 (cS l 0), .int .i64 (cS l 1), .int .i64 (cS l 2), .int .i64 (cS l 3)] 45)))
   have B3 := hide (Has.new w3 #[.int .i64 (cA p l 0), .int .i64 (cA p l 1), .int .i64 (cA p l 2), .int .i64 (cA p l 3), .int .i64 (cB p l 0), .int .i64 (cB p l 1), .int .i64 (cB p l 2), .int .i64 (cB p l 3), .int .i64 (cS l 0), .int .i64 (cS l 1), .int .i64 (cS l 2), .int .i64 (cS l 3)] 45)
   clear m3 I HC
   go_upto_region 7 with fail
   generalize w3.alloc _ = w4 at *
   generalize w3.heap.size = tb at *
   have i0 : (0 : Int) ≤ n := by omega
   have i21 : (n : Int) < 21 := by omega
   have tc := (unhide B3).cell
   have tl := (unhide B3).lt
   have af := (unhide I3).box.frozen
   have al := (unhide I3).box.lt
   have g0 : w4.cell? ⟨ab, 1 + n * 12, none⟩ = some _ := (unhide I3).cell (1 + n * 12) (by omega)
   have g1 : w4.cell? ⟨ab, 1 + n * 12 + 1, none⟩ = some _ := (unhide I3).cell (1 + n * 12 + 1) (by omega)
   have g2 : w4.cell? ⟨ab, 1 + n * 12 + 2, none⟩ = some _ := (unhide I3).cell (1 + n * 12 + 2) (by omega)
   have g3 : w4.cell? ⟨ab, 1 + n * 12 + 3, none⟩ = some _ := (unhide I3).cell (1 + n * 12 + 3) (by omega)
   have g4 : w4.cell? ⟨ab, 1 + n * 12 + 4, none⟩ = some _ := (unhide I3).cell (1 + n * 12 + 4) (by omega)
   have g5 : w4.cell? ⟨ab, 1 + n * 12 + 5, none⟩ = some _ := (unhide I3).cell (1 + n * 12 + 5) (by omega)
   have g6 : w4.cell? ⟨ab, 1 + n * 12 + 6, none⟩ = some _ := (unhide I3).cell (1 + n * 12 + 6) (by omega)
   have g7 : w4.cell? ⟨ab, 1 + n * 12 + 7, none⟩ = some _ := (unhide I3).cell (1 + n * 12 + 7) (by omega)
   have g8 : w4.cell? ⟨ab, 1 + n * 12 + 8, none⟩ = some _ := (unhide I3).cell (1 + n * 12 + 8) (by omega)
   have g9 : w4.cell? ⟨ab, 1 + n * 12 + 9, none⟩ = some _ := (unhide I3).cell (1 + n * 12 + 9) (by omega)
   have g10 : w4.cell? ⟨ab, 1 + n * 12 + 10, none⟩ = some _ := (unhide I3).cell (1 + n * 12 + 10) (by omega)
   have g11 : w4.cell? ⟨ab, 1 + n * 12 + 11, none⟩ = some _ := (unhide I3).cell (1 + n * 12 + 11) (by omega)
   generalize allG now (leftT fl) (cntF (below fl n)) (setF (below fl n)) = ag at g0 g1 g2 g3 g4 g5 g6 g7 g8 g9 g10 g11
   have HJ := hide ((unhide I3).counts n (by omega) (totL p l) 0 _ _ (by simp [totL]))
   go_wp2_with fail
   have I5 := hide (show WhoI w ((((((((((((w4.setCell ⟨ab, 1 + n * 12, none⟩ (.int .i64 (cA p l 0))).setCell ⟨ab, 1 + n * 12 + 1, none⟩ (.int .i64 (cA p l 1))).setCell ⟨ab, 1 + n * 12 + 2, none⟩ (.int .i64 (cA p l 2))).setCell ⟨ab, 1 + n * 12 + 3, none⟩ (.int .i64 (cA p l 3))).setCell ⟨ab, 1 + n * 12 + 4, none⟩ (.int .i64 (cB p l 0))).setCell ⟨ab, 1 + n * 12 + 5, none⟩ (.int .i64 (cB p l 1))).setCell ⟨ab, 1 + n * 12 + 6, none⟩ (.int .i64 (cB p l 2))).setCell ⟨ab, 1 + n * 12 + 7, none⟩ (.int .i64 (cB p l 3))).setCell ⟨ab, 1 + n * 12 + 8, none⟩ (.int .i64 (cS l 0))).setCell ⟨ab, 1 + n * 12 + 9, none⟩ (.int .i64 (cS l 1))).setCell ⟨ab, 1 + n * 12 + 10, none⟩ (.int .i64 (cS l 2))).setCell ⟨ab, 1 + n * 12 + 11, none⟩ (.int .i64 (cS l 3))) rb ab now (leftT fl) _ _ from unhide HJ)
   clear HJ I3 B3 tc tl af al g0 g1 g2 g3 g4 g5 g6 g7 g8 g9 g10 g11
   generalize ((((((((((((w4.setCell ⟨ab, 1 + n * 12, none⟩ (.int .i64 (cA p l 0))).setCell ⟨ab, 1 + n * 12 + 1, none⟩ (.int .i64 (cA p l 1))).setCell ⟨ab, 1 + n * 12 + 2, none⟩ (.int .i64 (cA p l 2))).setCell ⟨ab, 1 + n * 12 + 3, none⟩ (.int .i64 (cA p l 3))).setCell ⟨ab, 1 + n * 12 + 4, none⟩ (.int .i64 (cB p l 0))).setCell ⟨ab, 1 + n * 12 + 5, none⟩ (.int .i64 (cB p l 1))).setCell ⟨ab, 1 + n * 12 + 6, none⟩ (.int .i64 (cB p l 2))).setCell ⟨ab, 1 + n * 12 + 7, none⟩ (.int .i64 (cB p l 3))).setCell ⟨ab, 1 + n * 12 + 8, none⟩ (.int .i64 (cS l 0))).setCell ⟨ab, 1 + n * 12 + 9, none⟩ (.int .i64 (cS l 1))).setCell ⟨ab, 1 + n * 12 + 10, none⟩ (.int .i64 (cS l 2))).setCell ⟨ab, 1 + n * 12 + 11, none⟩ (.int .i64 (cS l 3))) = w5 at *
   have N5 := hide (unhide I5).mod.size
   refine ((unhide HSn) _ (unhide I5).mod).mono ?_
   rintro e w6 ⟨⟨a1, c1, rfl, ho1, hn1⟩, m1⟩
   obtain ⟨g, rfl, hR1⟩ := rowS_told ho1 hpos
   have I6 := hide ((unhide I5).still m1)
   have R6 := hide hR1
   have GN := hide (show g ≠ ab from fun e => by
    have h1 := hn1 g rfl
    have h2 := (unhide I5).box.lt
    omega)
   clear I5 m1 ho1 hn1 hR1 N5 ag
   go_wp2_with fail
   go_loopw [9] (fun s9 wx => ∃ i : Nat, s9 = .int .i64 (i : Int) ∧ i ≤ l.length ∧ Hid (WhoI w wx rb ab now (leftT fl) (cntF (below fl (n + 1))) (fun a k t => if a = n then (if k < i then seaF l k t else 0) else setF (below fl n) a k t) ∧ RowS wx g c1 l)) (fun s9 _ => l.length - (intOf s9).toNat)
   case atStart =>
    refine ⟨0, rfl, by omega, hide ⟨(unhide I6).congr (fun a b ha hb => ?_) (fun a k t ha hk ht => ?_), unhide R6⟩⟩
    ·unfold cntF
     rw [below_some (unhide hF)]
     by_cases e : a = n
     ·simp only [if_pos e]
      rw [if_pos ⟨e, by omega, by simp [totL]; omega⟩]
      exact totL_at p l b hb
     ·simp only [if_neg e]
      rw [if_neg (fun q => e q.1)]
    ·by_cases e : a = n
     ·simp only [if_pos e]
      rw [if_neg (by omega)]
      unfold setF below
      rw [if_neg (by omega)]
     ·simp only [if_neg e]
   case round =>
    obtain ⟨i, rfl, hi, IR⟩ := hrel
    clear I6 R6
    by_cases hil : i < l.length
    ·have hil' : (i : Int) < (l.length : Int) := by omega
     have hi0 : (0 : Int) ≤ (i : Int) := by omega
     have hi120 : (i : Int) < 120 := by omega
     have hwi : IntKind.i64.wrap ((i : Int) + 1) = ((i + 1 : Nat) : Int) := by rw [wrap_id _ (by omega) (by omega)]; rfl
     obtain ⟨J, R⟩ := unhide IR
     have a0 := R.row i hil
     have a1 := R.col i hil
     have a2 := R.st i hil
     have a3 := R.pa i hil
     have a4 := R.cl i hil
     have a5 := R.un i hil
     have glt := R.lt
     have af := J.box.frozen
     have al := J.box.lt
     have g0 : wr.cell? ⟨ab, 337 + n * 720 + i * 6, none⟩ = some _ := J.cell (337 + n * 720 + i * 6) (by omega)
     have g1 : wr.cell? ⟨ab, 337 + n * 720 + i * 6 + 1, none⟩ = some _ := J.cell (337 + n * 720 + i * 6 + 1) (by omega)
     have g2 : wr.cell? ⟨ab, 337 + n * 720 + i * 6 + 2, none⟩ = some _ := J.cell (337 + n * 720 + i * 6 + 2) (by omega)
     have g3 : wr.cell? ⟨ab, 337 + n * 720 + i * 6 + 3, none⟩ = some _ := J.cell (337 + n * 720 + i * 6 + 3) (by omega)
     have g4 : wr.cell? ⟨ab, 337 + n * 720 + i * 6 + 4, none⟩ = some _ := J.cell (337 + n * 720 + i * 6 + 4) (by omega)
     have g5 : wr.cell? ⟨ab, 337 + n * 720 + i * 6 + 5, none⟩ = some _ := J.cell (337 + n * 720 + i * 6 + 5) (by omega)
     have NX := hide (J.seat n i (by omega) (by omega) l[i])
     have HIL := hide hil
     have hgab := unhide GN
     clear J R
     generalize l[i].row = x0 at *
     generalize l[i].col = x1 at *
     generalize l[i].st = x2 at *
     generalize l[i].pa = x3 at *
     generalize l[i].cl = x4 at *
     generalize l[i].un = x5 at *
     go_upto_region 12 with fail
     have FIN := hide (fun (wx : World) (hx : Mod No (((((((wr.setCell ⟨ab, 337 + n * 720 + i * 6, none⟩ (.int .i64 x0)).setCell ⟨ab, 337 + n * 720 + i * 6 + 1, none⟩ (.int .i64 x1)).setCell ⟨ab, 337 + n * 720 + i * 6 + 2, none⟩ (.int .i64 x2)).setCell ⟨ab, 337 + n * 720 + i * 6 + 3, none⟩ (.int .i64 x3)).setCell ⟨ab, 337 + n * 720 + i * 6 + 4, none⟩ (.int .i64 x4)).setCell ⟨ab, 337 + n * 720 + i * 6 + 5, none⟩ (.int .i64 x5))) wx) => (show WhoI w wx rb ab now (leftT fl) (cntF (below fl (n + 1))) (fun a k t => if a = n then (if k < i + 1 then seaF l k t else 0) else setF (below fl n) a k t) ∧ RowS wx g c1 l from by
      refine ⟨((unhide NX).still hx).congr (fun _ _ _ _ => rfl) (fun a k t ha hk ht => ?_), ?_⟩
      ·have hil := unhide HIL
       by_cases e : a = n
       ·by_cases e2 : k = i
        ·rw [if_pos ⟨e, e2⟩, if_pos e, if_pos (by omega), e2]
         unfold seaF
         rw [List.getElem?_eq_getElem hil]
        ·rw [if_neg (by omega), if_pos e, if_pos e]
         by_cases e3 : k < i
         ·rw [if_pos e3, if_pos (by omega)]
         ·rw [if_neg e3, if_neg (by omega)]
       ·rw [if_neg (by omega), if_neg e, if_neg e]
      ·exact ((unhide IR).2.mod ((((((((Mod.refl (fun k => k = ab) wr).at _ _).at _ _).at _ _).at _ _).at _ _).at _ _)) (unhide GN)).mod hx (fun x => x)))
     clear NX HIL IR
     go_region
     all_goals go_wp2
     all_goals exact ⟨⟨i + 1, rfl, by omega, hide ((unhide FIN) _ (by first | (with_reducible exact Mod.refl _ _) | (with_reducible exact (Mod.refl No _).drew)))⟩, by simp [intOf]; omega⟩
    ·have hie : i = l.length := by omega
     subst hie
     have hcond2 : ¬ ((l.length : Int) < (l.length : Int)) := by omega
     have I7 := hide ((unhide IR).1.congr (c' := cntF (below fl (n + 1))) (s' := setF (below fl (n + 1))) (fun _ _ _ _ => rfl) (fun a k t ha hk ht => by
      unfold setF
      rw [below_some (unhide hF)]
      by_cases e : a = n
      ·simp only [if_pos e]
       by_cases e2 : k < l.length
       ·rw [if_pos e2]
       ·rw [if_neg e2]
        unfold seaF
        rw [List.getElem?_eq_none (by omega)]
      ·simp only [if_neg e]))
     clear IR
     go_wp2
     exact ⟨⟨n + 1, rfl, by omega, by omega, I7⟩, by simp [intOf]; omega⟩
structure EqT (T : TypeId) (n k : Nat) (mk : (Nat → Int) → Value) : Prop where
 part : ∀ (F : Nat → Int) (N off : Nat) (w : World), off + n ≤ N → (part T (tab F N) off).run Try.prog w = .ok (mk fun j => F (off + j)) w
 eq : ∀ (f g : Nat → Int) (m : Nat) (w : World), k ≤ m → ∃ r : Bool, (Op.equalIn m T (mk f) (mk g)).run Try.prog w = .ok r w ∧ (r = true ↔ ∀ j, j < n → f j = g j)
 cells : Try.prog.cellsOf T = n
 info : ∃ i, Try.prog.info? T = some i
theorem EqT.more {T : TypeId} {n k k' : Nat} {mk : (Nat → Int) → Value} (h : EqT T n k mk) (hk : k ≤ k') : EqT T n k' mk := ⟨h.part, fun f g m w hm => h.eq f g m w (by omega), h.cells, h.info⟩
theorem cells_size {T : TypeId} {n : Nat} (h : (Try.prog.info? T).map (·.size) = some n) : Try.prog.cellsOf T = n ∧ ∃ i, Try.prog.info? T = some i ∧ i.size = n := by
 cases hi : Try.prog.info? T with
 | none => rw [hi] at h; cases h
 | some i =>
  rw [hi] at h
  have hs : i.size = n := by simpa using h
  refine ⟨?_, i, rfl, hs⟩
  unfold Program.cellsOf
  rw [hi]
  simpa using hs
theorem EqT.int {T : TypeId} {q : IntKind} (hu : Try.prog.underlying T = some (.int q)) (hs : (Try.prog.info? T).map (·.size) = some 1) : EqT T 1 1 (fun f => .int .i64 (f 0)) := by
 obtain ⟨h1, i, h2, h3⟩ := cells_size hs
 refine ⟨fun F N off w h => ?_, fun f g m w hm => ?_, h1, i, h2⟩
 ·have hg := tab_get F N off (by omega)
  unfold Go.part
  simp [Sem.run_bind, isAgg, run_underlying hu, hg]
 ·obtain ⟨m, rfl⟩ : ∃ d, m = d + 1 := ⟨m - 1, by omega⟩
  refine ⟨f 0 == g 0, run_equalIn_int w m T .i64 q _ _ hu, ?_⟩
  simp only [beq_iff_eq]
  exact ⟨fun e j hj => by rw [show j = 0 by omega]; exact e, fun e => e 0 (by omega)⟩
theorem tab_sub (F : Nat → Int) (N n off : Nat) (h : off + n ≤ N) : (tab F N).extract off (off + n) = tab (fun j => F (off + j)) n := by
 apply Array.ext
 ·simp only [Array.size_extract, tab_size]; omega
 ·intro j h1 h2
  rw [tab_size] at h2
  rw [Array.getElem_extract]
  have e1 := tab_get F N (off + j) (by omega)
  have e2 := tab_get (fun j => F (off + j)) n j h2
  rw [Array.getElem?_eq_getElem (by rw [tab_size]; omega)] at e1
  rw [Array.getElem?_eq_getElem (by rw [tab_size]; omega)] at e2
  rw [Option.some.inj e1, Option.some.inj e2]
theorem part_agg {T : TypeId} {n : Nat} (hr : (Try.prog.underlying T).map (·.isRow) = some true) (hs : (Try.prog.info? T).map (·.size) = some n) (F : Nat → Int) (N off : Nat) (w : World) (h : off + n ≤ N) :
  (part T (tab F N) off).run Try.prog w = .ok (.agg (tab (fun j => F (off + j)) n)) w := by
 obtain ⟨h1, i, h2, h3⟩ := cells_size hs
 cases hu : Try.prog.underlying T with
 | none => rw [hu] at hr; cases hr
 | some d =>
  rw [hu] at hr
  have ha : (isAgg T).run Try.prog w = .ok true w := by
   unfold isAgg
   rw [Sem.run_bind, run_underlying hu w]
   cases d <;> simp_all
  unfold Go.part
  simp only [Sem.run_bind, ha, Result.andThen_ok, if_true, run_sizeOf w h2, Sem.run_pure]
  rw [h1, tab_sub F N n off h]
theorem eqItems_any {e : TypeId} {n k : Nat} {mk : (Nat → Int) → Value} (h : EqT e n k mk) (f g : Nat → Int) (N m : Nat) (hm : k ≤ m) (w : World) : ∀ (is : List Nat), (∀ i ∈ is, i * n + n ≤ N) →
  ∃ r : Bool, (Op.eqItems m e n (tab f N) (tab g N) is).run Try.prog w = .ok r w ∧ (r = true ↔ ∀ i ∈ is, ∀ j, j < n → f (i * n + j) = g (i * n + j))
 | [], _ => ⟨true, by simp [Op.eqItems], by simp⟩
 | i :: is, hi => by
  obtain ⟨r, q1, q2⟩ := h.eq (fun j => f (i * n + j)) (fun j => g (i * n + j)) m w hm
  obtain ⟨s, p1, p2⟩ := eqItems_any h f g N m hm w is (fun x hx => hi x (by simp [hx]))
  simp only [Op.eqItems, Sem.run_bind, h.part f N (i * n) w (hi i (by simp)), h.part g N (i * n) w (hi i (by simp)), Result.andThen_ok, q1]
  cases r with
  | false =>
   refine ⟨false, by simp, ?_⟩
   simp only [Bool.false_eq_true, false_iff] at q2 ⊢
   exact fun a => q2 (a i (by simp))
  | true =>
   refine ⟨s, by simpa using p1, ?_⟩
   rw [p2]
   have q := q2.1 rfl
   exact ⟨fun a x hx => by
    rcases List.mem_cons.1 hx with rfl | hx
    ·exact q
    ·exact a x hx, fun a x hx => a x (by simp [hx])⟩
theorem EqT.array {T e : TypeId} {c n k : Nat} {mk : (Nat → Int) → Value} (h : EqT e n k mk) (hn : 0 < n) (hu : Try.prog.underlying T = some (.array c e)) (hs : (Try.prog.info? T).map (·.size) = some (c * n)) : EqT T (c * n) (k + 1) (fun f => .agg (tab f (c * n))) := by
 obtain ⟨h1, i, h2, h3⟩ := cells_size hs
 obtain ⟨ie, he⟩ := h.info
 refine ⟨fun F N off w ho => part_agg (by rw [hu]; rfl) hs F N off w ho, fun f g m w hm => ?_, h1, i, h2⟩
 obtain ⟨m, rfl⟩ : ∃ d, m = d + 1 := ⟨m - 1, by omega⟩
 rw [run_equalIn_array w m _ _ hu he, h.cells]
 obtain ⟨r, q1, q2⟩ := eqItems_any h f g (c * n) m (by omega) w (List.range c) (fun i hi => by
  have := List.mem_range.1 hi
  have := Nat.mul_le_mul_right n (show i + 1 ≤ c by omega)
  rw [Nat.add_mul] at this
  omega)
 refine ⟨r, q1, q2.trans ⟨fun a j hj => ?_, fun a i hi j hj => a _ ?_⟩⟩
 ·have hq : j / n < c := Nat.div_lt_of_lt_mul (by rw [Nat.mul_comm]; exact hj)
  have := a (j / n) (List.mem_range.2 hq) (j % n) (Nat.mod_lt _ hn)
  rw [show j / n * n + j % n = j by rw [Nat.mul_comm]; exact Nat.div_add_mod j n] at this
  exact this
 ·have := List.mem_range.1 hi
  have := Nat.mul_le_mul_right n (show i + 1 ≤ c by omega)
  rw [Nat.add_mul] at this
  omega
theorem eqFields_any (f g : Nat → Int) (N m : Nat) (w : World) : ∀ (fs : List Field), (∀ x ∈ fs, x.name ≠ "_" ∧ ∃ n k mk, EqT x.type n k mk ∧ k ≤ m ∧ x.offset + n ≤ N) →
  ∃ r : Bool, (Op.eqFields m (tab f N) (tab g N) fs).run Try.prog w = .ok r w ∧ (r = true ↔ ∀ x ∈ fs, ∀ j, j < Try.prog.cellsOf x.type → f (x.offset + j) = g (x.offset + j))
 | [], _ => ⟨true, by simp [Op.eqFields], by simp⟩
 | x :: fs, hx => by
  obtain ⟨h0, n, k, mk, h, hk, ho⟩ := hx x (by simp)
  obtain ⟨r, q1, q2⟩ := h.eq (fun j => f (x.offset + j)) (fun j => g (x.offset + j)) m w hk
  obtain ⟨s, p1, p2⟩ := eqFields_any f g N m w fs (fun y hy => hx y (by simp [hy]))
  simp only [Op.eqFields, if_pos h0, Sem.run_bind, h.part f N x.offset w ho, h.part g N x.offset w ho, Result.andThen_ok, q1]
  rw [← h.cells] at q2
  cases r with
  | false =>
   refine ⟨false, by simp, ?_⟩
   simp only [Bool.false_eq_true, false_iff] at q2 ⊢
   exact fun a => q2 (a x (by simp))
  | true =>
   refine ⟨s, by simpa using p1, ?_⟩
   rw [p2]
   have q := q2.1 rfl
   exact ⟨fun a y hy => by
    rcases List.mem_cons.1 hy with rfl | hy
    ·exact q
    ·exact a y hy, fun a y hy => a y (by simp [hy])⟩
theorem EqT.struct {T : TypeId} {N k : Nat} (L : List (TypeId × Nat × Nat)) (hu : (match Try.prog.underlying T with | some (.struct fs) => fs.toList.map fun x => (x.type, x.offset, x.name == "_") | _ => []) = L.map fun x => (x.1, x.2.1, false)) (hr : (Try.prog.underlying T).map (fun d => match d with | .struct _ => true | _ => false) = some true) (hp : Try.prog.stoodInHeld T = false) (hs : (Try.prog.info? T).map (·.size) = some N)
  (hE : ∀ x ∈ L, ∃ mk, EqT x.1 x.2.2 k mk ∧ x.2.1 + x.2.2 ≤ N) (hc : ∀ j, j < N → ∃ x ∈ L, x.2.1 ≤ j ∧ j < x.2.1 + x.2.2) : EqT T N (k + 1) (fun f => .agg (tab f N)) := by
 obtain ⟨h1, i, h2, h3⟩ := cells_size hs
 cases hd : Try.prog.underlying T with
 | none => rw [hd] at hr; cases hr
 | some d =>
 cases d with
 | struct fs =>
  have hf : Try.prog.underlying T = some (.struct (Try.prog.fieldsOf T)) := by
   unfold Program.fieldsOf
   rw [hd]
  have hfs : Try.prog.fieldsOf T = fs := by
   rw [hf] at hd
   injection hd with hd
   injection hd
  rw [hd] at hu
  have hu' : fs.toList.map (fun x => (x.type, x.offset, x.name == "_")) = L.map fun x => (x.1, x.2.1, false) := hu
  refine ⟨fun F M off w ho => part_agg (by rw [hd]; rfl) hs F M off w ho, fun f g m w hm => ?_, h1, i, h2⟩
  obtain ⟨m, rfl⟩ : ∃ d, m = d + 1 := ⟨m - 1, by omega⟩
  rw [run_equalIn_struct w m T _ _ hf hp, hfs]
  have hx : ∀ x ∈ fs.toList, ∃ y ∈ L, x.type = y.1 ∧ x.offset = y.2.1 ∧ x.name ≠ "_" := fun x hx => by
   have : (x.type, x.offset, x.name == "_") ∈ L.map fun x => (x.1, x.2.1, false) := by rw [← hu']; exact List.mem_map.2 ⟨x, hx, rfl⟩
   obtain ⟨y, hy, e⟩ := List.mem_map.1 this
   injection e with e1 e2
   injection e2 with e2 e3
   exact ⟨y, hy, e1.symm, e2.symm, by simpa using e3.symm⟩
  have hy : ∀ y ∈ L, ∃ x ∈ fs.toList, x.type = y.1 ∧ x.offset = y.2.1 := fun y hy => by
   have : (y.1, y.2.1, false) ∈ fs.toList.map (fun x => (x.type, x.offset, x.name == "_")) := by rw [hu']; exact List.mem_map.2 ⟨y, hy, rfl⟩
   obtain ⟨x, hx, e⟩ := List.mem_map.1 this
   injection e with e1 e2
   injection e2 with e2 e3
   exact ⟨x, hx, e1, e2⟩
  obtain ⟨r, q1, q2⟩ := eqFields_any f g N m w fs.toList (fun x h => by
   obtain ⟨y, a1, a2, a3, a4⟩ := hx x h
   obtain ⟨mk, b1, b2⟩ := hE y a1
   exact ⟨a4, y.2.2, k, mk, by rw [a2]; exact b1, by omega, by rw [a3]; exact b2⟩)
  refine ⟨r, q1, q2.trans ⟨fun a j hj => ?_, fun a x h j hj => a _ ?_⟩⟩
  ·obtain ⟨y, c1, c2, c3⟩ := hc j hj
   obtain ⟨x, d1, d2, d3⟩ := hy y c1
   obtain ⟨mk, b1, b2⟩ := hE y c1
   have := a x d1 (j - y.2.1) (by rw [d2, b1.cells]; omega)
   rw [d3, show y.2.1 + (j - y.2.1) = j by omega] at this
   exact this
  ·obtain ⟨y, a1, a2, a3, a4⟩ := hx x h
   obtain ⟨mk, b1, b2⟩ := hE y a1
   rw [a2, b1.cells] at hj
   rw [a3]
   omega
 | _ => rw [hd] at hr; cases hr
theorem eT_int : EqT 3 1 1 (fun f => .int .i64 (f 0)) := EqT.int Try.underlying3 (by kernel_rfl)
theorem eT_place : EqT 32 2 2 (fun f => .agg (tab f 2)) :=
 EqT.struct [(3, 0, 1), (3, 1, 1)] (by kernel_rfl) (by kernel_rfl) (by kernel_rfl) (by kernel_rfl) (by
  intro x hx
  simp only [List.mem_cons, List.not_mem_nil, or_false] at hx
  rcases hx with rfl | rfl <;> exact ⟨_, eT_int, by decide⟩) (fun j hj => by
  have : j = 0 ∨ j = 1 := by omega
  rcases this with rfl | rfl
  ·exact ⟨_, List.mem_cons_self .., by decide⟩
  ·exact ⟨_, List.mem_cons_of_mem _ (List.mem_cons_self ..), by decide⟩)
theorem eT_four : EqT 33 4 2 (fun f => .agg (tab f 4)) := EqT.array (c := 4) eT_int (by omega) Try.underlying33 (by kernel_rfl)
theorem eT_seat : EqT 61 6 3 (fun f => .agg (tab f 6)) :=
 EqT.struct [(32, 0, 2), (3, 2, 1), (3, 3, 1), (3, 4, 1), (3, 5, 1)] (by kernel_rfl) (by kernel_rfl) (by kernel_rfl) (by kernel_rfl) (by
  intro x hx
  simp only [List.mem_cons, List.not_mem_nil, or_false] at hx
  rcases hx with rfl | rfl | rfl | rfl | rfl
  ·exact ⟨_, eT_place, by decide⟩
  all_goals exact ⟨_, eT_int.more (by omega), by decide⟩) (fun j hj => by
  by_cases h : j < 2
  ·exact ⟨_, List.mem_cons_self .., by show 0 ≤ j; omega, by show j < 0 + 2; omega⟩
  ·refine ⟨(3, j, 1), ?_, Nat.le_refl _, Nat.lt_succ_self _⟩
   have : j = 2 ∨ j = 3 ∨ j = 4 ∨ j = 5 := by omega
   rcases this with rfl | rfl | rfl | rfl <;> simp)
theorem eT_tot : EqT 45 12 3 (fun f => .agg (tab f 12)) :=
 EqT.struct [(33, 0, 4), (33, 4, 4), (33, 8, 4)] (by kernel_rfl) (by kernel_rfl) (by kernel_rfl) (by kernel_rfl) (by
  intro x hx
  simp only [List.mem_cons, List.not_mem_nil, or_false] at hx
  rcases hx with rfl | rfl | rfl <;> exact ⟨_, eT_four, by decide⟩) (fun j hj => by
  refine ⟨(33, j / 4 * 4, 4), ?_, by show j / 4 * 4 ≤ j; omega, by show j < j / 4 * 4 + 4; omega⟩
  have : j / 4 = 0 ∨ j / 4 = 1 ∨ j / 4 = 2 := by omega
  rcases this with e | e | e <;> rw [e] <;> simp)
theorem eT_seats : EqT 82 720 4 (fun f => .agg (tab f 720)) := EqT.array (c := 120) eT_seat (by omega) Try.underlying82 (by kernel_rfl)
theorem eT_all3 : EqT 83 15120 5 (fun f => .agg (tab f 15120)) := EqT.array (c := 21) eT_seats (by omega) Try.underlying83 (by kernel_rfl)
theorem eT_all1 : EqT 81 252 4 (fun f => .agg (tab f 252)) := EqT.array (c := 21) eT_tot (by omega) Try.underlying81 (by kernel_rfl)
theorem eT_all2 : EqT 69 84 3 (fun f => .agg (tab f 84)) := EqT.array (c := 21) eT_four (by omega) Try.underlying69 (by kernel_rfl)
theorem eT_all : EqT 85 15457 6 (fun f => .agg (tab f 15457)) :=
 EqT.struct [(3, 0, 1), (81, 1, 252), (69, 253, 84), (83, 337, 15120)] (by kernel_rfl) (by kernel_rfl) (by kernel_rfl) (by kernel_rfl) (by
  intro x hx
  simp only [List.mem_cons, List.not_mem_nil, or_false] at hx
  rcases hx with rfl | rfl | rfl | rfl
  ·exact ⟨_, eT_int.more (by omega), by decide⟩
  ·exact ⟨_, eT_all1.more (by omega), by decide⟩
  ·exact ⟨_, eT_all2.more (by omega), by decide⟩
  ·exact ⟨_, eT_all3, by decide⟩) (fun j hj => by
  by_cases h0 : j < 1
  ·exact ⟨(3, 0, 1), by simp, by show 0 ≤ j; omega, by show j < 0 + 1; omega⟩
  by_cases h1 : j < 253
  ·exact ⟨(81, 1, 252), by simp, by show 1 ≤ j; omega, by show j < 1 + 252; omega⟩
  by_cases h2 : j < 337
  ·exact ⟨(69, 253, 84), by simp, by show 253 ≤ j; omega, by show j < 253 + 84; omega⟩
  ·exact ⟨(83, 337, 15120), by simp, by show 337 ≤ j; omega, by show j < 337 + 15120; omega⟩)
theorem guardA (op : BinOp) (x y : Operand) (xs ys : Array Value) (w : World) : (eqGuard op 85 x y (.agg xs) (.agg ys)).run Try.prog w = .ok () w := by
 have h : Try.prog.eqGuardType Try.prog.depth 85 = false := by kernel_rfl
 unfold eqGuard
 cases op <;> simp [Sem.run, program, h]
set_option maxHeartbeats 2000000
theorem pick_any (c n : Int) (hc : -9223372036854775808 ≤ c ∧ c ≤ 9223372036854775807) (hn : 0 < n ∧ n ≤ 100000) (w : World) :
  Calls Try.prog 23 #[.int .i64 c, .int .i64 n] w fun e w' => e = .returned (.int .i64 (pickN c n)) ∧ w' = w := by
 unfold pickN
 have hz : n ≠ 0 := by omega
 by_cases h : c < 0
 ·have h1 : IntKind.i64.wrap (c + 1) = c + 1 := wrap_fit _ (by omega) (by omega)
  have h2 : IntKind.i64.wrap (-(c + 1)) = -(c + 1) := wrap_fit _ (by omega) (by omega)
  go_enter Try.func23, Try.ntmps23
  go_wp2
  go_ret
  refine ⟨?_, rfl⟩
  rw [← Int.tmod_eq_emod_of_nonneg (by omega), Int.neg_tmod]
  rfl
 ·go_enter Try.func23, Try.ntmps23
  go_wp2
  go_ret
  exact ⟨rfl, rfl⟩
end Go.Proofs.Ythhibagcpjeihaa
