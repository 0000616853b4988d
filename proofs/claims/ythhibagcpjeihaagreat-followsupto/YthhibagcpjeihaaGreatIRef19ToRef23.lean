import Derived.Test.YthhibagcpjeihaaGreatIRef16ToSwap1
import Derived.Test.YthhibagcpjeihaaGreatIRef13ToRef15
import Derived.Test.YthhibagcpjeihaaGreatISav1ToOpen
import Derived.Test.YthhibagcpjeihaaGreatIPg2ToWr4
import Derived.Deep.DeepCutAuto
import Derived.Deep.RegionLawGrows
namespace Go.Proofs.YthhibagcpjeihaaGreat
open Go.RowKit
open M
set_option linter.unusedVariables false
set_option linter.unusedSimpArgs false
set_option maxRecDepth 100000
set_option maxHeartbeats 4000000
def friL (x : FR) : List Value := (friV x).toList
theorem friL_len (x : FR) : (friL x).length = 10 := rfl
theorem rowF_of {w : World} {g n cap : Nat} {l : List FR} (h : w.ownsRow 0 134 10 (.slice (some ⟨g, 0, none⟩) n cap) l.length (l.flatMap friL)) : n = l.length ∧ RowF w g cap l := by
 obtain ⟨h0, h1 | ⟨g', cap', cur, hv, hb, hg, hn, hm, hsz, ht⟩⟩ := h
 ·exact absurd h1.1 (by simp)
 ·injection hv with e1 e2 e3
  injection e1 with e1
  injection e1 with e1
  subst e1 e2 e3
  refine ⟨rfl, ⟨cur, hg, hsz, fun i hi j hj => ?_⟩, hn, hm⟩
  have := flat_at 10 (by omega) friL friL_len l i hi j hj
  rw [← ht, List.getElem?_take, if_pos (by omega)] at this
  rw [← Array.getElem?_toList, this]
  simp [friL]
theorem rowF_owns {w : World} {g cap : Nat} {l : List FR} (h : RowF w g cap l) : w.ownsRow 0 134 10 (.slice (some ⟨g, 0, none⟩) l.length cap) l.length (l.flatMap friL) := by
 obtain ⟨cur, h1, h2, h3⟩ := h.cur
 refine ⟨flat_len 10 friL friL_len l, .inr ⟨g, cap, cur, rfl, Nat.zero_le _, h1, h.le, h.max, h2, ?_⟩⟩
 apply List.ext_getElem?
 intro k
 rw [List.getElem?_take]
 by_cases hk : k < l.length * 10
 ·rw [if_pos hk]
  have hi : k / 10 < l.length := by omega
  have e : k = k / 10 * 10 + k % 10 := by omega
  rw [e, flat_at 10 (by omega) friL friL_len l (k / 10) hi (k % 10) (by omega), Array.getElem?_toList, h3 _ hi _ (by omega)]
  simp [friL]
 ·rw [if_neg hk, List.getElem?_eq_none (by rw [flat_len 10 friL friL_len]; omega)]
theorem worR_owns {w : World} {ow : Nat → Nat} {wb : Nat} {v : Value} {xs : List FR} {now : Int} (h : WorR w ow wb v xs now) : w.ownsRow 0 134 10 v xs.length (xs.flatMap friL) ∧ ∀ k, v.ownBlock = some k → ow k = 2 := by
 rcases h.fls with ⟨rfl, rfl⟩ | ⟨gf, cap, rfl, h2, h3⟩
 ·exact ⟨by simpa using World.ownsRow_nil _ _ _ _, fun k hk => by simp [Value.ownBlock] at hk⟩
 ·exact ⟨rowF_owns h2, fun k hk => by simp [Value.ownBlock] at hk; rw [← hk]; exact h3⟩
structure CopyI (w wx : World) (cb : Nat) (xs : List FR) (now : Int) (i : Nat) (v : Value) (ys : List FR) (ow : Nat → Nat) : Prop where
 wor : WorR wx ow cb v ys now
 new : ∀ k, ow k ≠ 0 → w.heap.size ≤ k
 len : ys.length = i
 same : ∀ j (h : j < ys.length) (h' : j < xs.length), ys[j].f = xs[j].f
 mod : Mod No w wx
theorem copy_next {w wx w3 w4 : World} {cb i n c3 : Nat} {xs ys : List FR} {now : Int} {v v2 : Value} {ow : Nat → Nat} {a3 : Option Addr} (h : CopyI w wx cb xs now i v ys ow) (hi : i < xs.length) (h20 : xs.length ≤ 20)
  (hwf : Wf xs[i].f.pla xs[i].f.seats) (hn : n = xs[i].f.seats.length)
  (ho3 : w3.ownsRow 0 63 6 (.slice a3 n c3) n (xs[i].f.seats.flatMap seaL)) (hg3 : (wx.alloc (.cells (friV xs[i]) 134)).grownBy w3 (Value.slice none 0 0).ownBlock) (hs3 : Stays (wx.alloc (.cells (friV xs[i]) 134)) (.slice none 0 0) (.slice a3 n c3))
  (o : Obj) (hv2 : ∀ g', a3 = some ⟨g', 0, none⟩ → w4.ownsRow 0 134 10 v2 (i + 1) (ys.flatMap friL ++ friL ⟨xs[i].f, g', c3⟩))
  (hg4 : ((w3.setCell ⟨wx.heap.size, 8, none⟩ (.slice a3 n c3)).alloc o).drew.grownBy w4 v.ownBlock) (hs4 : Stays ((w3.setCell ⟨wx.heap.size, 8, none⟩ (.slice a3 n c3)).alloc o).drew v v2) :
  ∃ ys' ow', CopyI w (w4.setCell ⟨cb, 0, none⟩ v2) cb xs now (i + 1) v2 ys' ow' := by
 have hpos : 0 < xs[i].f.seats.length := by
  have h1 := hwf.len
  obtain ⟨b1, _, b2, _⟩ := Fli.wf.bounds hwf
  have h1 : (xs[i].f.seats.length : Int) = xs[i].f.pla.rows * xs[i].f.pla.cols := h1
  have b1 : 1 ≤ xs[i].f.pla.rows := b1
  have b2 : 1 ≤ xs[i].f.pla.cols := b2
  have : 0 < xs[i].f.pla.rows * xs[i].f.pla.cols := Int.mul_pos (by omega) (by omega)
  omega
 obtain ⟨g', rfl⟩ : ∃ g', a3 = some ⟨g', 0, none⟩ := by
  obtain ⟨_, h1 | ⟨g, cap, cur, hv, _⟩⟩ := ho3
  ·omega
  ·injection hv with e1
   exact ⟨g, e1⟩
 rw [hn] at ho3 hg4 hs4
 have hrs := (rowS_of ho3).2
 have hgn : wx.heap.size < g' := by
  rcases hs3 g' rfl with h1 | h1
  ·simp [Value.ownBlock] at h1
  ·simp at h1; omega
 have hg3l := hrs.lt
 have m3 : Mod No wx w3 := ((Mod.refl No wx).alloc _).grown hg3 (by simp [Value.ownBlock])
 have m3' : Mod No wx (w3.setCell ⟨wx.heap.size, 8, none⟩ (.slice (some ⟨g', 0, none⟩) xs[i].f.seats.length c3)) := m3.setCell (.inr (Nat.le_refl _)) _
 obtain ⟨hown, hv2k⟩ := worR_owns h.wor
 have m4 : Mod (fun k => ow k = 2) wx w4 := by
  refine ((m3'.mono (S' := fun k => ow k = 2) (fun _ _ x => x.elim)).alloc o).drew.grown hg4 (fun k hk => .inl ?_)
  exact hv2k k hk
 have hcb : ow cb = 1 := h.wor.mine
 have hcbl := h.wor.has.lt
 have ho4 := hv2 g' rfl
 obtain ⟨gf, cf, hv2e⟩ : ∃ gf cf, v2 = .slice (some ⟨gf, 0, none⟩) (i + 1) cf := by
  obtain ⟨_, h1 | ⟨g, cap, cur, hv, _⟩⟩ := ho4
  ·omega
  ·exact ⟨g, cap, hv⟩
 subst hv2e
 have hy : (ys ++ [(⟨xs[i].f, g', c3⟩ : FR)]).length = i + 1 := by simp [h.len]
 have hrf : RowF w4 gf cf (ys ++ [⟨xs[i].f, g', c3⟩]) := by
  have := ho4
  rw [← hy] at this
  refine (rowF_of (n := (ys ++ [(⟨xs[i].f, g', c3⟩ : FR)]).length) ?_).2
  simpa using this
 have w3l : wx.heap.size < w3.heap.size := by omega
 have hgf : ow gf = 2 ∨ w3.heap.size ≤ gf := by
  rcases hs4 gf rfl with h1 | h1
  ·exact .inl (hv2k gf h1)
  ·right; simp at h1; omega
 have gfcb : gf ≠ cb := by
  rintro rfl
  rcases hgf with h1 | h1 <;> omega
 have gfg : gf ≠ g' := by
  rintro rfl
  rcases hgf with h1 | h1
  ·have := h.wor.old gf (by omega); omega
  ·omega
 have hlast : ∀ j (hj : j < (ys ++ [(⟨xs[i].f, g', c3⟩ : FR)]).length), j < i ∨ j = i := fun j hj => by rw [hy] at hj; omega
 have g'cb : g' ≠ cb := by omega
 have ow0 : ow g' = 0 := by
  by_cases e : ow g' = 0
  ·exact e
  ·have := h.wor.old g' e; omega
 refine ⟨ys ++ [⟨xs[i].f, g', c3⟩], fun k => if k = g' then i + 3 else if k = gf then 2 else ow k, ⟨?_, ?_, ?_, ?_, ?_, ?_⟩, fun k hk => ?_, hy, fun j hj hj' => ?_, ?_⟩
 ·exact (m4.has h.wor.has (by rw [hcb]; omega)).set 0 _
 ·refine .inr ⟨gf, cf, by rw [hy], hrf.mod (S := fun k => k = cb) ((Mod.refl (fun k => k = cb) w4).setCell (p := ⟨cb, 0, none⟩) (.inl rfl) _) gfcb, ?_⟩
  simp [gfg]
 ·simp [g'cb.symm, gfcb.symm, hcb]
 ·intro k hk
  have l4 : w3.heap.size ≤ w4.heap.size := by
   have := hg4.size
   simp at this
   omega
  simp only [World.size_setCell]
  by_cases e : k = g'
  ·omega
  ·by_cases e2 : k = gf
   ·rw [e2]; exact hrf.lt
   ·simp only [if_neg e, if_neg e2] at hk
    have := h.wor.old k hk
    omega
 ·intro j hj
  have mc : Mod (fun k => k = cb) w4 (w4.setCell ⟨cb, 0, none⟩ (.slice (some ⟨gf, 0, none⟩) (i + 1) cf)) := (Mod.refl (fun k => k = cb) w4).setCell (p := ⟨cb, 0, none⟩) (.inl rfl) _
  rcases hlast j hj with e | e
  ·have hjy : j < ys.length := by rw [h.len]; exact e
   rw [List.getElem_append_left hjy]
   obtain ⟨s1, s2, s3⟩ := h.wor.seats j hjy
   have n1 : ys[j].g ≠ g' := fun q => by rw [q, ow0] at s2; omega
   have n2 : ys[j].g ≠ gf := fun q => by
    rcases hgf with h1 | h1
    ·rw [q, h1] at s2; omega
    ·have := h.wor.old ys[j].g (by rw [s2]; omega); omega
   have n3 : ys[j].g ≠ cb := fun q => by rw [q, hcb] at s2; omega
   refine ⟨(s1.mod m4 (by rw [s2]; omega)).mod mc n3, by simp [n1, n2, s2], s3⟩
  ·subst e
   have hge : ¬ j < ys.length := by rw [h.len]; omega
   rw [List.getElem_append_right (by omega)]
   simp only [h.len, Nat.sub_self, List.getElem_cons_zero]
   have r2 : RowS (w3.setCell ⟨wx.heap.size, 8, none⟩ (.slice (some ⟨g', 0, none⟩) xs[j].f.seats.length c3)) g' c3 xs[j].f.seats := hrs.ne_cell (by show g' ≠ wx.heap.size; omega) _
   have r3 : RowS w4 g' c3 xs[j].f.seats := r2.mod (S := fun k => ow k = 2) (((Mod.refl (fun k => ow k = 2) _).alloc o).drew.grown hg4 (fun k hk => .inl (hv2k k hk))) (by rw [ow0]; omega)
   exact ⟨r3.mod mc g'cb, by simp, hwf⟩
 ·rw [hy]; omega
 ·by_cases e : k = g'
  ·have := h.mod.size; omega
  ·by_cases e2 : k = gf
   ·have := h.mod.size
    rcases hgf with h1 | h1
    ·rw [e2]; exact h.new gf (by omega)
    ·omega
   ·simp only [if_neg e, if_neg e2] at hk
    exact h.new k hk
 ·rcases hlast j hj with e | e
  ·have hjy : j < ys.length := by rw [h.len]; exact e
   rw [List.getElem_append_left hjy]
   exact h.same j hjy hj'
  ·subst e
   rw [List.getElem_append_right (by rw [h.len]; omega)]
   simp [h.len]
 ·refine (h.mod.trans' m4 (fun k hk hl => ?_)).setCell (.inr ?_) _
  ·have := h.new k (by omega)
   omega
  ·exact h.new cb (by omega)
set_option maxHeartbeats 8000000
theorem info157 : (Tryz.prog.info? 134).map (fun i => (i.zero, i.size, i.bytes)) = some (some (.agg #[.int .i64 0, .int .i64 0, .int .i64 0, .int .i64 0, .int .i64 0, .int .i64 0, .int .i64 0, .int .i64 0, .slice none 0 0, .int .i64 0]), 10, 96) := by kernel_rfl
theorem seaL_one (l : List Sea) : ∀ u ∈ l.flatMap seaL, u.oneCell' = true := by
 intro u hu
 obtain ⟨s, _, hs⟩ := List.mem_flatMap.1 hu
 simp [seaL, seaV] at hs
 rcases hs with rfl | rfl | rfl | rfl | rfl | rfl <;> rfl
theorem copy_start (w : World) (now : Int) (xs : List FR) : CopyI w (w.alloc (.cells #[.slice none 0 0, .int .i64 now] 72)) w.heap.size xs now 0 (.slice none 0 0) [] (fun k => if k = w.heap.size then 1 else 0) := by
 refine ⟨⟨Has.new w _ _, .inl ⟨rfl, rfl⟩, if_pos rfl, fun k hk => ?_, fun i hi => absurd hi (Nat.not_lt_zero _), by simp⟩, fun k hk => ?_, rfl, fun j hj => absurd hj (Nat.not_lt_zero _), (Mod.refl No w).alloc _⟩
 ·by_cases e : k = w.heap.size
  ·simp [e]
  ·exact absurd (if_neg e) hk
 ·by_cases e : k = w.heap.size
  ·omega
  ·exact absurd (if_neg e) hk
theorem wcopy_row {w : World} {ow : Nat → Nat} {wb gf cap : Nat} {xs : List FR} {now : Int} (h : WorR w ow wb (.slice (some ⟨gf, 0, none⟩) xs.length cap) xs now) (hne : 0 < xs.length) :
  Calls Tryz.prog 26 #[.pointer (some ⟨wb, 0, none⟩)] w fun e w' => ∃ v ys ow', e = .returned (.pointer (some ⟨w.heap.size, 0, none⟩)) ∧ CopyI w w' w.heap.size xs now xs.length v ys ow' := by
 have hc := h.has.cell
 have H := hide h
 have few := h.few
 have I0 := hide (copy_start w now xs)
 obtain ⟨og, rf⟩ := h.parts rfl hne
 have RF := hide rf
 have HW := hide h.has
 clear h rf og hne
 obtain ⟨i114, q0, q1, q2, q3⟩ := info_parts info114
 obtain ⟨i157, r0, r1, r2, r3⟩ := info_parts info157
 go_enter Tryz.func26, Tryz.ntmps26
 go_wp2_with fail
 generalize hcb : w.heap.size = cb at *
 go_loopw [4] (fun s4 wr => ∃ i : Nat, s4 = .int .i64 i ∧ i ≤ xs.length ∧ ∃ v ys ow', Hid (CopyI w wr cb xs now i v ys ow')) (fun s4 _ => xs.length - (intOf s4).toNat)
 case atStart => exact ⟨0, rfl, by omega, _, _, _, I0⟩
 case round =>
  obtain ⟨i, rfl, hi, v, ys, ow', I1⟩ := hrel
  clear I0 hc
  have v0 : wr.cell? ⟨wb, 0, none⟩ = some (.slice (some ⟨gf, 0, none⟩) xs.length cap) := ((unhide I1).mod.has (unhide HW) (fun x => x)).cell 0
  by_cases hix : i < xs.length
  ·have hixi : (i : Int) < (xs.length : Int) := by omega
   have h0i : (0 : Int) ≤ i := by omega
   have hi1 : IntKind.i64.wrap ((i : Int) + 1) = ((i + 1 : Nat) : Int) := by rw [wrap_id _ (by omega) (by omega)]; rfl
   have rf1 := (unhide RF).mod (unhide I1).mod (fun x => x)
   have g0 : wr.cell? ⟨gf, i * 10, none⟩ = some (.int .i64 xs[i].f.num) := rf1.cell i hix 0 (by omega)
   have g1 : wr.cell? ⟨gf, i * 10 + 1, none⟩ = some (.int .i64 xs[i].f.pla.rows) := rf1.cell i hix 1 (by omega)
   have g2 : wr.cell? ⟨gf, i * 10 + 2, none⟩ = some (.int .i64 xs[i].f.pla.cols) := rf1.cell i hix 2 (by omega)
   have g3 : wr.cell? ⟨gf, i * 10 + 3, none⟩ = some (.int .i64 xs[i].f.pla.front) := rf1.cell i hix 3 (by omega)
   have g4 : wr.cell? ⟨gf, i * 10 + 4, none⟩ = some (.int .i64 xs[i].f.pla.l0) := rf1.cell i hix 4 (by omega)
   have g5 : wr.cell? ⟨gf, i * 10 + 5, none⟩ = some (.int .i64 xs[i].f.pla.l1) := rf1.cell i hix 5 (by omega)
   have g6 : wr.cell? ⟨gf, i * 10 + 6, none⟩ = some (.int .i64 xs[i].f.pla.l2) := rf1.cell i hix 6 (by omega)
   have g7 : wr.cell? ⟨gf, i * 10 + 7, none⟩ = some (.int .i64 xs[i].f.pla.l3) := rf1.cell i hix 7 (by omega)
   have g8 : wr.cell? ⟨gf, i * 10 + 8, none⟩ = some (.slice (some ⟨xs[i].g, 0, none⟩) xs[i].f.seats.length xs[i].cap) := rf1.cell i hix 8 (by omega)
   have g9 : wr.cell? ⟨gf, i * 10 + 9, none⟩ = some (.int .i64 xs[i].f.ep) := rf1.cell i hix 9 (by omega)
   obtain ⟨rs, os, wf⟩ := (unhide H).seats i hix
   have hl120 : xs[i].f.seats.length ≤ 120 := wf_len wf
   have rs1 := rs.mod (unhide I1).mod (fun x => x)
   have rs2 := rs1.mod ((Mod.refl No wr).alloc (.cells (friV xs[i]) 134)) (fun x => x)
   have HREAD := hide (reads_of_owns (rowS_owns rs2))
   have HONE := hide (seaL_one xs[i].f.seats)
   have HLEN := hide (flat_len 6 seaL seaL_len xs[i].f.seats)
   have WF := hide wf
   have FB := hide (Has.new wr (friV xs[i]) 134)
   have hown := worR_owns (unhide I1).wor
   rw [(unhide I1).len] at hown
   obtain ⟨a2, c2, rfl⟩ := slice_of_owns hown.1
   have HOWN := hide hown
   have CB := hide ((unhide I1).wor.has.alloc (.cells (friV xs[i]) 134))
   have LCB := (unhide I1).wor.has.lt
   have NEX := hide fun (w3 w4 : World) (a3 : Option Addr) (c3 : Nat) (v2 : Value) => copy_next (w3 := w3) (w4 := w4) (a3 := a3) (c3 := c3) (v2 := v2) (unhide I1) hix (by omega) wf rfl
   clear rf1 rs os wf rs1 rs2 hown
   unfold friV at *
   go_wp2_with (first | (at_builtin; refine wpList_append_row rfl (.tmp 29) (.tmp 31) 61 rfl 63 i114 _ 6 48 Tryz.underlying61 q0 q1 q2 q3 rfl (by decide) (.slice none 0 0) 0 [] (by simp [Act.eval]) (by exact World.ownsRow_nil _ _ _ _) (.slice (some ⟨xs[i].g, 0, none⟩) xs[i].f.seats.length xs[i].cap) xs[i].f.seats.length (xs[i].f.seats.flatMap seaL) (by simp [Act.eval]) (by exact unhide HREAD) (unhide HLEN) (unhide HONE) (by unfold maxLen; omega) (by omega) ?_; intro v' w3 ho3 hg3 hs3; obtain ⟨a3, c3, rfl⟩ := slice_of_owns ho3; have fb3 := (Has.grown (unhide FB) hg3 (by simp [Value.ownBlock])).cell; have ff3 := (Has.grown (unhide FB) hg3 (by simp [Value.ownBlock])).frozen; have cb3 : w3.cell? ⟨cb, 0, none⟩ = some (.slice a2 i c2) := (Has.grown (unhide CB) hg3 (by simp [Value.ownBlock])).cell 0; have cf3 := (Has.grown (unhide CB) hg3 (by simp [Value.ownBlock])).frozen; have lf3 := (Has.grown (unhide FB) hg3 (by simp [Value.ownBlock])).lt))
   rw [Nat.zero_add, List.nil_append] at ho3
   simp only [Nat.zero_add] at hs3
   have lcb3 : cb < w3.heap.size := by omega
   have M3 : Mod No wr (w3.setCell ⟨wr.heap.size, 8, none⟩ (.slice a3 xs[i].f.seats.length c3)) := (((Mod.refl No wr).alloc _).grown hg3 (by simp [Value.ownBlock])).setCell (.inr (Nat.le_refl _)) _
   have M4 : Mod No wr (((w3.setCell ⟨wr.heap.size, 8, none⟩ (.slice a3 xs[i].f.seats.length c3)).alloc (.cells #[.int .i64 xs[i].f.num, .int .i64 xs[i].f.pla.rows, .int .i64 xs[i].f.pla.cols, .int .i64 xs[i].f.pla.front, .int .i64 xs[i].f.pla.l0, .int .i64 xs[i].f.pla.l1, .int .i64 xs[i].f.pla.l2, .int .i64 xs[i].f.pla.l3, .slice a3 xs[i].f.seats.length c3, .int .i64 xs[i].f.ep] 134)).drew) := (M3.alloc _).drew
   have HOWN4 := hide (M4.owns (unhide HOWN).1 (fun _ _ x => x))
   have HREAD4 := hide (show Reads (((w3.setCell ⟨wr.heap.size, 8, none⟩ (.slice a3 xs[i].f.seats.length c3)).alloc (.cells #[.int .i64 xs[i].f.num, .int .i64 xs[i].f.pla.rows, .int .i64 xs[i].f.pla.cols, .int .i64 xs[i].f.pla.front, .int .i64 xs[i].f.pla.l0, .int .i64 xs[i].f.pla.l1, .int .i64 xs[i].f.pla.l2, .int .i64 xs[i].f.pla.l3, .slice a3 xs[i].f.seats.length c3, .int .i64 xs[i].f.ep] 134)).drew) (.slice (some ⟨w3.heap.size, 0, none⟩) 1 1) 1 [.int .i64 xs[i].f.num, .int .i64 xs[i].f.pla.rows, .int .i64 xs[i].f.pla.cols, .int .i64 xs[i].f.pla.front, .int .i64 xs[i].f.pla.l0, .int .i64 xs[i].f.pla.l1, .int .i64 xs[i].f.pla.l2, .int .i64 xs[i].f.pla.l3, .slice a3 xs[i].f.seats.length c3, .int .i64 xs[i].f.ep] from
    .inr ⟨⟨w3.heap.size, 0, none⟩, 1, rfl, fun j u hu => by
     have hN := (Has.new (w3.setCell ⟨wr.heap.size, 8, none⟩ (.slice a3 xs[i].f.seats.length c3)) #[.int .i64 xs[i].f.num, .int .i64 xs[i].f.pla.rows, .int .i64 xs[i].f.pla.cols, .int .i64 xs[i].f.pla.front, .int .i64 xs[i].f.pla.l0, .int .i64 xs[i].f.pla.l1, .int .i64 xs[i].f.pla.l2, .int .i64 xs[i].f.pla.l3, .slice a3 xs[i].f.seats.length c3, .int .i64 xs[i].f.ep] 134).drew
     rw [World.size_setCell] at hN
     rw [Addr.add_mid, Nat.zero_add, hN.cell, ← Array.getElem?_toList]
     exact hu⟩)
   have HCB4 := hide (M4.has (unhide I1).wor.has (fun x => x))
   have HNE := hide (show Option.some cb ≠ (Value.slice a2 i c2).ownBlock from fun e => by
    have h2 := (unhide HOWN).2 cb e.symm
    have h1 := (unhide I1).wor.mine
    omega)
   have NEX3 := hide fun (w4 : World) (v2 : Value) => (unhide NEX) w3 w4 a3 c3 v2 ho3 hg3 hs3 (.cells #[.int .i64 xs[i].f.num, .int .i64 xs[i].f.pla.rows, .int .i64 xs[i].f.pla.cols, .int .i64 xs[i].f.pla.front, .int .i64 xs[i].f.pla.l0, .int .i64 xs[i].f.pla.l1, .int .i64 xs[i].f.pla.l2, .int .i64 xs[i].f.pla.l3, .slice a3 xs[i].f.seats.length c3, .int .i64 xs[i].f.ep] 134)
   have HO4 := hide (show ∀ u ∈ ([.int .i64 xs[i].f.num, .int .i64 xs[i].f.pla.rows, .int .i64 xs[i].f.pla.cols, .int .i64 xs[i].f.pla.front, .int .i64 xs[i].f.pla.l0, .int .i64 xs[i].f.pla.l1, .int .i64 xs[i].f.pla.l2, .int .i64 xs[i].f.pla.l3, .slice a3 xs[i].f.seats.length c3, .int .i64 xs[i].f.ep] : List Value), u.oneCell' = true from by
    intro u hu
    simp at hu
    rcases hu with rfl | rfl | rfl | rfl | rfl | rfl | rfl | rfl | rfl | rfl <;> rfl)
   clear M3 M4 NEX ho3 hg3 hs3 HOWN HREAD HONE HLEN WF FB CB I1 g0 g1 g2 g3 g4 g5 g6 g7 g8 g9 v0
   go_region_law (refine step_append_row rfl (.tmp 38) (.tmp 40) 70 rfl 134 i157 _ 10 96 Tryz.underlying70 r0 r1 r2 r3 rfl (by decide) (.slice a2 i c2) i (ys.flatMap friL) (by simp [Act.eval, Act.put]) (by exact unhide HOWN4) (.slice (some ⟨w3.heap.size, 0, none⟩) 1 1) 1 [.int .i64 xs[i].f.num, .int .i64 xs[i].f.pla.rows, .int .i64 xs[i].f.pla.cols, .int .i64 xs[i].f.pla.front, .int .i64 xs[i].f.pla.l0, .int .i64 xs[i].f.pla.l1, .int .i64 xs[i].f.pla.l2, .int .i64 xs[i].f.pla.l3, .slice a3 xs[i].f.seats.length c3, .int .i64 xs[i].f.ep] (by simp [Act.eval, Act.put]) (by exact unhide HREAD4) rfl (unhide HO4) (by unfold maxLen; omega) (by omega) ?_; intro v2 w4 ho4 hg4 hs4; obtain ⟨a4, c4, rfl⟩ := slice_of_owns ho4; have hk4 := (Has.grown (by exact unhide HCB4) hg4 (unhide HNE)).cell 0; have hf4 := (Has.grown (by exact unhide HCB4) hg4 (unhide HNE)).frozen)
   all_goals go_wp2
   all_goals
    obtain ⟨ys', ow2, hC⟩ := (unhide NEX3) _ _ (fun g' hg' => by subst hg'; exact ho4) hg4 hs4
    exact ⟨⟨i + 1, rfl, by omega, _, _, _, hC⟩, by simp [intOf]; omega⟩
  ·have hixi : ¬ (i : Int) < (xs.length : Int) := by omega
   have e : i = xs.length := by omega
   subst e
   go_wp2
   go_ret
   exact ⟨rfl, v, ys, ow', unhide I1⟩
theorem wcopy_nil {w : World} {wb : Nat} {now : Int} (h : Has w wb #[.slice none 0 0, .int .i64 now] 72) :
  Calls Tryz.prog 26 #[.pointer (some ⟨wb, 0, none⟩)] w fun e w' => e = .returned (.pointer (some ⟨w.heap.size, 0, none⟩)) ∧ w' = w.alloc (.cells #[.slice none 0 0, .int .i64 now] 72) := by
 have hc := h.cell
 have hlt := h.lt
 clear h
 go_enter Tryz.func26, Tryz.ntmps26
 go_wp2_with fail
 go_loopw [4] (fun s4 wr => s4 = .int .i64 0 ∧ wr = w.alloc (.cells #[.slice none 0 0, .int .i64 now] 72)) (fun _ _ => 0)
 case atStart => exact ⟨rfl, rfl⟩
 case round =>
  obtain ⟨rfl, rfl⟩ := hrel
  go_wp2
  go_ret
  exact ⟨rfl, rfl⟩
theorem wcopy_any {w : World} {ow : Nat → Nat} {wb : Nat} {v : Value} {xs : List FR} {now : Int} (h : WorR w ow wb v xs now) :
  Calls Tryz.prog 26 #[.pointer (some ⟨wb, 0, none⟩)] w fun e w' => ∃ v' ys ow', e = .returned (.pointer (some ⟨w.heap.size, 0, none⟩)) ∧ CopyI w w' w.heap.size xs now xs.length v' ys ow' := by
 have h0 := h
 rcases h.fls with ⟨rfl, rfl⟩ | ⟨gf, cap, rfl, h2, h3⟩
 ·refine (wcopy_nil h.has).mono ?_
  rintro e w' ⟨rfl, rfl⟩
  exact ⟨_, _, _, rfl, copy_start w now []⟩
 ·by_cases hne : 0 < xs.length
  ·exact wcopy_row h hne
  ·have : xs = [] := List.eq_nil_of_length_eq_zero (by omega)
   subst this
   have hc := h.has.cell
   have hlt := h.has.lt
   clear h h0 h2 h3 hne
   have I0 := hide (copy_start w now ([] : List FR))
   go_enter Tryz.func26, Tryz.ntmps26
   go_wp2_with fail
   go_loopw [4] (fun s4 wr => s4 = .int .i64 0 ∧ wr = w.alloc (.cells #[.slice none 0 0, .int .i64 now] 72)) (fun _ _ => 0)
   case atStart => exact ⟨rfl, rfl⟩
   case round =>
    obtain ⟨rfl, rfl⟩ := hrel
    go_wp2
    go_ret
    exact ⟨_, _, _, rfl, unhide I0⟩
theorem added_twice {w : World} {ow : Nat → Nat} {wb : Nat} {v : Value} {xs : List FR} {now : Int} (h : WorR w ow wb v xs now) (c : Cmd) (i : Nat) (hf : findN xs c.flight = i) :
  Calls Tryz.prog 53 #[.pointer (some ⟨wb, 0, none⟩), .agg (cmdCells c)] w fun e w' => e = .returned (.int .i64 3) ∧ Mod No w w' := by
 have HF := (h.mod ((Mod.refl No w).alloc (.cells (cmdCells c) 41)) (fun _ _ x => x)).find c.flight
 rw [hf] at HF
 have HF := hide HF
 have M0 := hide ((Mod.refl No w).alloc (.cells (cmdCells c) 41))
 have h0 : (i : Int) ≥ 0 := by omega
 clear h hf
 unfold cmdCells at *
 go_enter Tryz.func53, Tryz.ntmps53
 go_wp2_with fail
 refine (unhide HF).mono ?_
 rintro e w1 ⟨rfl, rfl⟩
 go_wp2
 go_ret
 exact ⟨rfl, unhide M0⟩
theorem added_shape {w : World} {ow : Nat → Nat} {wb : Nat} {v : Value} {xs : List FR} {now : Int} (h : WorR w ow wb v xs now) (c : Cmd) (hf : findN xs c.flight = -1) (hp : ¬ (c.pla.sized = true ∧ c.pla.limited = true)) :
  Calls Tryz.prog 53 #[.pointer (some ⟨wb, 0, none⟩), .agg (cmdCells c)] w fun e w' => e = .returned (.int .i64 4) ∧ Mod No w w' := by
 have HF := (h.mod ((Mod.refl No w).alloc (.cells (cmdCells c) 41)) (fun _ _ x => x)).find c.flight
 rw [hf] at HF
 have HF := hide HF
 have HS := hide fun W => rsized_any c.pla W
 have HL := hide fun W => rlimited_any c.pla W
 have M0 := hide ((Mod.refl No w).alloc (.cells (cmdCells c) 41))
 have B0 := hide (Has.new w (cmdCells c) 41)
 clear h hf
 unfold plaV at HS HL
 unfold cmdCells at *
 have hps : c.pla.sized = false ∨ (c.pla.sized = true ∧ c.pla.limited = false) := by
  cases h1 : c.pla.sized <;> cases h2 : c.pla.limited <;> simp_all
 clear hp
 rcases hps with h1 | ⟨h1, h2⟩
 ·rw [h1] at HS
  generalize c.pla.limited = lm at *
  clear h1
  go_enter Tryz.func53, Tryz.ntmps53
  go_wp2_with fail
  refine (unhide HF).mono ?_
  rintro e w1 ⟨rfl, rfl⟩
  have hb := (unhide B0).cell
  have lb := (unhide B0).lt
  go_wp2_with fail
  refine ((unhide HS) _).mono ?_
  rintro e w2 ⟨rfl, m2⟩
  have hb2 := (m2.has (unhide B0) (fun x => x)).cell
  have lb2 := (m2.has (unhide B0) (fun x => x)).lt
  clear hb lb
  go_wp2_with fail
  refine ((unhide HL) _).mono ?_
  rintro e w3 ⟨rfl, m3⟩
  go_wp2
  go_ret
  exact ⟨rfl, ((unhide M0).trans m2).trans m3⟩
 ·rw [h1] at HS
  rw [h2] at HL
  clear h1 h2
  go_enter Tryz.func53, Tryz.ntmps53
  go_wp2_with fail
  refine (unhide HF).mono ?_
  rintro e w1 ⟨rfl, rfl⟩
  have hb := (unhide B0).cell
  have lb := (unhide B0).lt
  go_wp2_with fail
  refine ((unhide HS) _).mono ?_
  rintro e w2 ⟨rfl, m2⟩
  have hb2 := (m2.has (unhide B0) (fun x => x)).cell
  have lb2 := (m2.has (unhide B0) (fun x => x)).lt
  clear hb lb
  go_wp2_with fail
  refine ((unhide HL) _).mono ?_
  rintro e w3 ⟨rfl, m3⟩
  go_wp2
  go_ret
  exact ⟨rfl, ((unhide M0).trans m2).trans m3⟩
def addX (num : Int) (p : Pla) (g cap : Nat) : FR := ⟨⟨num, p, emptySeats p, 1⟩, g, cap⟩
structure AddI (w wx : World) (num : Int) (p : Pla) (cs : Array Value) (bb b0 g cap : Nat) : Prop where
 box : Has wx bb (friV (addX num p g cap)) 134
 cmd : Has wx b0 cs 41
 row : RowS wx g cap (emptySeats p)
 nb : w.heap.size ≤ bb
 ng : w.heap.size ≤ g
 ne : bb ≠ b0
 mod : Mod No w wx
theorem AddI.still {w wx w2 : World} {num : Int} {p : Pla} {cs : Array Value} {bb b0 g cap : Nat} (h : AddI w wx num p cs bb b0 g cap) (hm : Mod No wx w2) : AddI w w2 num p cs bb b0 g cap :=
 ⟨hm.has h.box (fun x => x), hm.has h.cmd (fun x => x), h.row.mod hm (fun x => x), h.nb, h.ng, h.ne, h.mod.trans hm⟩
theorem AddI.made {w w3 w5 : World} {num : Int} {p : Pla} {cs : Array Value} {b0 g cap : Nat} (hm : Mod No w w3) (h5 : Mod No w3 w5) (hc : Has w3 b0 cs 41) (hr : RowS w5 g cap (emptySeats p)) (hg : w3.heap.size < g) :
  AddI w (w5.alloc (.cells #[.int .i64 num, .int .i64 p.rows, .int .i64 p.cols, .int .i64 p.front, .int .i64 p.l0, .int .i64 p.l1, .int .i64 p.l2, .int .i64 p.l3, .slice (some ⟨g, 0, none⟩) (emptySeats p).length cap, .int .i64 1] 134)) num p cs w5.heap.size b0 g cap := by
 show AddI w (w5.alloc (.cells (friV (addX num p g cap)) 134)) num p cs w5.heap.size b0 g cap
 have h6 : Mod No w5 (w5.alloc (.cells (friV (addX num p g cap)) 134)) := (Mod.refl _ _).alloc _
 have c5 := h5.has hc (fun x => x)
 have := hm.size
 have := h5.size
 exact ⟨Has.new _ _ _, h6.has c5 (fun x => x), hr.mod h6 (fun x => x), by omega, by omega, by have := c5.lt; omega, (hm.trans h5).trans h6⟩
theorem AddI.made2 {w w3 w5 : World} {num : Int} {p : Pla} {cs : Array Value} {bb b0 g cap : Nat} (hm : Mod No w w3) (h5 : Mod No w3 w5) (hc : Has w3 b0 cs 41) (hz : Has w3 bb #[.int .i64 0, .int .i64 0, .int .i64 0, .int .i64 0, .int .i64 0, .int .i64 0, .int .i64 0, .int .i64 0, .slice none 0 0, .int .i64 0] 134) (hbb : w.heap.size ≤ bb) (hr : RowS w5 g cap (emptySeats p)) (hg : w3.heap.size < g) :
  AddI w ((((((((((w5.setCell ⟨bb, 0, none⟩ (.int .i64 num)).setCell ⟨bb, 1, none⟩ (.int .i64 p.rows)).setCell ⟨bb, 2, none⟩ (.int .i64 p.cols)).setCell ⟨bb, 3, none⟩ (.int .i64 p.front)).setCell ⟨bb, 4, none⟩ (.int .i64 p.l0)).setCell ⟨bb, 5, none⟩ (.int .i64 p.l1)).setCell ⟨bb, 6, none⟩ (.int .i64 p.l2)).setCell ⟨bb, 7, none⟩ (.int .i64 p.l3)).setCell ⟨bb, 8, none⟩ (.slice (some ⟨g, 0, none⟩) (emptySeats p).length cap)).setCell ⟨bb, 9, none⟩ (.int .i64 1)) num p cs bb b0 g cap := by
 have z5 := h5.has hz (fun x => x)
 have c5 := h5.has hc (fun x => x)
 have hlt := hz.lt
 have hne : bb ≠ b0 := hz.ne hc (by decide)
 have hgb : g ≠ bb := by omega
 have m6 : Mod (fun k => k = bb) w5 ((((((((((w5.setCell ⟨bb, 0, none⟩ (.int .i64 num)).setCell ⟨bb, 1, none⟩ (.int .i64 p.rows)).setCell ⟨bb, 2, none⟩ (.int .i64 p.cols)).setCell ⟨bb, 3, none⟩ (.int .i64 p.front)).setCell ⟨bb, 4, none⟩ (.int .i64 p.l0)).setCell ⟨bb, 5, none⟩ (.int .i64 p.l1)).setCell ⟨bb, 6, none⟩ (.int .i64 p.l2)).setCell ⟨bb, 7, none⟩ (.int .i64 p.l3)).setCell ⟨bb, 8, none⟩ (.slice (some ⟨g, 0, none⟩) (emptySeats p).length cap)).setCell ⟨bb, 9, none⟩ (.int .i64 1)) :=
  ((((((((((Mod.refl _ w5).at 0 _).at 1 _).at 2 _).at 3 _).at 4 _).at 5 _).at 6 _).at 7 _).at 8 _).at 9 _
 have e0 : Has (w5.setCell ⟨bb, 0, none⟩ (.int .i64 num)) bb #[.int .i64 num, .int .i64 0, .int .i64 0, .int .i64 0, .int .i64 0, .int .i64 0, .int .i64 0, .int .i64 0, .slice none 0 0, .int .i64 0] 134 := z5.set 0 _
 have e1 : Has ((w5.setCell ⟨bb, 0, none⟩ (.int .i64 num)).setCell ⟨bb, 1, none⟩ (.int .i64 p.rows)) bb #[.int .i64 num, .int .i64 p.rows, .int .i64 0, .int .i64 0, .int .i64 0, .int .i64 0, .int .i64 0, .int .i64 0, .slice none 0 0, .int .i64 0] 134 := e0.set 1 _
 have e2 : Has (((w5.setCell ⟨bb, 0, none⟩ (.int .i64 num)).setCell ⟨bb, 1, none⟩ (.int .i64 p.rows)).setCell ⟨bb, 2, none⟩ (.int .i64 p.cols)) bb #[.int .i64 num, .int .i64 p.rows, .int .i64 p.cols, .int .i64 0, .int .i64 0, .int .i64 0, .int .i64 0, .int .i64 0, .slice none 0 0, .int .i64 0] 134 := e1.set 2 _
 have e3 : Has ((((w5.setCell ⟨bb, 0, none⟩ (.int .i64 num)).setCell ⟨bb, 1, none⟩ (.int .i64 p.rows)).setCell ⟨bb, 2, none⟩ (.int .i64 p.cols)).setCell ⟨bb, 3, none⟩ (.int .i64 p.front)) bb #[.int .i64 num, .int .i64 p.rows, .int .i64 p.cols, .int .i64 p.front, .int .i64 0, .int .i64 0, .int .i64 0, .int .i64 0, .slice none 0 0, .int .i64 0] 134 := e2.set 3 _
 have e4 : Has (((((w5.setCell ⟨bb, 0, none⟩ (.int .i64 num)).setCell ⟨bb, 1, none⟩ (.int .i64 p.rows)).setCell ⟨bb, 2, none⟩ (.int .i64 p.cols)).setCell ⟨bb, 3, none⟩ (.int .i64 p.front)).setCell ⟨bb, 4, none⟩ (.int .i64 p.l0)) bb #[.int .i64 num, .int .i64 p.rows, .int .i64 p.cols, .int .i64 p.front, .int .i64 p.l0, .int .i64 0, .int .i64 0, .int .i64 0, .slice none 0 0, .int .i64 0] 134 := e3.set 4 _
 have e5 : Has ((((((w5.setCell ⟨bb, 0, none⟩ (.int .i64 num)).setCell ⟨bb, 1, none⟩ (.int .i64 p.rows)).setCell ⟨bb, 2, none⟩ (.int .i64 p.cols)).setCell ⟨bb, 3, none⟩ (.int .i64 p.front)).setCell ⟨bb, 4, none⟩ (.int .i64 p.l0)).setCell ⟨bb, 5, none⟩ (.int .i64 p.l1)) bb #[.int .i64 num, .int .i64 p.rows, .int .i64 p.cols, .int .i64 p.front, .int .i64 p.l0, .int .i64 p.l1, .int .i64 0, .int .i64 0, .slice none 0 0, .int .i64 0] 134 := e4.set 5 _
 have e6 : Has (((((((w5.setCell ⟨bb, 0, none⟩ (.int .i64 num)).setCell ⟨bb, 1, none⟩ (.int .i64 p.rows)).setCell ⟨bb, 2, none⟩ (.int .i64 p.cols)).setCell ⟨bb, 3, none⟩ (.int .i64 p.front)).setCell ⟨bb, 4, none⟩ (.int .i64 p.l0)).setCell ⟨bb, 5, none⟩ (.int .i64 p.l1)).setCell ⟨bb, 6, none⟩ (.int .i64 p.l2)) bb #[.int .i64 num, .int .i64 p.rows, .int .i64 p.cols, .int .i64 p.front, .int .i64 p.l0, .int .i64 p.l1, .int .i64 p.l2, .int .i64 0, .slice none 0 0, .int .i64 0] 134 := e5.set 6 _
 have e7 : Has ((((((((w5.setCell ⟨bb, 0, none⟩ (.int .i64 num)).setCell ⟨bb, 1, none⟩ (.int .i64 p.rows)).setCell ⟨bb, 2, none⟩ (.int .i64 p.cols)).setCell ⟨bb, 3, none⟩ (.int .i64 p.front)).setCell ⟨bb, 4, none⟩ (.int .i64 p.l0)).setCell ⟨bb, 5, none⟩ (.int .i64 p.l1)).setCell ⟨bb, 6, none⟩ (.int .i64 p.l2)).setCell ⟨bb, 7, none⟩ (.int .i64 p.l3)) bb #[.int .i64 num, .int .i64 p.rows, .int .i64 p.cols, .int .i64 p.front, .int .i64 p.l0, .int .i64 p.l1, .int .i64 p.l2, .int .i64 p.l3, .slice none 0 0, .int .i64 0] 134 := e6.set 7 _
 have e8 : Has (((((((((w5.setCell ⟨bb, 0, none⟩ (.int .i64 num)).setCell ⟨bb, 1, none⟩ (.int .i64 p.rows)).setCell ⟨bb, 2, none⟩ (.int .i64 p.cols)).setCell ⟨bb, 3, none⟩ (.int .i64 p.front)).setCell ⟨bb, 4, none⟩ (.int .i64 p.l0)).setCell ⟨bb, 5, none⟩ (.int .i64 p.l1)).setCell ⟨bb, 6, none⟩ (.int .i64 p.l2)).setCell ⟨bb, 7, none⟩ (.int .i64 p.l3)).setCell ⟨bb, 8, none⟩ (.slice (some ⟨g, 0, none⟩) (emptySeats p).length cap)) bb #[.int .i64 num, .int .i64 p.rows, .int .i64 p.cols, .int .i64 p.front, .int .i64 p.l0, .int .i64 p.l1, .int .i64 p.l2, .int .i64 p.l3, .slice (some ⟨g, 0, none⟩) (emptySeats p).length cap, .int .i64 0] 134 := e7.set 8 _
 have e9 : Has ((((((((((w5.setCell ⟨bb, 0, none⟩ (.int .i64 num)).setCell ⟨bb, 1, none⟩ (.int .i64 p.rows)).setCell ⟨bb, 2, none⟩ (.int .i64 p.cols)).setCell ⟨bb, 3, none⟩ (.int .i64 p.front)).setCell ⟨bb, 4, none⟩ (.int .i64 p.l0)).setCell ⟨bb, 5, none⟩ (.int .i64 p.l1)).setCell ⟨bb, 6, none⟩ (.int .i64 p.l2)).setCell ⟨bb, 7, none⟩ (.int .i64 p.l3)).setCell ⟨bb, 8, none⟩ (.slice (some ⟨g, 0, none⟩) (emptySeats p).length cap)).setCell ⟨bb, 9, none⟩ (.int .i64 1)) bb #[.int .i64 num, .int .i64 p.rows, .int .i64 p.cols, .int .i64 p.front, .int .i64 p.l0, .int .i64 p.l1, .int .i64 p.l2, .int .i64 p.l3, .slice (some ⟨g, 0, none⟩) (emptySeats p).length cap, .int .i64 1] 134 := e8.set 9 _
 refine ⟨e9, m6.has c5 (fun e => hne e.symm), hr.mod m6 hgb, hbb, by have := hm.size; have := h5.size; omega, hne, (hm.trans h5).trans' m6 (fun i hi hl => by omega)⟩
theorem ins_get {α : Type} (xs : List α) (x : α) (n i : Nat) (hn : n ≤ xs.length) (hi : i < (xs.take n ++ x :: xs.drop n).length) :
  (∃ h : i < xs.length, i < n ∧ (xs.take n ++ x :: xs.drop n)[i] = xs[i]) ∨ (i = n ∧ (xs.take n ++ x :: xs.drop n)[i] = x) ∨ (∃ h : i - 1 < xs.length, n < i ∧ (xs.take n ++ x :: xs.drop n)[i] = xs[i - 1]) := by
 have hl : (xs.take n).length = n := by rw [List.length_take]; omega
 have hi' : i < xs.length + 1 := by simp at hi; omega
 rcases Nat.lt_trichotomy i n with h | h | h
 ·refine .inl ⟨by omega, h, ?_⟩
  rw [List.getElem_append_left (by omega), List.getElem_take]
 ·refine .inr (.inl ⟨h, ?_⟩)
  subst h
  rw [List.getElem_append_right (by omega)]
  simp [hl]
 ·refine .inr (.inr ⟨by omega, h, ?_⟩)
  rw [List.getElem_append_right (by omega)]
  obtain ⟨k, hk⟩ : ∃ k, i = n + 1 + k := ⟨i - n - 1, by omega⟩
  subst hk
  simp only [hl, show n + 1 + k - n = k + 1 by omega, List.getElem_cons_succ, List.getElem_drop]
  congr 1
  omega
theorem worR_insert {w w' : World} {ow : Nat → Nat} {wb gf cap' g cap n : Nat} {v : Value} {xs : List FR} {now : Int} (h : WorR w ow wb v xs now) (hm : Mod (fun k => k = wb) w w') (num : Int) (p : Pla) (hn : n ≤ xs.length) (h20 : xs.length < 20)
  (hh : Has w' wb #[.slice (some ⟨gf, 0, none⟩) (xs.length + 1) cap', .int .i64 now] 72) (hr : RowF w' gf cap' (xs.take n ++ addX num p g cap :: xs.drop n)) (hs : RowS w' g cap (emptySeats p))
  (hg : w.heap.size ≤ g) (hgf : w.heap.size ≤ gf) (hne : g ≠ gf) (hwf : Wf p (emptySeats p)) :
  ∃ ow', WorR w' ow' wb (.slice (some ⟨gf, 0, none⟩) (xs.length + 1) cap') (xs.take n ++ addX num p g cap :: xs.drop n) now ∧ ∀ k, ow' k ≠ 0 → ow k ≠ 0 ∨ w.heap.size ≤ k := by
 have hlen : (xs.take n ++ addX num p g cap :: xs.drop n).length = xs.length + 1 := by simp; omega
 refine ⟨fun k => if k = gf then 2 else if k = g then n + 3 else if ow k = 2 then 0 else if n + 3 ≤ ow k then ow k + 1 else ow k, ⟨hh, .inr ⟨gf, cap', by rw [hlen], hr, by simp only [if_pos]⟩, ?_, fun k hk => ?_, fun i hi => ?_, by rw [hlen]; omega⟩, fun k hk => ?_⟩
 ·have hw := h.old wb (by rw [h.mine]; omega)
  have e := h.mine
  rw [if_neg (by omega), if_neg (by omega), if_neg (by omega), if_neg (by omega), e]
 ·by_cases e1 : k = gf
  ·subst e1; obtain ⟨cur, q, _⟩ := hr.cur; exact q.lt
  ·by_cases e2 : k = g
   ·subst e2; exact hs.lt
   ·rw [if_neg e1, if_neg e2] at hk
    have : ow k ≠ 0 := by
     intro e
     rw [e] at hk
     simp at hk
    exact Nat.lt_of_lt_of_le (h.old k this) hm.size
 ·have hbig : ∀ j (hj : j < xs.length), xs[j].g < w.heap.size ∧ ow xs[j].g = j + 3 := fun j hj => ⟨h.old _ (by rw [(h.seats j hj).2.1]; omega), (h.seats j hj).2.1⟩
  have hwbne : ∀ j (hj : j < xs.length), ¬ xs[j].g = wb := fun j hj e => by have := (hbig j hj).2; rw [e, h.mine] at this; omega
  rcases ins_get xs (addX num p g cap) n i hn hi with ⟨h1, h2, h3⟩ | ⟨h2, h3⟩ | ⟨h1, h2, h3⟩
  ·rw [h3]
   obtain ⟨q1, q2, q3⟩ := h.seats i h1
   refine ⟨q1.mod hm (hwbne i h1), ?_, q3⟩
   have := hbig i h1
   rw [if_neg (by omega), if_neg (by omega), if_neg (by omega), if_neg (by omega)]
   exact this.2
  ·rw [h3]
   refine ⟨hs, ?_, hwf⟩
   show (if g = gf then 2 else if g = g then n + 3 else if ow g = 2 then 0 else if n + 3 ≤ ow g then ow g + 1 else ow g) = i + 3
   rw [if_neg hne, if_pos rfl, h2]
  ·rw [h3]
   obtain ⟨q1, q2, q3⟩ := h.seats (i - 1) h1
   refine ⟨q1.mod hm (hwbne (i - 1) h1), ?_, q3⟩
   have := hbig (i - 1) h1
   rw [if_neg (by omega), if_neg (by omega), if_neg (by omega), if_pos (by omega)]
   omega
 ·by_cases e1 : k = gf
  ·right; omega
  ·by_cases e2 : k = g
   ·right; omega
   ·have hk : (if k = gf then 2 else if k = g then n + 3 else if ow k = 2 then 0 else if n + 3 ≤ ow k then ow k + 1 else ow k) ≠ 0 := hk
    rw [if_neg e1, if_neg e2] at hk
    left
    intro e
    rw [e] at hk
    simp at hk
theorem friL_one (l : List FR) : ∀ u ∈ l.flatMap friL, u.oneCell' = true := by
 intro u hu
 obtain ⟨x, _, hx⟩ := List.mem_flatMap.1 hu
 simp [friL, friV] at hx
 rcases hx with rfl | rfl | rfl | rfl | rfl | rfl | rfl | rfl | rfl | rfl <;> rfl
theorem reads_take {w : World} {gf cap : Nat} {xs : List FR} (h : RowF w gf cap xs) (i : Nat) (hi : i ≤ xs.length) (c : Nat) : Reads w (.slice (some ⟨gf, 0, none⟩) i c) i ((xs.take i).flatMap friL) :=
 .inr ⟨⟨gf, 0, none⟩, c, rfl, fun j u hu => by
  have hj : j < ((xs.take i).flatMap friL).length := (List.getElem?_eq_some_iff.1 hu).1
  rw [flat_len 10 friL friL_len, List.length_take] at hj
  have hk : j / 10 < i := by omega
  have e : j = j / 10 * 10 + j % 10 := by omega
  rw [e, flat_at 10 (by omega) friL friL_len (xs.take i) (j / 10) (by rw [List.length_take]; omega) (j % 10) (by omega), List.getElem_take] at hu
  rw [Addr.add_mid, Nat.zero_add, e, h.cell (j / 10) (by omega) (j % 10) (by omega), ← Array.getElem?_toList]
  exact hu⟩
theorem reads_drop {w : World} {gf cap : Nat} {xs : List FR} (h : RowF w gf cap xs) (i : Nat) (hi : i ≤ xs.length) (c : Nat) : Reads w (.slice (some ⟨gf, i * 10, none⟩) (xs.length - i) c) (xs.length - i) ((xs.drop i).flatMap friL) :=
 .inr ⟨⟨gf, i * 10, none⟩, c, rfl, fun j u hu => by
  have hj : j < ((xs.drop i).flatMap friL).length := (List.getElem?_eq_some_iff.1 hu).1
  rw [flat_len 10 friL friL_len, List.length_drop] at hj
  have hk : j / 10 < xs.length - i := by omega
  have e : j = j / 10 * 10 + j % 10 := by omega
  rw [e, flat_at 10 (by omega) friL friL_len (xs.drop i) (j / 10) (by rw [List.length_drop]; omega) (j % 10) (by omega), List.getElem_drop] at hu
  rw [Addr.add_mid, e, show i * 10 + (j / 10 * 10 + j % 10) = (i + j / 10) * 10 + j % 10 by omega, h.cell (i + j / 10) (by omega) (j % 10) (by omega), ← Array.getElem?_toList]
  exact hu⟩
theorem reads_drop0 {w : World} {gf : Nat} {xs : List FR} (i : Nat) (hi : i = xs.length) (c : Nat) : Reads w (.slice (some ⟨gf, 0, none⟩) (xs.length - i) c) (xs.length - i) ((xs.drop i).flatMap friL) :=
 .inr ⟨⟨gf, 0, none⟩, c, rfl, fun j u hu => by
  rw [hi, List.drop_length] at hu
  simp at hu⟩
theorem reads_fr (w : World) (T : TypeId) (x : FR) : Reads (w.alloc (.cells (friV x) T)) (.slice (some ⟨w.heap.size, 0, none⟩) 1 1) 1 (friL x) :=
 .inr ⟨⟨w.heap.size, 0, none⟩, 1, rfl, fun j u hu => by
  have hN := Has.new w (friV x) T
  rw [Addr.add_mid, Nat.zero_add, hN.cell, ← Array.getElem?_toList]
  exact hu⟩
end Go.Proofs.YthhibagcpjeihaaGreat
