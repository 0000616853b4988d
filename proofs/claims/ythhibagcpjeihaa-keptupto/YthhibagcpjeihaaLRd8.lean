import Derived.Test.YthhibagcpjeihaaLKSToRd7
import Derived.Deep.CutRange
namespace Go.Proofs.Ythhibagcpjeihaa
open Go.RowKit
open M
set_option linter.unusedVariables false
set_option linter.unusedSimpArgs false
set_option maxRecDepth 100000
set_option maxHeartbeats 4000000
def EntV (w : World) (lo : Nat) (v : Value) (e : Ent) : Prop :=
 if e.kind = 7 then ∃ a c, v = .iface 177 (.agg (wholeL e.pla (.slice a e.seats.length c)).toArray) ∧ w.ownsRow 0 180 6 (.slice a e.seats.length c) e.seats.length (e.seats.flatMap fillL) ∧ ∀ j, (Value.slice a e.seats.length c).ownBlock = some j → lo ≤ j
 else v = chV e
theorem EntV.mod {w w' : World} {lo : Nat} {v : Value} {e : Ent} {S : Nat → Prop} (h : EntV w lo v e) (hm : Mod S w w') (hs : ∀ k, lo ≤ k → ¬ S k) : EntV w' lo v e := by
 unfold EntV at h ⊢
 split
 ·rename_i h7
  rw [if_pos h7] at h
  obtain ⟨a, c, h1, h2, h3⟩ := h
  exact ⟨a, c, h1, hm.owns h2 (fun k hk => hs k (h3 k hk)), h3⟩
 ·rename_i h7
  rw [if_neg h7] at h
  exact h
theorem EntV.low {w : World} {lo lo' : Nat} {v : Value} {e : Ent} (h : EntV w lo v e) (hl : lo' ≤ lo) : EntV w lo' v e := by
 unfold EntV at h ⊢
 split
 ·rename_i h7
  rw [if_pos h7] at h
  obtain ⟨a, c, h1, h2, h3⟩ := h
  exact ⟨a, c, h1, h2, fun j hj => Nat.le_trans hl (h3 j hj)⟩
 ·rename_i h7
  rw [if_neg h7] at h
  exact h
def RdE (w' : World) (rb gb lo : Nat) (o : Option ((Ent × Int) × List Int)) (f : Int) (v : Value) : Prop := match o with
 | some ((e, now'), r) => f = e.fl ∧ EntV w' lo v e ∧ RdX w' rb gb r now' false
 | none => ∃ r now', RdX w' rb gb r now' true
theorem RdE.mod {w w' : World} {rb gb lo : Nat} {o : Option ((Ent × Int) × List Int)} {f : Int} {v : Value} {S : Nat → Prop} (h : RdE w rb gb lo o f v) (hm : Mod S w w') (hs : ∀ k, lo ≤ k → ¬ S k) (h1 : ¬ S rb) (h2 : ¬ S gb) : RdE w' rb gb lo o f v := by
 rcases o with _ | ⟨⟨e, now'⟩, r⟩
 ·obtain ⟨r, n, h⟩ := h
  exact ⟨r, n, h.mod hm h1 h2⟩
 ·exact ⟨h.1, h.2.1.mod hm hs, h.2.2.mod hm h1 h2⟩
theorem RdE.low {w : World} {rb gb lo lo' : Nat} {o : Option ((Ent × Int) × List Int)} {f : Int} {v : Value} (h : RdE w rb gb lo o f v) (hl : lo' ≤ lo) : RdE w rb gb lo' o f v := by
 rcases o with _ | ⟨⟨e, now'⟩, r⟩
 ·exact h
 ·exact ⟨h.1, h.2.1.low hl, h.2.2⟩
theorem RdQ.toE {w' : World} {rb gb lo : Nat} {o : Option ((Ent × Int) × List Int)} {now : Int} {e : Ent} {v : Value} (h : RdQ w' rb gb o now false (fun x => x = (e, now))) {f : Int} (hf : f = e.fl) (hv : EntV w' lo v e) : RdE w' rb gb lo o f v := by
 rcases o with _ | ⟨x, r⟩
 ·obtain ⟨r, h⟩ := h
  exact ⟨r, now, h⟩
 ·obtain ⟨rfl, h⟩ := h
  exact ⟨hf, hv, h⟩
theorem AtC.cont {γ : Type} {w : World} {rb gb : Nat} {now : Int} {T : Option (γ × List Int)} {c c' : List Int → Option (γ × List Int)} {l : List Int} {t : Bool} (h : AtC w rb gb now T c l t) (e : c l = c' l) : AtC w rb gb now T c' l t := ⟨h.rd, fun q => (h.yes q).trans e, h.no⟩
structure EtI (w wr : World) (rb gb sb xb : Nat) (f : Int) : Prop where
 box : Has wr xb #[.int .i64 f, .nilIface] 124
 res : Has wr sb #[.int .i64 0, .nilIface] 124
 mod : Mod (· = rb) w wr
 ord : rb < sb ∧ gb < sb ∧ sb = w.heap.size ∧ sb < xb
theorem EtI.step {w wr wx : World} {rb gb sb xb : Nat} {f : Int} (h : EtI w wr rb gb sb xb f) (hm : Mod (· = rb) wr wx) : EtI w wx rb gb sb xb f :=
 ⟨hm.has h.box (by have := h.ord; show ¬ xb = rb; omega), hm.has h.res (by have := h.ord; show ¬ sb = rb; omega), h.mod.trans hm, h.ord⟩
theorem EtI.still {w wr wx : World} {rb gb sb xb : Nat} {f : Int} (h : EtI w wr rb gb sb xb f) (hm : Mod No wr wx) : EtI w wx rb gb sb xb f := h.step (hm.mono fun _ _ x => x.elim)
def EntR (w w' : World) (rb gb : Nat) (T : Option ((Ent × Int) × List Int)) (f : Int) (v : Value) : Prop := v.oneCell' = true ∧ Mod (· = rb) w w' ∧ RdE w' rb gb w.heap.size T f v
theorem EtI.fin {w W : World} {rb gb sb xb : Nat} {f : Int} {v : Value} {T : Option ((Ent × Int) × List Int)} (h : EtI w W rb gb sb xb f) (h1 : v.oneCell' = true) (hr : RdE W rb gb (xb + 1) T f v) :
  (((W.setCell ⟨xb, 1, none⟩ v).setCell ⟨sb, 0, none⟩ (.int .i64 f)).setCell ⟨sb, 1, none⟩ v).cell? ⟨sb, 0, none⟩ = some (.int .i64 f) ∧ (((W.setCell ⟨xb, 1, none⟩ v).setCell ⟨sb, 0, none⟩ (.int .i64 f)).setCell ⟨sb, 1, none⟩ v).cell? ⟨sb, 1, none⟩ = some v ∧
  EntR w (((W.setCell ⟨xb, 1, none⟩ v).setCell ⟨sb, 0, none⟩ (.int .i64 f)).setCell ⟨sb, 1, none⟩ v) rb gb T f v := by
 obtain ⟨o1, o2, o3, o4⟩ := h.ord
 have m : Mod (fun k => k = xb ∨ k = sb) W (((W.setCell ⟨xb, 1, none⟩ v).setCell ⟨sb, 0, none⟩ (.int .i64 f)).setCell ⟨sb, 1, none⟩ v) := (((Mod.refl _ W).setCell (p := ⟨xb, 1, none⟩) (.inl (.inl rfl)) _).setCell (p := ⟨sb, 0, none⟩) (.inl (.inr rfl)) _).setCell (p := ⟨sb, 1, none⟩) (.inl (.inr rfl)) _
 have hR : Has (W.setCell ⟨xb, 1, none⟩ v) sb #[.int .i64 0, .nilIface] 124 := h.res.set_ne (a := ⟨xb, 1, none⟩) (by show sb ≠ xb; omega) v
 have B := (hR.set 0 (.int .i64 f)).set 1 v
 refine ⟨B.cell 0, B.cell 1, h1, h.mod.trans' m (fun k hk hl => by rcases hk with e | e <;> omega), (hr.mod m (fun k hk e => by rcases e with e | e <;> omega) (fun e => by rcases e with e | e <;> omega) (fun e => by rcases e with e | e <;> omega)).low (by omega)⟩
theorem RdX.now_cell {w : World} {rb gb : Nat} {l : List Int} {now : Int} {torn : Bool} (h : RdX w rb gb l now torn) : w.cell? ⟨rb, 1, none⟩ = some (.int .i64 now) := by
 obtain ⟨_, _, q, _⟩ := h.has
 exact q.cell 1
theorem RdX.box_lt {w : World} {rb gb : Nat} {l : List Int} {now : Int} {torn : Bool} (h : RdX w rb gb l now torn) : (∀ o, w.frozen? ⟨rb, o, none⟩ = false) ∧ rb < w.heap.size := by
 obtain ⟨_, _, q, _⟩ := h.has
 exact ⟨q.frozen, q.lt⟩
theorem RdX.later {w : World} {rb gb : Nat} {l : List Int} {now n : Int} {torn : Bool} (h : RdX w rb gb l now torn) (hn : Fit n) : RdX (w.setCell ⟨rb, 1, none⟩ (.int .i64 n)) rb gb l n torn := by
 obtain ⟨a, c, q1, q2, q3⟩ := h.has
 have m : Mod (· = rb) w (w.setCell ⟨rb, 1, none⟩ (.int .i64 n)) := (Mod.refl (fun k => k = rb) w).setCell (p := ⟨rb, 1, none⟩) (.inl rfl) _
 refine ⟨⟨a, c, q1.set 1 _, q2, fun j x hx => ?_⟩, h.ne, Nat.lt_of_lt_of_le h.lt m.size, hn, h.len, h.by8⟩
 obtain ⟨o, e1, e2⟩ := q3 j x hx
 exact ⟨o, e1, mod_cellS m e2 h.ne⟩
theorem RdX.tear {w : World} {rb gb : Nat} {l : List Int} {now : Int} {torn : Bool} (h : RdX w rb gb l now torn) : RdX (w.setCell ⟨rb, 2, none⟩ (.bool true)) rb gb l now true ∧ Mod (· = rb) w (w.setCell ⟨rb, 2, none⟩ (.bool true)) := by
 obtain ⟨a, c, q1, q2, q3⟩ := h.has
 have m : Mod (· = rb) w (w.setCell ⟨rb, 2, none⟩ (.bool true)) := (Mod.refl (fun k => k = rb) w).setCell (p := ⟨rb, 2, none⟩) (.inl rfl) _
 refine ⟨⟨⟨a, c, q1.set 2 _, q2, fun j x hx => ?_⟩, h.ne, Nat.lt_of_lt_of_le h.lt m.size, h.fit, h.len, h.by8⟩, m⟩
 obtain ⟨o, e1, e2⟩ := q3 j x hx
 exact ⟨o, e1, mod_cellS m e2 h.ne⟩
theorem RdX.torn_cell {w : World} {rb gb : Nat} {l : List Int} {now : Int} {torn : Bool} (h : RdX w rb gb l now torn) : w.cell? ⟨rb, 2, none⟩ = some (.bool torn) := by
 obtain ⟨_, _, q, _⟩ := h.has
 exact q.cell 2
theorem EtI.fin0 {w W : World} {rb gb sb xb : Nat} {f : Int} {T : Option ((Ent × Int) × List Int)} (h : EtI w W rb gb sb xb f) (hr : RdE W rb gb (xb + 1) T f .nilIface) :
  ((W.setCell ⟨sb, 0, none⟩ (.int .i64 f)).setCell ⟨sb, 1, none⟩ .nilIface).cell? ⟨sb, 0, none⟩ = some (.int .i64 f) ∧ ((W.setCell ⟨sb, 0, none⟩ (.int .i64 f)).setCell ⟨sb, 1, none⟩ .nilIface).cell? ⟨sb, 1, none⟩ = some .nilIface ∧
  EntR w ((W.setCell ⟨sb, 0, none⟩ (.int .i64 f)).setCell ⟨sb, 1, none⟩ .nilIface) rb gb T f .nilIface := by
 obtain ⟨o1, o2, o3, o4⟩ := h.ord
 have m : Mod (fun k => k = sb) W ((W.setCell ⟨sb, 0, none⟩ (.int .i64 f)).setCell ⟨sb, 1, none⟩ .nilIface) := ((Mod.refl (fun k => k = sb) W).setCell (p := ⟨sb, 0, none⟩) (.inl rfl) _).setCell (p := ⟨sb, 1, none⟩) (.inl rfl) _
 have B := (h.res.set 0 (.int .i64 f)).set 1 .nilIface
 exact ⟨B.cell 0, B.cell 1, rfl, h.mod.trans' m (fun k hk hl => by omega), (hr.mod m (fun k hk e => by omega) (fun e => by omega) (fun e => by omega)).low (by omega)⟩
structure PassI (w wx : World) (rb gb xb : Nat) (f now n : Int) (T : Option ((Ent × Int) × List Int)) : Prop where
 et : EtI w wx rb gb w.heap.size xb f
 ent : RdE wx rb gb (xb + 1) T f (.iface 144 (.agg #[.int .i64 (wrap64 (now + n))]))
 now : wx.cell? ⟨rb, 1, none⟩ = some (.int .i64 (wrap64 (now + n)))
 lt : rb < wx.heap.size
theorem pass_num {w wA : World} {rb gb xb : Nat} {f now : Int} {l : List Int} {t : Bool} {T : Option ((Ent × Int) × List Int)} (h : AtC wA rb gb now T (fun r => bindP (numP r 0 0) fun n r => some ((ePass f (wrap64 (now + n)), wrap64 (now + n)), r)) l t) (hI : EtI w wA rb gb w.heap.size xb f) (W : World) (hW : Mod No wA W) :
  Calls Try.prog 107 #[.pointer (some ⟨rb, 0, none⟩)] W fun e w6 => ∃ u, e = .returned (.int .i64 u) ∧ w6.cell? ⟨rb, 1, none⟩ = some (.int .i64 now) ∧ ((∀ o, w6.frozen? ⟨rb, o, none⟩ = false) ∧ rb < w6.heap.size) ∧ Hid (∀ x, x = wrap64 (now + u) → PassI w (w6.setCell ⟨rb, 1, none⟩ (.int .i64 x)) rb gb xb f now u T) := by
 have hA := h.mod0 hW
 refine (rnum_any hA.rd).mono ?_
 rintro e w6 ⟨u, rfl, fu, hu⟩
 obtain ⟨l2, t2, a2, -⟩ := hA.next hu.2
 refine ⟨u, rfl, a2.rd.now_cell, a2.rd.box_lt, fun x hx => ?_⟩
 subst hx
 have fx : Fit (wrap64 (now + u)) := by unfold wrap64; omega
 have hl := a2.rd.later fx
 have m : Mod (· = rb) w6 (w6.setCell ⟨rb, 1, none⟩ (.int .i64 (wrap64 (now + u)))) := (Mod.refl (fun k => k = rb) w6).setCell (p := ⟨rb, 1, none⟩) (.inl rfl) _
 refine ⟨((hI.still hW).step hu.1).step m, ?_, hl.now_cell, hl.box_lt.2⟩
 cases t2 with
 | false => rw [a2.yes rfl]; exact ⟨rfl, rfl, hl⟩
 | true => rw [a2.no rfl]; exact ⟨l2, _, hl⟩
theorem rentry_any {w : World} {rb gb : Nat} {l : List Int} {now : Int} (h : RdX w rb gb l now false) :
  Calls Try.prog 108 #[.pointer (some ⟨rb, 0, none⟩)] w fun e w' => ∃ f v, e = .returned (.agg #[.int .i64 f, v]) ∧ EntR w w' rb gb (entryP now l) f v := by
 have hrl := h.ne_box
 have hgl := h.lt
 have m0 : Mod No w (w.alloc (.cells #[.int .i64 0, .nilIface] 124)) := (Mod.refl _ _).alloc _
 have A0 := hide (show AtC (w.alloc (.cells #[.int .i64 0, .nilIface] 124)) rb gb now (entryP now l) (fun r => bindP (byteP r) fun h r => entP now h r) l false from (h.start (entryP now)).mod0 m0)
 have B0 := hide (Has.new w #[.int .i64 0, .nilIface] 124)
 have M0 := hide m0
 have HZ0 := hide (show w.heap.size + 1 ≤ (w.alloc (.cells #[.int .i64 0, .nilIface] 124)).heap.size by simp)
 clear h m0
 generalize entryP now l = T at *
 go_enter Try.func108, Try.ntmps108
 go_wp2_with fail
 refine (rbyte_any (unhide A0).rd).mono ?_
 rintro e w1 ⟨x, rfl, hx⟩
 obtain ⟨hx0, m1, hx2⟩ := hx
 obtain ⟨l1, t1, a1, ht⟩ : ∃ l1 t1, AtC w1 rb gb now T (fun r => entP now x r) l1 t1 ∧ (x ≠ 0 → t1 = false) := by
  rcases hx2 with ⟨rfl, e, q⟩ | ⟨r, rfl, q⟩
  ·exact ⟨[], true, ⟨q, fun e => by simp at e, fun _ => (unhide A0).yes rfl⟩, fun h0 => absurd e h0⟩
  ·exact ⟨r, false, ⟨q, fun _ => (unhide A0).yes rfl, fun e => by simp at e⟩, fun _ => rfl⟩
 have hand : bits .and .i64 x 31 = x % 32 := bits_mask .i64 63 (by decide) wraps_i64 5 (by decide) x hx0.1 (by omega)
 have i1 : EtI w (w1.alloc (.cells #[.int .i64 (x % 32), .nilIface] 124)) rb gb w.heap.size w1.heap.size (x % 32) := by
  have hs1 := m1.size
  have h0 := unhide HZ0
  refine ⟨Has.new _ _ _, (m1.has (unhide B0) (by show ¬ w.heap.size = rb; omega)).alloc _, ((((unhide M0).mono (S' := (· = rb)) fun _ _ x => x.elim).trans m1).alloc _), hrl, hgl, rfl, by omega⟩
 have I1 := hide i1
 clear i1
 have A1 := hide (a1.mod0 ((Mod.refl No w1).alloc (.cells #[.int .i64 (x % 32), .nilIface] 124)))
 have HT := hide ht
 clear hx2 a1 m1 A0 B0 M0 HZ0 ht
 go_upto_region 5 with fail
 have hwx : w1.heap.size + 1 ≤ (w1.alloc (.cells #[.int .i64 (x % 32), .nilIface] 124)).heap.size := by simp
 generalize w1.alloc (.cells #[.int .i64 (x % 32), .nilIface] 124) = wA at *
 generalize w1.heap.size = xb at *
 clear hand hrl hgl
 obtain ⟨f, hf⟩ : ∃ f, x % 32 = f := ⟨_, rfl⟩
 obtain ⟨k, hk⟩ : ∃ k, x / 32 = k := ⟨_, rfl⟩
 have hk0 : 0 ≤ k ∧ k ≤ 7 := by omega
 have HK := hide hk
 have HF := hide hf
 have HT := hide (show 1 ≤ k → t1 = false from fun h1 => (unhide HT) (by rintro rfl; omega))
 rw [hf] at I1 ⊢
 rw [hk]
 clear hk hf hx0
 by_cases k1 : k = 1
 ·subst k1
  obtain rfl := (unhide HT) (by omega)
  have A2 := hide ((unhide A1).cont (c' := fun r => bindP (planeP r) fun p r => some ((eStart f p, now), r)) (by show entP now x l1 = _; unfold entP; rw [unhide HK, unhide HF]; rw [if_pos rfl]; try rfl))
  clear A1
  go_wp2_with fail
  refine (rplane_any (unhide A2).rd).mono ?_
  rintro e w2 ⟨p, rfl, fp, hp⟩
  obtain ⟨l2, t2, a2, -⟩ := (unhide A2).next hp.2
  have R2 := hide a2.fin
  have IW := hide ((unhide I1).step hp.1)
  unfold planeL
  clear hp a2 A2 fp I1
  have J := unhide IW
  have x0 : w2.cell? ⟨xb, 0, none⟩ = some (.int .i64 f) := J.box.cell 0
  have x1 : w2.cell? ⟨xb, 1, none⟩ = some .nilIface := J.box.cell 1
  have xf := J.box.frozen
  have xl := J.box.lt
  have z0 : w2.cell? ⟨w.heap.size, 0, none⟩ = some (.int .i64 0) := J.res.cell 0
  have z1 : w2.cell? ⟨w.heap.size, 1, none⟩ = some .nilIface := J.res.cell 1
  have zf := J.res.frozen
  have zl := J.res.lt
  have hne : ¬ w.heap.size = xb := by have := J.ord; omega
  have FIN := hide (J.fin (v := .iface 163 (.agg #[.int .i64 p.rows, .int .i64 p.cols, .int .i64 p.front, .int .i64 p.l0, .int .i64 p.l1, .int .i64 p.l2, .int .i64 p.l3])) rfl ((unhide R2).toE rfl rfl))
  clear J
  go_wp2_with fail
  obtain ⟨d0, d1, q⟩ := unhide FIN
  refine bodyPost_ret (by simp [results, Try.results108, go_sem, d0, d1]; try rfl) rfl ?_
  exact ⟨f, _, rfl, q⟩
 by_cases k2 : k = 2
 ·subst k2
  obtain rfl := (unhide HT) (by omega)
  have A2 := hide ((unhide A1).cont (c' := fun r => bindP (fillP now r) fun s r => some ((eFill f s, now), r)) (by show entP now x l1 = _; unfold entP; rw [unhide HK, unhide HF]; rw [if_neg (by decide)]; rw [if_pos rfl]; try rfl))
  clear A1
  go_wp2_with fail
  refine (rfill_any (unhide A2).rd).mono ?_
  rintro e w2 ⟨s, rfl, fs, hs⟩
  obtain ⟨l2, t2, a2, -⟩ := (unhide A2).next hs.2
  have R2 := hide a2.fin
  have IW := hide ((unhide I1).step hs.1)
  unfold fillL
  clear hs a2 A2 fs I1
  have J := unhide IW
  have x0 : w2.cell? ⟨xb, 0, none⟩ = some (.int .i64 f) := J.box.cell 0
  have x1 : w2.cell? ⟨xb, 1, none⟩ = some .nilIface := J.box.cell 1
  have xf := J.box.frozen
  have xl := J.box.lt
  have z0 : w2.cell? ⟨w.heap.size, 0, none⟩ = some (.int .i64 0) := J.res.cell 0
  have z1 : w2.cell? ⟨w.heap.size, 1, none⟩ = some .nilIface := J.res.cell 1
  have zf := J.res.frozen
  have zl := J.res.lt
  have hne : ¬ w.heap.size = xb := by have := J.ord; omega
  have FIN := hide (J.fin (v := .iface 180 (.agg #[.int .i64 s.row, .int .i64 s.col, .int .i64 s.st, .int .i64 s.pa, .int .i64 s.cl, .int .i64 s.un])) rfl ((unhide R2).toE rfl rfl))
  clear J
  go_wp2_with fail
  obtain ⟨d0, d1, q⟩ := unhide FIN
  refine bodyPost_ret (by simp [results, Try.results108, go_sem, d0, d1]; try rfl) rfl ?_
  exact ⟨f, _, rfl, q⟩
 by_cases k3 : k = 3
 ·subst k3
  obtain rfl := (unhide HT) (by omega)
  have A2 := hide ((unhide A1).cont (c' := fun r => bindP (placeP r) fun p r => some ((eEmpty f p.1 p.2, now), r)) (by show entP now x l1 = _; unfold entP; rw [unhide HK, unhide HF]; rw [if_neg (by decide)]; rw [if_neg (by decide)]; rw [if_pos rfl]; try rfl))
  clear A1
  go_wp2_with fail
  refine (rplace_any (unhide A2).rd).mono ?_
  rintro e w2 ⟨r, c, rfl, fp, hp⟩
  obtain ⟨l2, t2, a2, -⟩ := (unhide A2).next hp.2
  have R2 := hide a2.fin
  have IW := hide ((unhide I1).step hp.1)
  clear hp a2 A2 fp I1
  have J := unhide IW
  have x0 : w2.cell? ⟨xb, 0, none⟩ = some (.int .i64 f) := J.box.cell 0
  have x1 : w2.cell? ⟨xb, 1, none⟩ = some .nilIface := J.box.cell 1
  have xf := J.box.frozen
  have xl := J.box.lt
  have z0 : w2.cell? ⟨w.heap.size, 0, none⟩ = some (.int .i64 0) := J.res.cell 0
  have z1 : w2.cell? ⟨w.heap.size, 1, none⟩ = some .nilIface := J.res.cell 1
  have zf := J.res.frozen
  have zl := J.res.lt
  have hne : ¬ w.heap.size = xb := by have := J.ord; omega
  have FIN := hide (J.fin (v := .iface 184 (.agg #[.int .i64 r, .int .i64 c])) rfl ((unhide R2).toE rfl rfl))
  clear J
  go_wp2_with fail
  obtain ⟨d0, d1, q⟩ := unhide FIN
  refine bodyPost_ret (by simp [results, Try.results108, go_sem, d0, d1]; try rfl) rfl ?_
  exact ⟨f, _, rfl, q⟩
 by_cases k4 : k = 4
 ·subst k4
  obtain rfl := (unhide HT) (by omega)
  have A2 := hide ((unhide A1).cont (c' := fun r => bindP (placeP r) fun p r => bindP (placeP r) fun q r => some ((eShift f p.1 p.2 q.1 q.2, now), r)) (by show entP now x l1 = _; unfold entP; rw [unhide HK, unhide HF]; rw [if_neg (by decide)]; rw [if_neg (by decide)]; rw [if_neg (by decide)]; rw [if_pos rfl]; try rfl))
  clear A1
  go_wp2_with fail
  refine (rplace_any (unhide A2).rd).mono ?_
  rintro e w2 ⟨r, c, rfl, fp, hp⟩
  obtain ⟨l2, t2, a2, -⟩ := (unhide A2).next hp.2
  have m2 : Mod No w2 (w2.alloc (.cells #[.int .i64 r, .int .i64 c] 32)) := (Mod.refl _ _).alloc _
  have A3 := hide (a2.mod0 m2)
  have I3 := hide (((unhide I1).step hp.1).still m2)
  have C3 := hide (Has.new w2 #[.int .i64 r, .int .i64 c] 32)
  have N3 := hide (show ¬ w2.heap.size = rb ∧ ¬ w2.heap.size = xb from by
   have h1 := (unhide I1).ord
   have h2 := hp.1.size
   have h3 := (unhide I1).box.lt
   exact ⟨by omega, by omega⟩)
  clear hp a2 A2 fp I1 m2
  go_upto_region 13 with fail
  generalize w2.alloc (.cells #[.int .i64 r, .int .i64 c] 32) = wB at *
  generalize w2.heap.size = pb at *
  have p0 : wB.cell? ⟨pb, 0, none⟩ = some (.int .i64 r) := (unhide C3).cell 0
  have p1 : wB.cell? ⟨pb, 1, none⟩ = some (.int .i64 c) := (unhide C3).cell 1
  have pl := (unhide C3).lt
  have x1 : wB.cell? ⟨xb, 1, none⟩ = some .nilIface := (unhide I3).box.cell 1
  have xf := (unhide I3).box.frozen
  have xl := (unhide I3).box.lt
  have hxp : ¬ xb = pb := fun e => (unhide N3).2 e.symm
  have A4 := hide ((unhide A3).mod0 (Mod.refl No wB).drew)
  have I4 := hide ((unhide I3).still (Mod.refl No wB).drew)
  have C4 := hide (unhide C3).drew
  have HP := hide (show Calls Try.prog 112 #[.pointer (some ⟨rb, 0, none⟩)] wB.drew fun e w' => ∃ v, e = .returned v ∧ ∃ r' c', v = .agg #[.int .i64 r', .int .i64 c'] ∧ RdR wB.drew w' rb gb (placeP l2) now t2 (fun x => x = (r', c')) from (rplace_any (unhide A4).rd).mono (fun e w' ⟨r', c', h1, h2, h3⟩ => ⟨_, h1, r', c', rfl, h3⟩))
  clear A3 I3 C3
  go_region_law (refine step_callx rfl 112 _ _ rfl #[.pointer (some ⟨rb, 0, none⟩)] (by simp [Act.eval, Act.put]) (fun W => by kernel_rfl) _ (unhide HP) ?_; intro v4 w4 h4; obtain ⟨r', c', rfl, h4⟩ := h4; obtain ⟨l4, t4, a4, -⟩ := (unhide A4).next h4.2; have R2 := hide a4.fin; have IW := hide ((unhide I4).step h4.1); have C5 := h4.1.has (unhide C4) (unhide N3).1; have p05 : w4.cell? ⟨pb, 0, none⟩ = some (.int .i64 r) := C5.cell 0; have p15 : w4.cell? ⟨pb, 1, none⟩ = some (.int .i64 c) := C5.cell 1; have pl5 := C5.lt; have x15 : w4.cell? ⟨xb, 1, none⟩ = some .nilIface := (unhide IW).box.cell 1; have xf5 := (unhide IW).box.frozen; have xl5 := (unhide IW).box.lt; clear h4 a4 C5)
  all_goals
   have J := unhide IW
   have x0 : w4.cell? ⟨xb, 0, none⟩ = some (.int .i64 f) := J.box.cell 0
   have x1 : w4.cell? ⟨xb, 1, none⟩ = some .nilIface := J.box.cell 1
   have xf := J.box.frozen
   have xl := J.box.lt
   have z0 : w4.cell? ⟨w.heap.size, 0, none⟩ = some (.int .i64 0) := J.res.cell 0
   have z1 : w4.cell? ⟨w.heap.size, 1, none⟩ = some .nilIface := J.res.cell 1
   have zf := J.res.frozen
   have zl := J.res.lt
   have hne : ¬ w.heap.size = xb := by have := J.ord; omega
   have FIN := hide (J.fin (v := .iface 186 (.agg #[.int .i64 r, .int .i64 c, .int .i64 r', .int .i64 c'])) rfl ((unhide R2).toE rfl rfl))
   clear J
   go_wp2_with fail
   obtain ⟨d0, d1, q⟩ := unhide FIN
   refine bodyPost_ret (by simp [results, Try.results108, go_sem, d0, d1]; try rfl) rfl ?_
   exact ⟨f, _, rfl, q⟩
 by_cases k5 : k = 5
 ·subst k5
  obtain rfl := (unhide HT) (by omega)
  have A2 := hide ((unhide A1).cont (c' := fun r => bindP (shapeP r) fun p r => some ((eRefit f p.1 p.2.1 p.2.2, now), r)) (by show entP now x l1 = _; unfold entP; rw [unhide HK, unhide HF]; rw [if_neg (by decide)]; rw [if_neg (by decide)]; rw [if_neg (by decide)]; rw [if_neg (by decide)]; rw [if_pos rfl]; try rfl))
  clear A1
  go_wp2_with fail
  refine (rshape_any (unhide A2).rd).mono ?_
  rintro e w2 ⟨r, c, g, rfl, fp, hp⟩
  obtain ⟨l2, t2, a2, -⟩ := (unhide A2).next hp.2
  have R2 := hide a2.fin
  have IW := hide ((unhide I1).step hp.1)
  clear hp a2 A2 fp I1
  have J := unhide IW
  have x0 : w2.cell? ⟨xb, 0, none⟩ = some (.int .i64 f) := J.box.cell 0
  have x1 : w2.cell? ⟨xb, 1, none⟩ = some .nilIface := J.box.cell 1
  have xf := J.box.frozen
  have xl := J.box.lt
  have z0 : w2.cell? ⟨w.heap.size, 0, none⟩ = some (.int .i64 0) := J.res.cell 0
  have z1 : w2.cell? ⟨w.heap.size, 1, none⟩ = some .nilIface := J.res.cell 1
  have zf := J.res.frozen
  have zl := J.res.lt
  have hne : ¬ w.heap.size = xb := by have := J.ord; omega
  have FIN := hide (J.fin (v := .iface 182 (.agg #[.int .i64 r, .int .i64 c, .int .i64 g])) rfl ((unhide R2).toE rfl rfl))
  clear J
  go_wp2_with fail
  obtain ⟨d0, d1, q⟩ := unhide FIN
  refine bodyPost_ret (by simp [results, Try.results108, go_sem, d0, d1]; try rfl) rfl ?_
  exact ⟨f, _, rfl, q⟩
 by_cases k6 : k = 6
 ·subst k6
  obtain rfl := (unhide HT) (by omega)
  have A2 := hide ((unhide A1).cont (c' := fun r => bindP (numP r 0 0) fun n r => some ((ePass f (wrap64 (now + n)), wrap64 (now + n)), r)) (by show entP now x l1 = _; unfold entP; rw [unhide HK, unhide HF]; rw [if_neg (by decide)]; rw [if_neg (by decide)]; rw [if_neg (by decide)]; rw [if_neg (by decide)]; rw [if_neg (by decide)]; rw [if_pos rfl]; try rfl))
  clear A1
  have HX := hide (fun (W : World) (hW : Mod No wA W) => pass_num (unhide A2) (unhide I1) W hW)
  have rn : wA.cell? ⟨rb, 1, none⟩ = some (.int .i64 now) := (unhide A2).rd.now_cell
  have rf := (unhide A2).rd.box_lt
  clear A2
  go_upto_region 18 with fail
  go_cut [] from 66 to 74 (fun wx => Hid (∃ n, PassI w wx rb gb xb f now n T))
  case first =>
   go_region_with (go_at_call 107; refine ((unhide HX) _ ?_).mono ?_; (first | exact Mod.refl _ _ | exact (Mod.refl _ _).drew | exact (Mod.refl _ _).drewN _ | exact ((Mod.refl _ _).drewN _).drew); rintro e w6 ⟨u, rfl, hn6, ⟨h61, h62⟩, hF6⟩)
   all_goals (go_wp2_with fail; go_meet; exact ⟨u, (unhide hF6) _ (by rw [IntKind.wrap_i64]; unfold wrap64; rfl)⟩)
  case rest =>
   obtain ⟨n, hP⟩ := unhide hcut
   have IW := hide hP.et
   have R2 := hide hP.ent
   have rn2 : wc.cell? ⟨rb, 1, none⟩ = some (.int .i64 (wrap64 (now + n))) := hP.now
   have rl2 := hP.lt
   clear hcut hP I1 rn rf
   have J := unhide IW
   have x0 : wc.cell? ⟨xb, 0, none⟩ = some (.int .i64 f) := J.box.cell 0
   have x1 : wc.cell? ⟨xb, 1, none⟩ = some .nilIface := J.box.cell 1
   have xf := J.box.frozen
   have xl := J.box.lt
   have z0 : wc.cell? ⟨w.heap.size, 0, none⟩ = some (.int .i64 0) := J.res.cell 0
   have z1 : wc.cell? ⟨w.heap.size, 1, none⟩ = some .nilIface := J.res.cell 1
   have zf := J.res.frozen
   have zl := J.res.lt
   have hne : ¬ w.heap.size = xb := by have := J.ord; omega
   have FIN := hide (J.fin (v := .iface 144 (.agg #[.int .i64 (wrap64 (now + n))])) rfl (unhide R2))
   clear J
   go_wp2_with fail
   obtain ⟨d0, d1, q⟩ := unhide FIN
   refine bodyPost_ret (by simp [results, Try.results108, go_sem, d0, d1]; try rfl) rfl ?_
   exact ⟨f, _, rfl, q⟩
 by_cases k7 : k = 7
 ·subst k7
  obtain rfl := (unhide HT) (by omega)
  have A2 := hide ((unhide A1).cont (c' := fun r => bindP (wholeP now r) fun x r => some ((eWhole f x.1 x.2, now), r)) (by show entP now x l1 = _; unfold entP; rw [unhide HK, unhide HF]; rw [if_neg (by decide)]; rw [if_neg (by decide)]; rw [if_neg (by decide)]; rw [if_neg (by decide)]; rw [if_neg (by decide)]; rw [if_neg (by decide)]; rw [if_pos rfl]; try rfl))
  clear A1
  go_wp2_with fail
  refine (rwhole_any (unhide A2).rd).mono ?_
  rintro e w2 ⟨p, ss, v, rfl, ho, hv, hm, hr⟩
  obtain ⟨l2, t2, a2, -⟩ := (unhide A2).next hr
  have R2 := hide a2.fin
  have IW := hide ((unhide I1).step hm)
  obtain ⟨a, c, rfl⟩ := slice_of_owns ho
  have EV := hide (show EntV w2 (xb + 1) (.iface 177 (.agg (wholeL p (.slice a ss.length c)).toArray)) (eWhole f p ss) from ⟨a, c, rfl, ho, fun j hj => Nat.le_trans hwx (hv j hj)⟩)
  clear hr a2 A2 ho hv hm I1
  unfold wholeL planeL at *
  have J := unhide IW
  have x0 : w2.cell? ⟨xb, 0, none⟩ = some (.int .i64 f) := J.box.cell 0
  have x1 : w2.cell? ⟨xb, 1, none⟩ = some .nilIface := J.box.cell 1
  have xf := J.box.frozen
  have xl := J.box.lt
  have z0 : w2.cell? ⟨w.heap.size, 0, none⟩ = some (.int .i64 0) := J.res.cell 0
  have z1 : w2.cell? ⟨w.heap.size, 1, none⟩ = some .nilIface := J.res.cell 1
  have zf := J.res.frozen
  have zl := J.res.lt
  have hne : ¬ w.heap.size = xb := by have := J.ord; omega
  have FIN := hide (J.fin (v := .iface 177 (.agg #[.int .i64 p.rows, .int .i64 p.cols, .int .i64 p.front, .int .i64 p.l0, .int .i64 p.l1, .int .i64 p.l2, .int .i64 p.l3, .slice a ss.length c, .int .i64 p.ep])) rfl ((unhide R2).toE rfl (unhide EV)))
  clear J
  go_wp2_with fail
  obtain ⟨d0, d1, q⟩ := unhide FIN
  refine bodyPost_ret (by simp [results, Try.results108, go_sem, d0, d1]; try rfl) rfl ?_
  exact ⟨f, _, rfl, q⟩
 have k0 : k = 0 := by omega
 subst k0
 have HN := hide (show T = none from by
  cases t1 with
  | true => exact (unhide A1).no rfl
  | false =>
   rw [(unhide A1).yes rfl]
   show entP now x l1 = none
   unfold entP
   rw [unhide HK]
   rfl)
 have rn : wA.cell? ⟨rb, 2, none⟩ = some (.bool t1) := (unhide A1).rd.torn_cell
 have rf := (unhide A1).rd.box_lt
 have TR := hide (unhide A1).rd.tear
 have J := (unhide I1).step (unhide TR).2
 have z0 : wA.cell? ⟨w.heap.size, 0, none⟩ = some (.int .i64 0) := (unhide I1).res.cell 0
 have z1 : wA.cell? ⟨w.heap.size, 1, none⟩ = some .nilIface := (unhide I1).res.cell 1
 have zf := (unhide I1).res.frozen
 have zl := (unhide I1).res.lt
 have x0 : wA.cell? ⟨xb, 0, none⟩ = some (.int .i64 f) := (unhide I1).box.cell 0
 have x1 : wA.cell? ⟨xb, 1, none⟩ = some .nilIface := (unhide I1).box.cell 1
 have xf := (unhide I1).box.frozen
 have xl := (unhide I1).box.lt
 have hne1 : ¬ w.heap.size = rb := by have := J.ord; omega
 have hne2 : ¬ xb = rb := by have := J.ord; omega
 have FIN := hide (J.fin0 (T := T) (by rw [unhide HN]; exact ⟨l1, now, (unhide TR).1⟩))
 clear J A1 I1 TR
 go_wp2_with fail
 obtain ⟨d0, d1, q⟩ := unhide FIN
 refine bodyPost_ret (by simp [results, Try.results108, go_sem, d0, d1]; try rfl) rfl ?_
 exact ⟨f, _, rfl, q⟩
end Go.Proofs.Ythhibagcpjeihaa
