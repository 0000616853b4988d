import Derived.Test.YthhibagcpjeihaaLBaseToAppend
import Derived.Deep.RegionLawGrows
import Derived.Deep.MidRow
import Derived.Laws.BitsLemmas
namespace Go.Proofs.Ythhibagcpjeihaa
open Go.RowKit
set_option linter.unusedVariables false
set_option linter.unusedSimpArgs false
theorem put_fuse (t : TTape) (f : TFile) (x : Int) (i : Nat) : ({ t.put f i with fuse := x } : TTape) = ({ t with fuse := x } : TTape).put f i := by
 unfold TTape.put
 split <;> rfl
theorem get_fuse (t : TTape) (x : Int) (i : Nat) : ({ t with fuse := x } : TTape).get i = t.get i := by
 unfold TTape.get
 split <;> rfl
theorem TTape.ok.last {S : Nat → Prop} {w : World} {b : Nat} {t : TTape} (h : t.ok S w b) (i : Nat) (hi : i < 4) (n : Nat) (hn : n ≤ (t.get i).xs.length) :
  (t.put ⟨(t.get i).v, (t.get i).xs, n⟩ i).ok S (w.setCell ⟨b, i * 2 + 1, none⟩ (.int .i64 n)) b := by
 have hg := h.get i hi
 refine h.put i hi _ (Mod.setCell (Mod.refl _ w) (p := ⟨b, i * 2 + 1, none⟩) (.inl (.inl rfl)) _) ?_ ?_ (fun _ x => x) (fun k hk => .inl hk)
 ·have := h.has.set (i * 2 + 1) (.int .i64 n)
  rwa [cells_put_l t (t.get i).xs n i hi] at this
 ·exact ⟨owns_setCell_ne hg.owns (by simpa using hg.ne h.has) _, hn, hg.len, hg.bytes, hg.inn⟩
theorem sync_core (b : Nat) (t : TTape) (i : Nat) (hi : i < 4) (S : Nat → Prop) (w : World) (h : t.ok S w b)
  (hf : -9223372036854775808 ≤ t.fuse ∧ t.fuse ≤ 9223372036854775807) (h0 : t.fuse ≠ 0) :
  Calls Try.prog 35 #[.pointer (some ⟨b, 0, none⟩), .int .i64 i] w fun e w' => e = .returned (.bool true) ∧
   ({ t.put ⟨(t.get i).v, (t.get i).xs, (t.get i).xs.length⟩ i with fuse := burnt t.fuse } : TTape).ok S w' b ∧ Mod (· = b) w w' := by
 have hburn := fun W (hW : t.ok S W b) => burn_any b t W hW hf
 simp only [ne_eq, h0, not_false_eq_true, decide_true] at hburn
 have H := hide h
 have HB := hide hburn
 clear hburn h
 have hi' : (i : Int) < 4 := by omega
 go_enter Try.func35, Try.ntmps35
 go_wp2_with fail
 refine ((unhide HB) _ (unhide H)).mono ?_
 rintro e w1 ⟨rfl, h1, m1⟩
 have hc := h1.has.cell (i * 2)
 have hc' := h1.has.cell (i * 2 + 1)
 have hz := h1.has.frozen
 rw [(cells_v _ i hi).1] at hc
 rw [(cells_v _ i hi).2] at hc'
 obtain ⟨a0, c0, e0, m0⟩ := slice_form (h1.get i hi)
 rw [e0] at hc
 have H1 := hide h1
 have M1 := hide m1
 have E0 := hide e0
 clear h1 m1 e0
 generalize hn : ((({ t with fuse := burnt t.fuse } : TTape).get i).xs.length) = n at *
 have HN := hide hn
 clear hn
 go_wp2_with fail
 go_region
 all_goals
  go_wp2
  go_ret
  refine ⟨rfl, ?_, Mod.trans (unhide M1) (Mod.setCell (S := fun k => k = b) (Mod.refl _ w1) (p := ⟨b, i * 2 + 1, none⟩) (.inl rfl) _).drew⟩
  rw [put_fuse]
  have hl := TTape.ok.last (unhide H1) i hi n (by rw [unhide HN]; exact Nat.le_refl _)
  have hn := unhide HN
  rw [get_fuse] at hn hl
  rw [hn]
  exact hl.mod0 (Mod.refl No _).drew
theorem sync_dead (b : Nat) (t : TTape) (i : Nat) (hi : i < 4) (S : Nat → Prop) (w : World) (h : t.ok S w b) (h0 : t.fuse = 0) :
  Calls Try.prog 35 #[.pointer (some ⟨b, 0, none⟩), .int .i64 i] w fun e w' => e = .returned (.bool false) ∧ t.ok S w' b ∧ Mod (· = b) w w' := by
 have hburn := fun W (hW : t.ok S W b) => burn_any b t W hW (by omega)
 simp only [ne_eq, h0, not_true_eq_false, decide_false] at hburn
 have H := hide h
 have HB := hide hburn
 have h0' := hide h0
 clear hburn h h0
 have hi' : (i : Int) < 4 := by omega
 go_enter Try.func35, Try.ntmps35
 go_wp2_with fail
 refine ((unhide HB) _ (unhide H)).mono ?_
 rintro e w1 ⟨rfl, h1, m1⟩
 have H1 := hide h1
 have M1 := hide m1
 clear h1 m1
 go_wp2
 go_ret
 have h2 := unhide H1
 rw [show burnt 0 = 0 from rfl] at h2
 refine ⟨rfl, ?_, unhide M1⟩
 have e : ({ t with fuse := 0 } : TTape) = t := by cases t; simp only at h0'; rw [unhide h0']
 rw [e] at h2
 exact h2
theorem info5 : (Try.prog.info? 5).map (fun i => (i.zero, i.size, i.bytes)) = some (some (.int .u8 0), 1, 1) := by kernel_rfl
theorem TTape.ok.row {S : Nat → Prop} {w w1 : World} {b : Nat} {t : TTape} (h : t.ok S w b) (i : Nat) (hi : i < 4) (v' : Value) (xs' : List Value)
  (hg : w.grownBy w1 (t.get i).v.ownBlock) (ho : w1.ownsRow 0 5 1 v' xs'.length xs') (hst : Stays w (t.get i).v v')
  (hl : (t.get i).last ≤ xs'.length) (hlen : xs'.length ≤ 17592186044416) (hb : ∀ x ∈ xs', ∃ n : Int, x = .int .u8 n ∧ 0 ≤ n ∧ n < 256) :
  (t.put ⟨v', xs', (t.get i).last⟩ i).ok (fun k => S k ∨ w.heap.size ≤ k) (w1.setCell ⟨b, i * 2, none⟩ v') b ∧ Mod S w (w1.setCell ⟨b, i * 2, none⟩ v') := by
 have hgi := h.get i hi
 have hm1 : Mod (Touch b (t.get i)) w w1 := (Mod.refl _ w).grown hg (fun k hk => .inl (.inr hk))
 have hm : Mod (Touch b (t.get i)) w (w1.setCell ⟨b, i * 2, none⟩ v') := hm1.setCell (p := ⟨b, i * 2, none⟩) (.inl (.inl rfl)) _
 have hh1 : Has w1 b t.cells 103 := by
  unfold Has
  rw [hg.block b h.has.lt (fun e => hgi.ne h.has e.symm)]
  exact h.has
 have hne : v'.ownBlock ≠ some b := fun e => by
  rcases hst b e with h1 | h1
  ·exact hgi.ne h.has h1
  ·have := h.has.lt; omega
 refine ⟨h.put i hi _ hm ?_ ?_ (fun k hk => .inl hk) hst, hm.mono (fun k hk hT => ?_)⟩
 ·have := hh1.set (i * 2) v'
  rwa [cells_put_v t v' xs' i hi] at this
 ·refine ⟨owns_setCell_ne ho (by simpa using hne) _, hl, hlen, hb, fun k hk => ?_⟩
  rcases hst k hk with h1 | h1
  ·exact .inl (hgi.inn k h1)
  ·exact .inr h1
 ·rcases hT with rfl | hT
  ·exact h.inn
  ·exact hgi.inn k hT
theorem append_no (b : Nat) (t : TTape) (i : Nat) (hi : i < 4) (S : Nat → Prop) (w : World) (h : t.ok S w b) (xa : Option Addr) (m c : Nat) (hm : m ≤ 17592186044416) (hno : t.room < t.used + m) :
  Calls Try.prog 38 #[.pointer (some ⟨b, 0, none⟩), .int .i64 i, .slice xa m c] w fun e w' => e = .returned (.bool false) ∧ Mod No w w' := by
 have hfits := fits_any b t m w h (by omega) (by omega)
 have hd : decide ((t.used : Int) + m ≤ t.room) = false := by simp; omega
 rw [hd] at hfits
 have HF := hide hfits
 clear hfits h hd hno
 have hi' : (i : Int) < 4 := by omega
 go_enter Try.func38, Try.ntmps38
 go_wp2_with fail
 refine (unhide HF).mono ?_
 rintro e w1 ⟨rfl, m1⟩
 have M1 := hide m1
 clear m1
 go_wp2
 go_ret
 exact ⟨rfl, unhide M1⟩
set_option maxRecDepth 100000 in
theorem append_yes (b : Nat) (t : TTape) (i : Nat) (hi : i < 4) (S : Nat → Prop) (w : World) (h : t.ok S w b) (xa : Option Addr) (m c : Nat) (news : List Value)
  (hx : Reads w (.slice xa m c) m news) (hxb : (Value.slice xa m c).ownBlock ≠ some b) (hn : news.length = m) (hu : ∀ x ∈ news, ∃ n : Int, x = .int .u8 n ∧ 0 ≤ n ∧ n < 256)
  (hm : (t.get i).xs.length + m ≤ 17592186044416) (hroom : t.used + m ≤ t.room)
  (hf : -9223372036854775808 ≤ t.fuse ∧ t.fuse ≤ 9223372036854775807) (h0 : t.fuse ≠ 0) :
  Calls Try.prog 38 #[.pointer (some ⟨b, 0, none⟩), .int .i64 i, .slice xa m c] w fun e w' => e = .returned (.bool true) ∧
   (∃ v', ({ t.put ⟨v', (t.get i).xs ++ news, (t.get i).last⟩ i with fuse := burnt t.fuse } : TTape).ok (fun k => S k ∨ w.heap.size ≤ k) w' b) ∧ Mod S w w' := by
 have hfits := fits_any b t m w h (by omega) (by omega)
 have hd : decide ((t.used : Int) + m ≤ t.room) = true := by simp; omega
 rw [hd] at hfits
 have HF := hide hfits
 have hburn := fun W (hW : t.ok S W b) => burn_any b t W hW hf
 simp only [ne_eq, h0, not_false_eq_true, decide_true] at hburn
 have H := hide h
 have HB := hide hburn
 have HX := hide hx
 have HXB := hide hxb
 have HN := hide hn
 have HU := hide hu
 clear hfits h hd hburn hx hxb hn hu
 have hi' : (i : Int) < 4 := by omega
 obtain ⟨i5, q0, q1, q2, q3⟩ := info_parts info5
 go_enter Try.func38, Try.ntmps38
 go_wp2_with fail
 refine (unhide HF).mono ?_
 rintro e w1 ⟨rfl, m1⟩
 have H1 := hide ((unhide H).mod0 m1)
 have HX1 := hide ((unhide HX).mod m1 (fun _ _ x => x))
 have M1 := hide m1
 clear m1
 go_wp2_with fail
 refine ((unhide HB) _ (unhide H1)).mono ?_
 rintro e w2 ⟨rfl, h2, m2⟩
 have hx2 := (unhide HX1).mod m2 (fun k hk e => (unhide HXB) (by rw [hk, e]))
 have M2 := hide m2
 have hc := h2.has.cell (i * 2)
 have hz := h2.has.frozen
 rw [(cells_v _ i hi).1] at hc
 have hh2 := h2.has
 have g2 := h2.get i hi
 rw [get_fuse] at hc g2
 have hown := g2.owns
 have hne := g2.ne hh2
 have H2 := hide h2
 have G2 := hide g2
 have HX2 := hide hx2
 have HH2 := hide hh2
 have HO := hide hown
 have HNE := hide hne
 clear h2 m2 hx2 hh2 g2 hown hne
 have hone : ∀ u ∈ news, u.oneCell' = true := fun u hu => by obtain ⟨n, rfl, _⟩ := (unhide HU) u hu; rfl
 have HONE := hide hone
 clear hone
 go_wp2_with fail
 go_region_law (refine step_append_row rfl (.tmp 33) (.tmp 34) 96 rfl 5 i5 (.int .u8 0) 1 1 Try.underlying96 q0 q1 q2 q3 rfl (by decide) (t.get i).v (t.get i).xs.length (t.get i).xs (by simp [Act.eval, Act.put]) (by exact unhide HO) (.slice xa m c) m news (by simp [Act.eval, Act.put]) (by exact unhide HX2) (by rw [unhide HN]; omega) (unhide HONE) (by unfold maxLen; omega) (by omega) ?_; intro v' w3 ho3 hg3 hs3; obtain ⟨a3, c3, rfl⟩ := slice_of_owns ho3; have hk3 : Has w3 b _ 103 := (by unfold Has; rw [hg3.block b (unhide HH2).lt (fun e => (unhide HNE) e.symm)]; exact unhide HH2); have hc3 := hk3.cell (i * 2); have hz3 := hk3.frozen; rw [(cells_v _ i hi).1] at hc3)
 all_goals
  go_wp2
  go_ret
 have hlen : (t.get i).xs.length + m = ((t.get i).xs ++ news).length := by rw [List.length_append, unhide HN]
 have hin := unhide H
 have hgi := hin.get i hi
 have key := @TTape.ok.row S w2.drew w3 b { t with fuse := burnt t.fuse } ((unhide H2).mod0 (Mod.refl No _).drew) i hi _ ((t.get i).xs ++ news) (by rw [get_fuse]; exact hg3)
  (by rw [← hlen]; exact ho3) (by rw [get_fuse]; exact hs3) (by rw [get_fuse]; have := hgi.last; rw [List.length_append]; omega) (by rw [← hlen]; exact hm)
  (fun x hx => by
   rcases List.mem_append.1 hx with h | h
   ·exact hgi.bytes x h
   ·exact (unhide HU) x h)
 simp only [get_fuse] at key
 have s1 := (unhide M1).size
 have s2 := (unhide M2).size
 have mm1 : Mod S w w1 := (unhide M1).mono (fun _ _ x => x.elim)
 have mm2 : Mod S w1 w2 := (unhide M2).mono (fun k _ e => by rw [e]; exact hin.inn)
 refine ⟨rfl, ⟨.slice a3 ((t.get i).xs.length + m) c3, ?_⟩, (mm1.trans mm2).drew.trans key.2⟩
 rw [put_fuse]
 refine key.1.wide (fun k hk => ?_)
 rcases hk with hk | hk
 ·exact .inl hk
 ·refine .inr (Nat.le_trans (Nat.le_trans s1 s2) ?_)
  simpa using hk
theorem append_dead (b : Nat) (t : TTape) (i : Nat) (hi : i < 4) (S : Nat → Prop) (w : World) (h : t.ok S w b) (xa : Option Addr) (m c : Nat) (hm : m ≤ 17592186044416) (hroom : t.used + m ≤ t.room) (h0 : t.fuse = 0) :
  Calls Try.prog 38 #[.pointer (some ⟨b, 0, none⟩), .int .i64 i, .slice xa m c] w fun e w' => e = .returned (.bool false) ∧ t.ok S w' b ∧ Mod S w w' := by
 have hfits := fits_any b t m w h (by omega) (by omega)
 have hd : decide ((t.used : Int) + m ≤ t.room) = true := by simp; omega
 rw [hd] at hfits
 have HF := hide hfits
 have hburn := fun W (hW : t.ok S W b) => burn_any b t W hW (by omega)
 simp only [ne_eq, h0, not_true_eq_false, decide_false] at hburn
 have H := hide h
 have HB := hide hburn
 have h0' := hide h0
 clear hfits h hd hburn h0
 have hi' : (i : Int) < 4 := by omega
 go_enter Try.func38, Try.ntmps38
 go_wp2_with fail
 refine (unhide HF).mono ?_
 rintro e w1 ⟨rfl, m1⟩
 have H1 := hide ((unhide H).mod0 m1)
 have M1 := hide m1
 clear m1
 go_wp2_with fail
 refine ((unhide HB) _ (unhide H1)).mono ?_
 rintro e w2 ⟨rfl, h2, m2⟩
 have H2 := hide h2
 have M2 := hide m2
 clear h2 m2
 go_wp2
 go_ret
 have h2 := unhide H2
 rw [show burnt 0 = 0 from rfl] at h2
 have e : ({ t with fuse := 0 } : TTape) = t := by cases t; simp only at h0'; rw [unhide h0']
 rw [e] at h2
 exact ⟨rfl, h2, ((unhide M1).mono (fun _ _ x => x.elim)).trans ((unhide M2).mono (fun k _ e => by rw [e]; exact (unhide H).inn))⟩
theorem TTape.ok.narrow {S : Nat → Prop} {w : World} {b : Nat} {t : TTape} (h : t.ok S w b) : t.ok (fun k => S k ∧ k < w.heap.size) w b := by
 have f : ∀ g : TFile, g.ok S w → g.ok (fun k => S k ∧ k < w.heap.size) w := fun g hg => ⟨hg.owns, hg.last, hg.len, hg.bytes, fun k hk => ⟨hg.inn k hk, (hg.owns.lt k hk).2⟩⟩
 exact ⟨h.has, ⟨h.inn, h.has.lt⟩, f _ h.k0, f _ h.k1, f _ h.k2, f _ h.k3, h.a01, h.a02, h.a03, h.a12, h.a13, h.a23⟩
set_option maxRecDepth 100000
theorem clear_yes (b : Nat) (t : TTape) (i : Nat) (hi : i < 4) (S : Nat → Prop) (w : World) (h : t.ok S w b)
  (hf : -9223372036854775808 ≤ t.fuse ∧ t.fuse ≤ 9223372036854775807) (h0 : t.fuse ≠ 0) :
  Calls Try.prog 41 #[.pointer (some ⟨b, 0, none⟩), .int .i64 i] w fun e w' => e = .returned (.bool true) ∧
   ({ t.put ⟨.slice none 0 0, [], 0⟩ i with fuse := burnt t.fuse } : TTape).ok S w' b ∧ Mod (· = b) w w' := by
 have hburn := fun W (hW : t.ok S W b) => burn_any b t W hW hf
 simp only [ne_eq, h0, not_false_eq_true, decide_true] at hburn
 have H := hide h
 have HB := hide hburn
 clear hburn h
 have hi' : (i : Int) < 4 := by omega
 go_enter Try.func41, Try.ntmps41
 go_wp2_with fail
 refine ((unhide HB) _ (unhide H)).mono ?_
 rintro e w1 ⟨rfl, h1, m1⟩
 have hc := h1.has.cell (i * 2)
 have hc' := h1.has.cell (i * 2 + 1)
 have hz := h1.has.frozen
 rw [(cells_v _ i hi).1] at hc
 rw [(cells_v _ i hi).2] at hc'
 have H1 := hide h1
 have M1 := hide m1
 clear h1 m1
 go_wp2
 go_ret
 have h1 := unhide H1
 refine ⟨rfl, ?_, ((unhide M1).setCell (p := ⟨b, i * 2, none⟩) (.inl rfl) _).setCell (p := ⟨b, i * 2 + 1, none⟩) (.inl rfl) _⟩
 rw [put_fuse]
 refine h1.put i hi _ (((Mod.refl _ w1).setCell (p := ⟨b, i * 2, none⟩) (.inl (.inl rfl)) _).setCell (p := ⟨b, i * 2 + 1, none⟩) (.inl (.inl rfl)) _) ?_ ?_ (fun _ x => x) (fun k hk => by simp [Value.ownBlock] at hk)
 ·have := (h1.has.set (i * 2) (.slice none 0 0)).set (i * 2 + 1) (.int .i64 0)
  rwa [show (Value.int .i64 0) = Value.int .i64 ((0 : Nat) : Int) from rfl, cells_put _ (.slice none 0 0) [] 0 i hi] at this
 ·exact ⟨World.ownsRow_nil _ _ _ _, by simp, by simp, fun x hx => by simp at hx, fun k hk => by simp [Value.ownBlock] at hk⟩
theorem read_any (b : Nat) (t : TTape) (i : Nat) (hi : i < 4) (S : Nat → Prop) (w : World) (h : t.ok S w b) :
  Calls Try.prog 40 #[.pointer (some ⟨b, 0, none⟩), .int .i64 i] w fun e w' => ∃ v, e = .returned v ∧ w'.ownsRow 0 5 1 v (t.get i).xs.length (t.get i).xs ∧ Stays w (.slice none 0 0) v ∧ Mod No w w' := by
 have hi' : (i : Int) < 4 := by omega
 have hc := h.has.cell (i * 2)
 rw [(cells_v _ i hi).1] at hc
 have hg := h.get i hi
 have hr := reads_of_owns hg.owns
 have HR := hide hr
 have hone : ∀ u ∈ (t.get i).xs, u.oneCell' = true := fun u hu => by obtain ⟨n, rfl, _⟩ := hg.bytes u hu; rfl
 have HONE := hide hone
 have hlen := hg.len
 clear hone hr hg h
 obtain ⟨i5, q0, q1, q2, q3⟩ := info_parts info5
 go_enter Try.func40, Try.ntmps40
 go_wp2_with (first | (at_builtin; refine wpList_append_row rfl (.const (.slice none 0 0)) (.tmp 17) 96 rfl 5 i5 (.int .u8 0) 1 1 Try.underlying96 q0 q1 q2 q3 rfl (by decide) (.slice none 0 0) 0 [] (by simp [Act.eval]) (by exact World.ownsRow_nil _ _ _ _) (t.get i).v (t.get i).xs.length (t.get i).xs (by simp [Act.eval]) (by exact unhide HR) (by omega) (unhide HONE) (by unfold maxLen; omega) (by omega) ?_; intro v' w3 ho3 hg3 hs3; obtain ⟨a3, c3, rfl⟩ := slice_of_owns ho3))
 go_ret
 rw [Nat.zero_add, List.nil_append] at ho3
 simp only [Nat.zero_add] at hs3
 exact ⟨_, rfl, ho3, hs3, (Mod.refl _ _).grown hg3 (by simp [Value.ownBlock])⟩
theorem idx84 (t : TTape) (i : Nat) (hi : (i : Int) < 4) (w : World) :
  (Instr.index 101 (.agg #[t.f0.v, .int .i64 t.f0.last, t.f1.v, .int .i64 t.f1.last, t.f2.v, .int .i64 t.f2.last, t.f3.v, .int .i64 t.f3.last]) (.int .i64 i)).run Try.prog w =
   .ok (.agg #[(t.get i).v, .int .i64 (t.get i).last]) w := by
 have hi' : i < 4 := by omega
 match i, hi' with
 | 0, _ => exact idx84_0 _ _ _ _ _ _ _ _ _
 | 1, _ => exact idx84_1 _ _ _ _ _ _ _ _ _
 | 2, _ => exact idx84_2 _ _ _ _ _ _ _ _ _
 | 3, _ => exact idx84_3 _ _ _ _ _ _ _ _ _
attribute [local go_sem] idx84
theorem TFile.ok.mod0 {S : Nat → Prop} {w w' : World} {f : TFile} (h : f.ok S w) (hm : Mod No w w') : f.ok S w' := h.mod hm (fun _ _ x => x)
theorem get_put (t : TTape) (f : TFile) (i j : Nat) (hi : i < 4) (hj : j < 4) : (t.put f i).get j = if j = i then f else t.get j := by
 match i, hi with
 | 0, _ => match j, hj with | 0, _ => rfl | 1, _ => rfl | 2, _ => rfl | 3, _ => rfl
 | 1, _ => match j, hj with | 0, _ => rfl | 1, _ => rfl | 2, _ => rfl | 3, _ => rfl
 | 2, _ => match j, hj with | 0, _ => rfl | 1, _ => rfl | 2, _ => rfl | 3, _ => rfl
 | 3, _ => match j, hj with | 0, _ => rfl | 1, _ => rfl | 2, _ => rfl | 3, _ => rfl
theorem put_room (t : TTape) (f : TFile) (i : Nat) : (t.put f i).room = t.room ∧ (t.put f i).fuse = t.fuse := by
 unfold TTape.put
 split <;> exact ⟨rfl, rfl⟩
theorem copy_step {w wr w3 : World} {o : Obj} {g k : Nat} {t t' : TTape} {a3 : Option Addr} {c3 : Nat}
  (hs3 : Stays (wr.alloc o).drew (.slice none 0 0) (.slice a3 (0 + (t.get k).xs.length) c3)) (hg3 : (wr.alloc o).drew.grownBy w3 (Value.slice none 0 0).ownBlock)
  (ho3 : w3.ownsRow 0 5 1 (.slice a3 (0 + (t.get k).xs.length) c3) (0 + (t.get k).xs.length) ([] ++ (t.get k).xs))
  (hok : t'.ok (fun k => g ≤ k) wr g) (hm : Mod No w wr) (hg : w.heap.size = g) (hgl : g < wr.heap.size) (hk : k < 4)
  (hA : ∀ i, i < k → (t'.get i).xs = (t.get i).xs ∧ (t'.get i).last = (t.get i).last) (hB : ∀ i, k ≤ i → i < 4 → t'.get i = ⟨.slice none 0 0, [], 0⟩) (hr : t'.room = t.room) (hf : t'.fuse = t.fuse)
  (hl : (t.get k).last ≤ (t.get k).xs.length) (hlen : (t.get k).xs.length ≤ 17592186044416) (hb : ∀ x ∈ (t.get k).xs, ∃ n : Int, x = .int .u8 n ∧ 0 ≤ n ∧ n < 256) :
  ∃ t2 : TTape, t2.ok (fun k => g ≤ k) ((w3.setCell ⟨g, k * 2, none⟩ (.slice a3 (t.get k).xs.length c3)).setCell ⟨g, k * 2 + 1, none⟩ (.int .i64 (t.get k).last)) g ∧
   Mod No w ((w3.setCell ⟨g, k * 2, none⟩ (.slice a3 (t.get k).xs.length c3)).setCell ⟨g, k * 2 + 1, none⟩ (.int .i64 (t.get k).last)) ∧
   g < ((w3.setCell ⟨g, k * 2, none⟩ (.slice a3 (t.get k).xs.length c3)).setCell ⟨g, k * 2 + 1, none⟩ (.int .i64 (t.get k).last)).heap.size ∧
   (∀ i, i < k + 1 → (t2.get i).xs = (t.get i).xs ∧ (t2.get i).last = (t.get i).last) ∧ (∀ i, k + 1 ≤ i → i < 4 → t2.get i = ⟨.slice none 0 0, [], 0⟩) ∧ t2.room = t.room ∧ t2.fuse = t.fuse := by
 rw [Nat.zero_add, List.nil_append] at ho3
 simp only [Nat.zero_add] at hs3
 have hm3 : Mod No wr w3 := ((Mod.refl No wr).alloc o).drew.grown hg3 (by simp [Value.ownBlock])
 have hok3 := hok.mod0 hm3
 have hne : ∀ x, (Value.slice a3 (t.get k).xs.length c3).ownBlock = some x → g < x := fun x hx => by
  rcases hs3 x hx with h | h
  ·simp [Value.ownBlock] at h
  ·simp at h; omega
 refine ⟨t'.put ⟨.slice a3 (t.get k).xs.length c3, (t.get k).xs, (t.get k).last⟩ k, ?_, ?_, ?_, fun i hi => ?_, fun i hi hi4 => ?_, ?_, ?_⟩
 ·refine hok.put k hk _ ((hm3.mono (fun _ _ x => x.elim)).setCell (p := ⟨g, k * 2, none⟩) (.inl (.inl rfl)) _ |>.setCell (p := ⟨g, k * 2 + 1, none⟩) (.inl (.inl rfl)) _) ?_ ?_ (fun _ x => x) ?_
  ·have := (hok3.has.set (k * 2) (.slice a3 (t.get k).xs.length c3)).set (k * 2 + 1) (.int .i64 (t.get k).last)
   rwa [cells_put _ _ (t.get k).xs _ k hk] at this
  ·refine ⟨owns_setCell_ne (owns_setCell_ne ho3 ?_ _) ?_ _, hl, hlen, hb, fun x hx => Nat.le_of_lt (hne x hx)⟩
   ·intro e; exact Nat.lt_irrefl _ (hne g e)
   ·intro e; exact Nat.lt_irrefl _ (hne g e)
  ·intro x hx
   rcases hs3 x hx with h | h
   ·simp [Value.ownBlock] at h
   ·simp at h; exact .inr (by omega)
 ·exact ((hm.trans hm3).setCell (p := ⟨g, k * 2, none⟩) (.inr (by simp; omega)) _).setCell (p := ⟨g, k * 2 + 1, none⟩) (.inr (by simp; omega)) _
 ·have := hm3.size
  simp
  omega
 ·rw [get_put _ _ _ _ hk (by omega)]
  split
  ·rename_i e; subst e; exact ⟨rfl, rfl⟩
  ·exact hA i (by omega)
 ·rw [get_put _ _ _ _ hk hi4, if_neg (by omega)]
  exact hB i (by omega) hi4
 ·rw [(put_room _ _ _).1, hr]
 ·rw [(put_room _ _ _).2, hf]
theorem copy_any (b : Nat) (t : TTape) (S : Nat → Prop) (w : World) (h : t.ok S w b) :
  Calls Try.prog 32 #[.pointer (some ⟨b, 0, none⟩)] w fun e w' => ∃ g : Nat, e = .returned (.pointer (some ⟨g, 0, none⟩)) ∧ w.heap.size ≤ g ∧ ∃ t' : TTape, t'.ok (fun k => w.heap.size ≤ k) w' g ∧ Mod No w w' ∧
   (∀ i, i < 4 → (t'.get i).xs = (t.get i).xs ∧ (t'.get i).last = (t.get i).last) ∧ t'.room = t.room ∧ t'.fuse = t.fuse := by
 have hc8 := h.has.cell 8
 have hc9 := h.has.cell 9
 have hc := h.has.cell
 rw [show t.cells[8]? = some (.int .i64 t.room) from rfl] at hc8
 rw [show t.cells[9]? = some (.int .i64 t.fuse) from rfl] at hc9
 have H := hide h
 have HC := hide hc
 clear h hc
 go_enter Try.func32, Try.ntmps32
 go_wp2
 go_region
 have hm1 : Mod No w (w.alloc (.cells (⟨⟨.slice none 0 0, [], 0⟩, ⟨.slice none 0 0, [], 0⟩, ⟨.slice none 0 0, [], 0⟩, ⟨.slice none 0 0, [], 0⟩, t.room, t.fuse⟩ : TTape).cells 103)).drew := ((Mod.refl _ _).alloc _).drew
 have hn1 : Has (w.alloc (.cells (⟨⟨.slice none 0 0, [], 0⟩, ⟨.slice none 0 0, [], 0⟩, ⟨.slice none 0 0, [], 0⟩, ⟨.slice none 0 0, [], 0⟩, t.room, t.fuse⟩ : TTape).cells 103)).drew w.heap.size (⟨⟨.slice none 0 0, [], 0⟩, ⟨.slice none 0 0, [], 0⟩, ⟨.slice none 0 0, [], 0⟩, ⟨.slice none 0 0, [], 0⟩, t.room, t.fuse⟩ : TTape).cells 103 := Has.new _ _ _
 have hs1 : w.heap.size < (w.alloc (.cells (⟨⟨.slice none 0 0, [], 0⟩, ⟨.slice none 0 0, [], 0⟩, ⟨.slice none 0 0, [], 0⟩, ⟨.slice none 0 0, [], 0⟩, t.room, t.fuse⟩ : TTape).cells 103)).drew.heap.size := hn1.lt
 unfold TTape.cells at hm1 hn1 hs1
 simp only at hm1 hn1 hs1
 rw [show (((0 : Nat) : Int)) = 0 from rfl] at hm1 hn1 hs1
 generalize (w.alloc _).drew = W at hm1 hn1 hs1 ⊢
 have h1 := (unhide H).mod0 hm1
 have hc := h1.has.cell
 unfold TTape.cells at hc
 clear hc8 hc9
 have HN1 := hide hn1
 have HM1 := hide hm1
 clear hn1 hm1
 generalize hg : w.heap.size = g at *
 have HG := hide hg
 clear hg
 go_wp2
 clear hc
 go_loopw [20] (fun i wr => ∃ (k : Nat) (t' : TTape), k ≤ 4 ∧ i = .int .i64 k ∧ t'.ok (fun k => g ≤ k) wr g ∧ Mod No w wr ∧ g < wr.heap.size ∧
   (∀ i, i < k → (t'.get i).xs = (t.get i).xs ∧ (t'.get i).last = (t.get i).last) ∧ (∀ i, k ≤ i → i < 4 → t'.get i = ⟨.slice none 0 0, [], 0⟩) ∧ t'.room = t.room ∧ t'.fuse = t.fuse) (fun i _ => 4 - (intOf i).toNat)
 case atStart =>
  refine ⟨0, ⟨⟨.slice none 0 0, [], 0⟩, ⟨.slice none 0 0, [], 0⟩, ⟨.slice none 0 0, [], 0⟩, ⟨.slice none 0 0, [], 0⟩, t.room, t.fuse⟩, by omega, rfl, ?_, unhide HM1, hs1, fun i hi => by omega, fun i _ hi => ?_, rfl, rfl⟩
  ·have e : ∀ W : World, (⟨.slice none 0 0, [], 0⟩ : TFile).ok (fun k => g ≤ k) W := fun W =>
    ⟨World.ownsRow_nil _ _ _ _, by simp, by simp, fun x hx => by simp at hx, fun k hk => by simp [Value.ownBlock] at hk⟩
   have a : (⟨.slice none 0 0, [], 0⟩ : TFile).apart ⟨.slice none 0 0, [], 0⟩ := fun k hk => by simp [Value.ownBlock] at hk
   exact ⟨unhide HN1, Nat.le_refl _, e _, e _, e _, e _, a, a, a, a, a, a⟩
  ·match i, hi with
   | 0, _ => rfl
   | 1, _ => rfl
   | 2, _ => rfl
   | 3, _ => rfl
 case round =>
  obtain ⟨k, t', hk, rfl, hok, hm, hgl, hA, hB, hr, hf⟩ := hrel
  by_cases hlt : k < 4
  ·have hki : (k : Int) < 4 := by omega
   obtain ⟨ak, ck, hvk, hlk⟩ := slice_form (((unhide H).get k hlt).mod0 hm)
   have HOK := hide hok
   have HM := hide hm
   have HA := hide hA
   have HB := hide hB
   have HR := hide hr
   have HF := hide hf
   clear hok hm hA hB hr hf
   have hread : Reads (wr.alloc (.cells #[.slice ak (t.get k).xs.length ck, .int .i64 (t.get k).last] 100)) (.slice ak (t.get k).xs.length ck) (t.get k).xs.length (t.get k).xs := by
    have := (reads_of_owns ((((unhide H).get k hlt).mod0 (unhide HM)).mod0 ((Mod.refl No wr).alloc (.cells #[.slice ak (t.get k).xs.length ck, .int .i64 (t.get k).last] 100))).owns)
    rwa [hvk] at this
   have hhas : Has (wr.alloc (.cells #[.slice ak (t.get k).xs.length ck, .int .i64 (t.get k).last] 100)) g t'.cells 103 := (unhide HOK).has.alloc _
   have hone : ∀ u ∈ (t.get k).xs, u.oneCell' = true := fun u hu => by obtain ⟨n, rfl, _⟩ := (h1.get k hlt).bytes u hu; rfl
   have hlen := (h1.get k hlt).len
   have hnew : Has (wr.alloc (.cells #[.slice ak (t.get k).xs.length ck, .int .i64 (t.get k).last] 100)) wr.heap.size #[.slice ak (t.get k).xs.length ck, .int .i64 (t.get k).last] 100 := Has.new _ _ _
   have HNEW := hide hnew
   clear hnew
   have HREAD := hide hread
   have HHAS := hide hhas
   have HONE := hide hone
   have H1 := hide h1
   clear hread hhas hone h1
   obtain ⟨i5, q0, q1, q2, q3⟩ := info_parts info5
   go_wp2_with fail
   go_region_law (refine step_append_row rfl (.const (.slice none 0 0)) (.tmp 27) 96 rfl 5 i5 (.int .u8 0) 1 1 Try.underlying96 q0 q1 q2 q3 rfl (by decide) (.slice none 0 0) 0 [] (by simp [Act.eval, Act.put]) (by exact World.ownsRow_nil _ _ _ _) (.slice ak (t.get k).xs.length ck) (t.get k).xs.length (t.get k).xs (by simp [Act.eval, Act.put]) (by exact unhide HREAD) (by omega) (unhide HONE) (by unfold maxLen; omega) (by omega) ?_; intro v' w3 ho3 hg3 hs3; obtain ⟨a3, c3, rfl⟩ := slice_of_owns ho3; have hk3 : Has w3 g _ 103 := Has.grown (w := (wr.alloc _).drew) (by exact unhide HHAS) hg3 (by simp [Value.ownBlock]); have hf3 := (Has.grown (w := (wr.alloc _).drew) (by exact unhide HNEW) hg3 (by simp [Value.ownBlock])).cell 1; simp only [List.getElem?_toArray, List.getElem?_cons_succ, List.getElem?_cons_zero] at hf3; have hc3 := hk3.cell (k * 2); have hc3' := hk3.cell (k * 2 + 1); have hz3 := hk3.frozen; rw [(cells_v _ k hlt).1] at hc3; rw [(cells_v _ k hlt).2] at hc3')
   all_goals go_wp2
   all_goals
    have hend := copy_step (hs3 := hs3) (hg3 := hg3) (ho3 := ho3) (unhide HOK) (unhide HM) (unhide HG) hgl hlt (unhide HA) (unhide HB) (unhide HR) (unhide HF) ((unhide H).get k hlt).last hlen ((unhide H).get k hlt).bytes
    obtain ⟨t2, r1, r2, r3, r4, r5, r6, r7⟩ := hend
    refine ⟨⟨k + 1, t2, by omega, by go_num, r1, r2, r3, r4, r5, r6, r7⟩, ?_⟩
    simp [intOf]
    omega
  ·have hki : ¬ (k : Int) < 4 := by omega
   obtain rfl : k = 4 := by omega
   go_wp2
   go_ret
   refine ⟨g, rfl, by rw [unhide HG]; exact Nat.le_refl _, t', ?_, hm, hA, hr, hf⟩
   rw [unhide HG]
   exact hok
open M
def numF : Nat → Nat → List Int
 | 0, n => [(n : Int)]
 | k + 1, n => if n < 128 then [(n : Int)] else ((n % 128 + 128 : Nat) : Int) :: numF k (n / 128)
def numB (x : Int) : List Int := numF 8 x.toNat
structure Ent where
 fl : Int
 kind : Int
 pla : Pla
 sea : Sea
 tr : Int
 tc : Int
 now : Int
 seats : List Sea
def placeB (r c : Int) : List Int := numB ((r - 1) * 6 + c - 1)
def shapeB (p : Pla) : List Int := numB p.rows ++ numB p.cols ++ numB p.front
def planeB (p : Pla) : List Int := shapeB p ++ numB p.l0 ++ numB p.l1 ++ numB p.l2 ++ numB p.l3
def fillB (now : Int) (s : Sea) : List Int := placeB s.row s.col ++ numB (s.st * 4 + s.cl) ++ (if s.st = 3 then [] else numB s.pa) ++ (if s.st = 1 then numB (s.un - now) else [])
def fillsB (now : Int) : List Sea → List Int
 | [] => []
 | s :: r => fillB now s ++ fillsB now r
def wholeB (now : Int) (p : Pla) (l : List Sea) : List Int := planeB p ++ numB p.ep ++ numB l.length ++ fillsB now l
def entB (now : Int) (e : Ent) : List Int :=
 if e.kind = 1 then (32 + e.fl) :: planeB e.pla
 else if e.kind = 2 then (64 + e.fl) :: fillB now e.sea
 else if e.kind = 3 then (96 + e.fl) :: placeB e.sea.row e.sea.col
 else if e.kind = 4 then (128 + e.fl) :: (placeB e.sea.row e.sea.col ++ placeB e.tr e.tc)
 else if e.kind = 5 then (160 + e.fl) :: shapeB e.pla
 else if e.kind = 6 then 192 :: numB (e.now - now)
 else (224 + e.fl) :: wholeB now e.pla e.seats
def entNow (now : Int) (e : Ent) : Int := if e.kind = 6 then e.now else now
def entsB : Int → List Ent → List Int
 | _, [] => []
 | now, e :: r => entB now e ++ entsB (entNow now e) r
def recB (now : Int) (es : List Ent) : List Int := numB es.length ++ entsB now es ++ [229]
theorem numF_len (k n : Nat) : 1 ≤ (numF k n).length ∧ (numF k n).length ≤ k + 1 := by
 induction k generalizing n with
 | zero => simp [numF]
 | succ k ih =>
  unfold numF
  split
  ·simp
  ·have := ih (n / 128)
   simp only [List.length_cons]
   omega
theorem numF_small (k n : Nat) (h : n < 128) : numF k n = [(n : Int)] := by
 cases k with
 | zero => rfl
 | succ k => unfold numF; rw [if_pos h]
theorem numF_two (k n : Nat) (h : n < 16384) : (numF k n).length ≤ 2 := by
 cases k with
 | zero => simp [numF]
 | succ k =>
  unfold numF
  split
  ·simp
  ·rw [numF_small k (n / 128) (by omega)]
   simp
theorem numF_byte (k n : Nat) (h : n < 128 ^ (k + 1)) : ∀ b ∈ numF k n, 0 ≤ b ∧ b < 256 := by
 induction k generalizing n with
 | zero =>
  simp only [numF, List.mem_singleton]
  rintro b rfl
  simp at h
  omega
 | succ k ih =>
  unfold numF
  split
  ·simp only [List.mem_singleton]
   rintro b rfl
   omega
  ·intro b hb
   rcases List.mem_cons.1 hb with rfl | hb
   ·omega
   ·refine ih (n / 128) ?_ b hb
    rw [Nat.pow_succ] at h
    omega
theorem numB_len (x : Int) : 1 ≤ (numB x).length ∧ (numB x).length ≤ 9 := numF_len 8 _
theorem numB_one {x : Int} (h0 : 0 ≤ x) (h : x < 128) : numB x = [x] := by
 unfold numB
 rw [numF_small 8 _ (by omega)]
 simp
 omega
theorem numB_two {x : Int} (h : x < 16384) : (numB x).length ≤ 2 := numF_two 8 _ (by omega)
theorem numB_byte {x : Int} (h : x < 9223372036854775808) : ∀ b ∈ numB x, 0 ≤ b ∧ b < 256 := numF_byte 8 _ (by
 have e : (128 : Nat) ^ (8 + 1) = 9223372036854775808 := by decide
 rw [e]
 omega)
set_option maxHeartbeats 2000000
def u8s (l : List Int) : List Value := l.map (Value.int .u8)
theorem u8s_len (l : List Int) : (u8s l).length = l.length := by simp [u8s]
structure WrX (O : Nat → Prop) (w : World) (wb : Nat) (v : Value) (xs : List Int) (now : Int) : Prop where
 has : Has w wb #[v, .int .i64 now] 167
 row : w.ownsRow 0 5 1 v xs.length (u8s xs)
 own : ∀ k, v.ownBlock = some k → O k ∧ k ≠ wb
 ge : O wb
 len : xs.length ≤ 1099511627776
theorem WrX.mod {O : Nat → Prop} {w w' : World} {wb : Nat} {v : Value} {xs : List Int} {now : Int} {S : Nat → Prop} (h : WrX O w wb v xs now) (hm : Mod S w w') (hs : ∀ k, O k → ¬ S k) : WrX O w' wb v xs now :=
 ⟨hm.has h.has (hs _ h.ge), hm.owns h.row (fun k hk => hs k (h.own k hk).1), h.own, h.ge, h.len⟩
theorem WrX.wide {O O' : Nat → Prop} {w : World} {wb : Nat} {v : Value} {xs : List Int} {now : Int} (h : WrX O w wb v xs now) (hs : ∀ k, O k → O' k) : WrX O' w wb v xs now :=
 ⟨h.has, h.row, fun k hk => ⟨hs k (h.own k hk).1, (h.own k hk).2⟩, hs _ h.ge, h.len⟩
theorem WrX.box {O : Nat → Prop} {w : World} {wb : Nat} {v : Value} {xs : List Int} {now : Int} (h : WrX O w wb v xs now) (o : Obj) : WrX (fun k => O k ∧ k ≠ w.heap.size) (w.alloc o) wb v xs now := by
 have hm : Mod No w (w.alloc o) := (Mod.refl _ _).alloc _
 refine ⟨hm.has h.has (fun x => x), hm.owns h.row (fun _ _ x => x), fun k hk => ⟨⟨(h.own k hk).1, ?_⟩, (h.own k hk).2⟩, ⟨h.ge, ?_⟩, h.len⟩
 ·have := (h.row.lt k hk).2
  omega
 ·have := h.has.lt
  omega
theorem byte_reads (w : World) (x : Int) (T : TypeId) : Reads (w.alloc (.cells #[.int .u8 x] T)) (.slice (some ⟨w.heap.size, 0, none⟩) 1 1) 1 [.int .u8 x] :=
 .inr ⟨⟨w.heap.size, 0, none⟩, 1, rfl, fun j u hu => by
  have hN := Has.new w #[Value.int .u8 x] T
  rw [Addr.add_mid, Nat.zero_add, hN.cell, ← Array.getElem?_toList]
  exact hu⟩
theorem WrX.more {O : Nat → Prop} {w w1 : World} {wb : Nat} {v v1 : Value} {xs : List Int} {now x : Int} {T : TypeId} (h : WrX O w wb v xs now) (hO : ∀ k, w.heap.size ≤ k → O k) (hl : xs.length < 1099511627776)
  (ho : w1.ownsRow 0 5 1 v1 (xs.length + 1) (u8s xs ++ [.int .u8 x])) (hg : (w.alloc (.cells #[.int .u8 x] T)).grownBy w1 v.ownBlock) (hs : Stays (w.alloc (.cells #[.int .u8 x] T)) v v1) :
  WrX O (w1.setCell ⟨wb, 0, none⟩ v1) wb v1 (xs ++ [x]) now ∧ Mod O w (w1.setCell ⟨wb, 0, none⟩ v1) := by
 have m0 : Mod O w (w.alloc (.cells #[.int .u8 x] T)) := (Mod.refl _ _).alloc _
 have m1 : Mod O w w1 := m0.grown hg (fun k hk => .inl (h.own k hk).1)
 have hst : ∀ k, v1.ownBlock = some k → O k ∧ k ≠ wb := fun k hk => by
  rcases hs k hk with e | e
  ·exact h.own k e
  ·rw [World.size_alloc] at e
   have := h.has.lt
   exact ⟨hO k (by omega), by omega⟩
 have hh : Has w1 wb #[v, .int .i64 now] 167 := Has.grown (h.has.alloc _) hg (fun e => (h.own wb e.symm).2 rfl)
 refine ⟨⟨hh.set 0 v1, ?_, hst, h.ge, by simp; omega⟩, m1.setCell (p := ⟨wb, 0, none⟩) (.inl h.ge) _⟩
 have := owns_setCell_ne ho (a := ⟨wb, 0, none⟩) (fun e => (hst wb e).2 rfl) v1
 unfold u8s at this ⊢
 rw [List.length_append, List.map_append]
 exact this
theorem wraps_i64 (n : Int) (h0 : 0 ≤ n) (h1 : n < 2 ^ 63) : IntKind.i64.wrap n = n := wrap_fit n (by omega) (by omega)
theorem wraps_b8 (n : Int) (h0 : 0 ≤ n) (h1 : n < 2 ^ 8) : IntKind.u8.wrap n = n := by simp [IntKind.wrap, IntKind.bits, IntKind.signed]; omega
theorem head_or (k f : Int) (hk : 0 ≤ k ∧ k ≤ 7) (hf : 0 ≤ f ∧ f < 32) : bits .or .i64 (k * 32) f = 32 * k + f := by
 have h := bits_join .i64 63 (by decide) wraps_i64 5 (k * 32) f (by omega) (by omega) (by omega) hf.1 (by omega) (by omega)
 rw [h]
 omega
set_option maxHeartbeats 4000000 in
theorem whead_any {O : Nat → Prop} {w : World} {wb : Nat} {v : Value} {xs : List Int} {now : Int} (h : WrX O w wb v xs now) (hO : ∀ k, w.heap.size ≤ k → O k) (hl : xs.length < 1099511627776) (k f : Int) (hk : 1 ≤ k ∧ k ≤ 7) (hf : 0 ≤ f ∧ f < 32) :
  Calls Try.prog 96 #[.pointer (some ⟨wb, 0, none⟩), .int .i64 k, .int .i64 f] w fun e w' => e = .returned (.tuple #[]) ∧ (∃ v', WrX O w' wb v' (xs ++ [32 * k + f]) now) ∧ Mod O w w' := by
 have hor := head_or k f (by omega) hf
 have hwr : IntKind.i64.wrap (k * 32) = k * 32 := wrap_id _ (by omega) (by omega)
 have hu8 : IntKind.u8.wrap (32 * k + f) = 32 * k + f := wraps_b8 _ (by omega) (by omega)
 obtain ⟨a, c, rfl⟩ := slice_of_owns h.row
 have hc : w.cell? ⟨wb, 0, none⟩ = some (.slice a xs.length c) := h.has.cell 0
 have hlt := h.has.lt
 have H := hide h
 have HO := hide hO
 clear hO
 obtain ⟨i5, q0, q1, q2, q3⟩ := info_parts info5
 have mA : Mod No w (w.alloc (.cells #[.int .u8 (32 * k + f)] 5)) := (Mod.refl _ _).alloc _
 have HOWN := hide fun n => (mA.drewN n).owns h.row (fun _ _ x => x)
 have HR := hide (byte_reads w (32 * k + f) 5)
 have HHAS := hide (h.has.alloc (.cells #[.int .u8 (32 * k + f)] 5))
 have HNE := hide (show some wb ≠ (Value.slice a xs.length c).ownBlock from fun e => (h.own wb e.symm).2 rfl)
 clear h mA
 go_enter Try.func96, Try.ntmps96
 go_wp2_with (at_builtin; refine wpList_append_row rfl (.tmp 10) (.tmp 16) 96 rfl 5 i5 _ 1 1 Try.underlying96 q0 q1 q2 q3 rfl (by decide) (.slice a xs.length c) xs.length (u8s xs) (by simp [Act.eval]) (by exact (unhide HOWN) 0) (.slice (some ⟨w.heap.size, 0, none⟩) 1 1) 1 [.int .u8 (32 * k + f)] (by simp [Act.eval]) (by exact unhide HR) rfl (by intro u hu; simp at hu; subst hu; rfl) (by unfold maxLen; omega) (by omega) ?_; intro v1 w1 ho hg hs; obtain ⟨a1, c1, rfl⟩ := slice_of_owns ho; have hh1 := Has.grown (unhide HHAS) hg (unhide HNE); have hc1 := hh1.cell 0; have hf1 := hh1.frozen; have hl1 := hh1.lt)
 all_goals trace "end"
 go_end0
 obtain ⟨r1, r2⟩ := (unhide H).more (unhide HO) hl ho hg hs
 exact ⟨rfl, ⟨_, r1⟩, r2⟩
theorem byte_or (b : Int) (h0 : 0 ≤ b) (h1 : b < 256) : bits .or .u8 b 128 = b % 128 + 128 := by
 obtain ⟨n, rfl⟩ := Int.eq_ofNat_of_zero_le h0
 have h : ∀ n : Fin 256, bits .or .u8 ((n.val : Nat) : Int) 128 = ((n.val % 128 + 128 : Nat) : Int) := by decide +kernel
 have := h ⟨n, by omega⟩
 simp only at this
 rw [this]
 omega
theorem numF_step (j m : Nat) (h : 128 ≤ m) (hj : m < 128 ^ (j + 1)) : ∃ i, j = i + 1 ∧ numF j m = ((m : Int) % 128 + 128) :: numF i (m / 128) ∧ m / 128 < 128 ^ (i + 1) := by
 cases j with
 | zero => simp at hj; omega
 | succ i =>
  refine ⟨i, rfl, ?_, ?_⟩
  ·rw [numF, if_neg (by omega)]
   congr 1
  ·rw [Nat.pow_succ] at hj
   omega
set_option maxHeartbeats 8000000 in
theorem wnum_any {O : Nat → Prop} {w : World} {wb : Nat} {v : Value} {xs : List Int} {now : Int} (h : WrX O w wb v xs now) (hO : ∀ k, w.heap.size ≤ k → O k) (hl : xs.length < 1099511627766) (n : Int) (hn : 0 ≤ n ∧ n < 9223372036854775808) :
  Calls Try.prog 87 #[.pointer (some ⟨wb, 0, none⟩), .int .i64 n] w fun e w' => e = .returned (.tuple #[]) ∧ (∃ v', WrX O w' wb v' (xs ++ numB n) now) ∧ Mod O w w' := by
 obtain ⟨i5, q0, q1, q2, q3⟩ := info_parts info5
 have H := hide h
 have HO := hide hO
 clear hO
 obtain ⟨m0, rfl⟩ := Int.eq_ofNat_of_zero_le hn.1
 have hm0 : m0 < 128 ^ (8 + 1) := by
  have e : (128 : Nat) ^ (8 + 1) = 9223372036854775808 := by decide
  rw [e]
  omega
 unfold numB
 rw [show ((m0 : Nat) : Int).toNat = m0 by omega]
 have hlen := (numF_len 8 m0).2
 generalize hT : xs ++ numF 8 m0 = T at *
 have HTL := hide (show T.length ≤ xs.length + 9 by rw [← hT]; simp; omega)
 have HT := hide hT
 clear h hT hlen
 go_enter Try.func87, Try.ntmps87
 go_wp2_with fail
 go_loopw [1] (fun s wr => ∃ (j m : Nat) (v : Value) (ys : List Int), s = .int .i64 m ∧ m < 9223372036854775808 ∧ Hid (m < 128 ^ (j + 1)) ∧ Hid (ys ++ numF j m = T) ∧ Hid (WrX O wr wb v ys now) ∧ Hid (Mod O w wr)) (fun s _ => (intOf s).toNat)
 case atStart => exact ⟨8, m0, v, xs, rfl, by omega, hm0, HT, H, Mod.refl _ _⟩
 case round =>
  obtain ⟨j, m, v, ys, rfl, hm63, hm, hys, H1, M1⟩ := hrel
  clear H HT hm0
  have hw1 := (unhide H1)
  obtain ⟨a, c, rfl⟩ := slice_of_owns hw1.row
  have hc : wr.cell? ⟨wb, 0, none⟩ = some (.slice a ys.length c) := hw1.has.cell 0
  have hlt := hw1.has.lt
  have HNE := hide (show some wb ≠ (Value.slice a ys.length c).ownBlock from fun e => (hw1.own wb e.symm).2 rfl)
  have hyl : ys.length < 1099511627776 := by
   have h1 := congrArg List.length (unhide hys)
   rw [List.length_append] at h1
   have h2 := (numF_len j m).1
   have h3 := unhide HTL
   omega
  have hBr : ∀ k, wr.heap.size ≤ k → O k := fun k hk => (unhide HO) k (Nat.le_trans (unhide M1).size hk)
  have HBR := hide hBr
  clear hBr
  by_cases hge : 128 ≤ m
  ·have hgei : (m : Int) ≥ 128 := by omega
   obtain ⟨i, rfl, hF, hlt2⟩ := numF_step j m hge (unhide hm)
   have hu8 : IntKind.u8.wrap (m : Int) = (m : Int) % 256 := by simp [IntKind.wrap, IntKind.bits, IntKind.signed]
   have hor : bits .or .u8 ((m : Int) % 256) 128 = (m : Int) % 128 + 128 := by
    rw [byte_or _ (by omega) (by omega)]
    omega
   have mA : Mod No wr (wr.alloc (.cells #[.int .u8 ((m : Int) % 128 + 128)] 5)) := (Mod.refl _ _).alloc _
   have HOWN := hide (mA.owns hw1.row (fun _ _ x => x))
   have HR := hide (byte_reads wr ((m : Int) % 128 + 128) 5)
   have HHAS := hide (hw1.has.alloc (.cells #[.int .u8 ((m : Int) % 128 + 128)] 5))
   have HF := hide hF
   have HL2 := hide hlt2
   clear hw1 mA hF hlt2
   go_wp2_with (at_builtin; refine wpList_append_row rfl (.tmp 10) (.tmp 14) 96 rfl 5 i5 _ 1 1 Try.underlying96 q0 q1 q2 q3 rfl (by decide) (.slice a ys.length c) ys.length (u8s ys) (by simp [Act.eval]) (by exact unhide HOWN) (.slice (some ⟨wr.heap.size, 0, none⟩) 1 1) 1 [.int .u8 ((m : Int) % 128 + 128)] (by simp [Act.eval]) (by exact unhide HR) rfl (by intro u hu; simp at hu; subst hu; rfl) (by unfold maxLen; omega) (by omega) ?_; intro v1 w1 ho hg hs; obtain ⟨a1, c1, rfl⟩ := slice_of_owns ho; have hh1 := Has.grown (unhide HHAS) hg (unhide HNE); have hc1 := hh1.cell 0; have hf1 := hh1.frozen; have hl1 := hh1.lt)
   all_goals trace "round"
   obtain ⟨r1, r2⟩ := (unhide H1).more (unhide HBR) hyl ho hg hs
   refine ⟨⟨i, m / 128, _, ys ++ [(m : Int) % 128 + 128], ?_, by omega, HL2, hide ?_, r1, (unhide M1).trans r2⟩, ?_⟩
   ·simp
   ·rw [List.append_assoc]
    show ys ++ (((m : Int) % 128 + 128) :: numF i (m / 128)) = T
    rw [← unhide HF]
    exact unhide hys
   ·simp [intOf]
    omega
  ·have hgei : ¬ (m : Int) ≥ 128 := by omega
   have hu8 : IntKind.u8.wrap (m : Int) = (m : Int) := by simp [IntKind.wrap, IntKind.bits, IntKind.signed]; omega
   have mA : Mod No wr (wr.alloc (.cells #[.int .u8 (m : Int)] 5)) := (Mod.refl _ _).alloc _
   have HOWN := hide (mA.owns hw1.row (fun _ _ x => x))
   have HR := hide (byte_reads wr (m : Int) 5)
   have HHAS := hide (hw1.has.alloc (.cells #[.int .u8 (m : Int)] 5))
   have HF := hide (numF_small j m (by omega))
   clear hw1 mA
   go_wp2_with (at_builtin; refine wpList_append_row rfl (.tmp 24) (.tmp 27) 96 rfl 5 i5 _ 1 1 Try.underlying96 q0 q1 q2 q3 rfl (by decide) (.slice a ys.length c) ys.length (u8s ys) (by simp [Act.eval]) (by exact unhide HOWN) (.slice (some ⟨wr.heap.size, 0, none⟩) 1 1) 1 [.int .u8 (m : Int)] (by simp [Act.eval]) (by exact unhide HR) rfl (by intro u hu; simp at hu; subst hu; rfl) (by unfold maxLen; omega) (by omega) ?_; intro v1 w1 ho hg hs; obtain ⟨a1, c1, rfl⟩ := slice_of_owns ho; have hh1 := Has.grown (unhide HHAS) hg (unhide HNE); have hc1 := hh1.cell 0; have hf1 := hh1.frozen; have hl1 := hh1.lt)
   go_end0
   obtain ⟨r1, r2⟩ := (unhide H1).more (unhide HBR) hyl ho hg hs
   have hy := unhide hys
   rw [unhide HF] at hy
   rw [← hy]
   exact ⟨rfl, ⟨_, r1⟩, (unhide M1).trans r2⟩
end Go.Proofs.Ythhibagcpjeihaa
