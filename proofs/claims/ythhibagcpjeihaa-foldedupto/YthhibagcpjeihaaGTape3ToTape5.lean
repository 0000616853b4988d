import Derived.Test.YthhibagcpjeihaaGBaseToAppend
/- The tape's methods, continued: syncing, clearing, appending. -/
namespace Go.Proofs.Ythhibagcpjeihaa
open Go.RowKit
set_option linter.unusedVariables false
set_option linter.unusedSimpArgs false

theorem put_fuse (t : TTape) (f : TFile) (x : Int) (i : Nat) : ({ t.put f i with fuse := x } : TTape) = ({ t with fuse := x } : TTape).put f i := by
  unfold TTape.put
  split <;> rfl
theorem get_fuse (t : TTape) (x : Int) (i : Nat) : ({ t with fuse := x } : TTape).get i = t.get i := by
  unfold TTape.get
  split <;> rfl

theorem TTape.ok.last {S : Nat → Prop} {w : World} {b : Nat} {t : TTape} (h : t.ok S w b) (i : Nat) (hi : i < 4) (n : Nat) (hn : n ≤ (t.get i).xs.length) :
    (t.put ⟨(t.get i).v, (t.get i).xs, n⟩ i).ok S (w.setCell ⟨b, i * 2 + 1, none⟩ (.int .i64 n)) b := by
  have hg := h.get i hi
  refine h.put i hi _ (Mod.setCell (Mod.refl _ w) (p := ⟨b, i * 2 + 1, none⟩) (.inl (.inl rfl)) _) ?_ ?_ (fun _ x => x) (fun k hk => .inl hk)
  · have := h.has.set (i * 2 + 1) (.int .i64 n)
    rwa [cells_put_l t (t.get i).xs n i hi] at this
  · exact ⟨owns_setCell_ne hg.owns (by simpa using hg.ne h.has) _, hn, hg.len, hg.bytes, hg.inn⟩

theorem sync_core (b : Nat) (t : TTape) (i : Nat) (hi : i < 4) (S : Nat → Prop) (w : World) (h : t.ok S w b)
    (hf : -4611686018427387904 ≤ t.fuse ∧ t.fuse ≤ 4611686018427387904) (h0 : t.fuse ≠ 0) :
    Calls Try.prog 35 #[.pointer (some ⟨b, 0, none⟩), .int .i64 i] w fun e w' => e = .returned (.bool true) ∧
      ({ t.put ⟨(t.get i).v, (t.get i).xs, (t.get i).xs.length⟩ i with fuse := burnt t.fuse } : TTape).ok S w' b ∧ Mod (· = b) w w' := by
  have hburn := fun W (hW : t.ok S W b) => burn_any b t W hW hf
  simp only [ne_eq, h0, not_false_eq_true, decide_true] at hburn
  have H := hide h
  have HB := hide hburn
  clear hburn h
  have hi' : (i : Int) < 4 := by omega
  go_enter Try.func35, Try.ntmps35
  go_wp2_with fail
  refine ((unhide HB) _ (unhide H)).mono ?_
  rintro e w1 ⟨rfl, h1, m1⟩
  have hc := h1.has.cell (i * 2)
  have hc' := h1.has.cell (i * 2 + 1)
  have hz := h1.has.frozen
  rw [(cells_v _ i hi).1] at hc
  rw [(cells_v _ i hi).2] at hc'
  obtain ⟨a0, c0, e0, m0⟩ := slice_form (h1.get i hi)
  rw [e0] at hc
  have H1 := hide h1
  have M1 := hide m1
  have E0 := hide e0
  clear h1 m1 e0
  generalize hn : ((({ t with fuse := burnt t.fuse } : TTape).get i).xs.length) = n at *
  have HN := hide hn
  clear hn
  go_wp2_with fail
  go_region
  all_goals
    go_wp2
    go_ret
    refine ⟨rfl, ?_, Mod.trans (unhide M1) (Mod.setCell (S := fun k => k = b) (Mod.refl _ w1) (p := ⟨b, i * 2 + 1, none⟩) (.inl rfl) _).drew⟩
    rw [put_fuse]
    have hl := TTape.ok.last (unhide H1) i hi n (by rw [unhide HN]; exact Nat.le_refl _)
    have hn := unhide HN
    rw [get_fuse] at hn hl
    rw [hn]
    exact hl.mod0 (Mod.refl No _).drew

theorem sync_dead (b : Nat) (t : TTape) (i : Nat) (hi : i < 4) (S : Nat → Prop) (w : World) (h : t.ok S w b) (h0 : t.fuse = 0) :
    Calls Try.prog 35 #[.pointer (some ⟨b, 0, none⟩), .int .i64 i] w fun e w' => e = .returned (.bool false) ∧ t.ok S w' b ∧ Mod (· = b) w w' := by
  have hburn := fun W (hW : t.ok S W b) => burn_any b t W hW (by omega)
  simp only [ne_eq, h0, not_true_eq_false, decide_false] at hburn
  have H := hide h
  have HB := hide hburn
  have h0' := hide h0
  clear hburn h h0
  have hi' : (i : Int) < 4 := by omega
  go_enter Try.func35, Try.ntmps35
  go_wp2_with fail
  refine ((unhide HB) _ (unhide H)).mono ?_
  rintro e w1 ⟨rfl, h1, m1⟩
  have H1 := hide h1
  have M1 := hide m1
  clear h1 m1
  go_wp2
  go_ret
  have h2 := unhide H1
  rw [show burnt 0 = 0 from rfl] at h2
  refine ⟨rfl, ?_, unhide M1⟩
  have e : ({ t with fuse := 0 } : TTape) = t := by cases t; simp only at h0'; rw [unhide h0']
  rw [e] at h2
  exact h2

theorem Mod.reads {S : Nat → Prop} {w w' : World} (hm : Mod S w w') {x : Value} {m : Nat} {news : List Value} (h : Reads w x m news) (hs : ∀ k, x.ownBlock = some k → ¬ S k) : Reads w' x m news := h.mod hm hs


theorem info5 : (Try.prog.info? 5).map (fun i => (i.zero, i.size, i.bytes)) = some (some (.int .u8 0), 1, 1) := by kernel_rfl

theorem TTape.ok.row {S : Nat → Prop} {w w1 : World} {b : Nat} {t : TTape} (h : t.ok S w b) (i : Nat) (hi : i < 4) (v' : Value) (xs' : List Value)
    (hg : w.grownBy w1 (t.get i).v.ownBlock) (ho : w1.ownsRow 0 5 1 v' xs'.length xs') (hst : Stays w (t.get i).v v')
    (hl : (t.get i).last ≤ xs'.length) (hlen : xs'.length ≤ 17592186044416) (hb : ∀ x ∈ xs', ∃ n : Int, x = .int .u8 n ∧ 0 ≤ n ∧ n < 256) :
    (t.put ⟨v', xs', (t.get i).last⟩ i).ok (fun k => S k ∨ w.heap.size ≤ k) (w1.setCell ⟨b, i * 2, none⟩ v') b ∧ Mod S w (w1.setCell ⟨b, i * 2, none⟩ v') := by
  have hgi := h.get i hi
  have hm1 : Mod (Touch b (t.get i)) w w1 := (Mod.refl _ w).grown hg (fun k hk => .inl (.inr hk))
  have hm : Mod (Touch b (t.get i)) w (w1.setCell ⟨b, i * 2, none⟩ v') := hm1.setCell (p := ⟨b, i * 2, none⟩) (.inl (.inl rfl)) _
  have hh1 : Has w1 b t.cells 103 := by
    unfold Has
    rw [hg.block b h.has.lt (fun e => hgi.ne h.has e.symm)]
    exact h.has
  have hne : v'.ownBlock ≠ some b := fun e => by
    rcases hst b e with h1 | h1
    · exact hgi.ne h.has h1
    · have := h.has.lt; omega
  refine ⟨h.put i hi _ hm ?_ ?_ (fun k hk => .inl hk) hst, hm.mono (fun k hk hT => ?_)⟩
  · have := hh1.set (i * 2) v'
    rwa [cells_put_v t v' xs' i hi] at this
  · refine ⟨owns_setCell_ne ho (by simpa using hne) _, hl, hlen, hb, fun k hk => ?_⟩
    rcases hst k hk with h1 | h1
    · exact .inl (hgi.inn k h1)
    · exact .inr h1
  · rcases hT with rfl | hT
    · exact h.inn
    · exact hgi.inn k hT

theorem append_no (b : Nat) (t : TTape) (i : Nat) (hi : i < 4) (S : Nat → Prop) (w : World) (h : t.ok S w b) (xa : Option Addr) (m c : Nat) (hm : m ≤ 17592186044416) (hno : t.room < t.used + m) :
    Calls Try.prog 38 #[.pointer (some ⟨b, 0, none⟩), .int .i64 i, .slice xa m c] w fun e w' => e = .returned (.bool false) ∧ Mod No w w' := by
  have hfits := fits_any b t m w h (by omega) (by omega)
  have hd : decide ((t.used : Int) + m ≤ t.room) = false := by simp; omega
  rw [hd] at hfits
  have HF := hide hfits
  clear hfits h hd hno
  have hi' : (i : Int) < 4 := by omega
  go_enter Try.func38, Try.ntmps38
  go_wp2_with fail
  refine (unhide HF).mono ?_
  rintro e w1 ⟨rfl, m1⟩
  have M1 := hide m1
  clear m1
  go_wp2
  go_ret
  exact ⟨rfl, unhide M1⟩

set_option maxRecDepth 100000 in
theorem append_yes (b : Nat) (t : TTape) (i : Nat) (hi : i < 4) (S : Nat → Prop) (w : World) (h : t.ok S w b) (xa : Option Addr) (m c : Nat) (news : List Value)
    (hx : Reads w (.slice xa m c) m news) (hxb : (Value.slice xa m c).ownBlock ≠ some b) (hn : news.length = m) (hu : ∀ x ∈ news, ∃ n : Int, x = .int .u8 n ∧ 0 ≤ n ∧ n < 256)
    (hm : (t.get i).xs.length + m ≤ 17592186044416) (hroom : t.used + m ≤ t.room)
    (hf : -4611686018427387904 ≤ t.fuse ∧ t.fuse ≤ 4611686018427387904) (h0 : t.fuse ≠ 0) :
    Calls Try.prog 38 #[.pointer (some ⟨b, 0, none⟩), .int .i64 i, .slice xa m c] w fun e w' => e = .returned (.bool true) ∧
      (∃ v', ({ t.put ⟨v', (t.get i).xs ++ news, (t.get i).last⟩ i with fuse := burnt t.fuse } : TTape).ok (fun k => S k ∨ w.heap.size ≤ k) w' b) ∧ Mod S w w' := by
  have hfits := fits_any b t m w h (by omega) (by omega)
  have hd : decide ((t.used : Int) + m ≤ t.room) = true := by simp; omega
  rw [hd] at hfits
  have HF := hide hfits
  have hburn := fun W (hW : t.ok S W b) => burn_any b t W hW hf
  simp only [ne_eq, h0, not_false_eq_true, decide_true] at hburn
  have H := hide h
  have HB := hide hburn
  have HX := hide hx
  have HXB := hide hxb
  have HN := hide hn
  have HU := hide hu
  clear hfits h hd hburn hx hxb hn hu
  have hi' : (i : Int) < 4 := by omega
  obtain ⟨i5, q0, q1, q2, q3⟩ := info_parts info5
  go_enter Try.func38, Try.ntmps38
  go_wp2_with fail
  refine (unhide HF).mono ?_
  rintro e w1 ⟨rfl, m1⟩
  have H1 := hide ((unhide H).mod0 m1)
  have HX1 := hide ((unhide HX).mod m1 (fun _ _ x => x))
  have M1 := hide m1
  clear m1
  go_wp2_with fail
  refine ((unhide HB) _ (unhide H1)).mono ?_
  rintro e w2 ⟨rfl, h2, m2⟩
  have hx2 := (unhide HX1).mod m2 (fun k hk e => (unhide HXB) (by rw [hk, e]))
  have M2 := hide m2
  have hc := h2.has.cell (i * 2)
  have hz := h2.has.frozen
  rw [(cells_v _ i hi).1] at hc
  have hh2 := h2.has
  have g2 := h2.get i hi
  rw [get_fuse] at hc g2
  have hown := g2.owns
  have hne := g2.ne hh2
  have H2 := hide h2
  have G2 := hide g2
  have HX2 := hide hx2
  have HH2 := hide hh2
  have HO := hide hown
  have HNE := hide hne
  clear h2 m2 hx2 hh2 g2 hown hne
  have hone : ∀ u ∈ news, u.oneCell' = true := fun u hu => by obtain ⟨n, rfl, _⟩ := (unhide HU) u hu; rfl
  have HONE := hide hone
  clear hone
  go_wp2_with fail
  go_region_law (refine step_append_row rfl (.tmp 33) (.tmp 34) 96 rfl 5 i5 (.int .u8 0) 1 1 Try.underlying96 q0 q1 q2 q3 rfl (by decide) (t.get i).v (t.get i).xs.length (t.get i).xs (by simp [Act.eval, Act.put]) (by exact unhide HO) (.slice xa m c) m news (by simp [Act.eval, Act.put]) (by exact unhide HX2) (by rw [unhide HN]; omega) (unhide HONE) (by unfold maxLen; omega) (by omega) ?_; intro v' w3 ho3 hg3 hs3; obtain ⟨a3, c3, rfl⟩ := slice_of_owns ho3; have hk3 : Has w3 b _ 103 := (by unfold Has; rw [hg3.block b (unhide HH2).lt (fun e => (unhide HNE) e.symm)]; exact unhide HH2); have hc3 := hk3.cell (i * 2); have hz3 := hk3.frozen; rw [(cells_v _ i hi).1] at hc3)
  all_goals
    go_wp2
    go_ret
  have hlen : (t.get i).xs.length + m = ((t.get i).xs ++ news).length := by rw [List.length_append, unhide HN]
  have hin := unhide H
  have hgi := hin.get i hi
  have key := @TTape.ok.row S w2.drew w3 b { t with fuse := burnt t.fuse } ((unhide H2).mod0 (Mod.refl No _).drew) i hi _ ((t.get i).xs ++ news) (by rw [get_fuse]; exact hg3)
    (by rw [← hlen]; exact ho3) (by rw [get_fuse]; exact hs3) (by rw [get_fuse]; have := hgi.last; rw [List.length_append]; omega) (by rw [← hlen]; exact hm)
    (fun x hx => by
      rcases List.mem_append.1 hx with h | h
      · exact hgi.bytes x h
      · exact (unhide HU) x h)
  simp only [get_fuse] at key
  have s1 := (unhide M1).size
  have s2 := (unhide M2).size
  have mm1 : Mod S w w1 := (unhide M1).mono (fun _ _ x => x.elim)
  have mm2 : Mod S w1 w2 := (unhide M2).mono (fun k _ e => by rw [e]; exact hin.inn)
  refine ⟨rfl, ⟨.slice a3 ((t.get i).xs.length + m) c3, ?_⟩, (mm1.trans mm2).drew.trans key.2⟩
  rw [put_fuse]
  refine key.1.wide (fun k hk => ?_)
  rcases hk with hk | hk
  · exact .inl hk
  · refine .inr (Nat.le_trans (Nat.le_trans s1 s2) ?_)
    simpa using hk

theorem append_bad (b : Nat) (i : Int) (hi : i < 0 ∨ 4 ≤ i) (w : World) (xa : Option Addr) (m c : Nat) :
    Calls Try.prog 38 #[.pointer (some ⟨b, 0, none⟩), .int .i64 i, .slice xa m c] w fun e w' => e = .returned (.bool false) ∧ w' = w := by
  rcases hi with hi | hi
  · go_enter Try.func38, Try.ntmps38
    go_wp2
    go_ret
    exact ⟨rfl, rfl⟩
  · have hi2 : ¬ i < 0 := by omega
    go_enter Try.func38, Try.ntmps38
    go_wp2
    go_ret
    exact ⟨rfl, rfl⟩

theorem append_dead (b : Nat) (t : TTape) (i : Nat) (hi : i < 4) (S : Nat → Prop) (w : World) (h : t.ok S w b) (xa : Option Addr) (m c : Nat) (hm : m ≤ 17592186044416) (hroom : t.used + m ≤ t.room) (h0 : t.fuse = 0) :
    Calls Try.prog 38 #[.pointer (some ⟨b, 0, none⟩), .int .i64 i, .slice xa m c] w fun e w' => e = .returned (.bool false) ∧ t.ok S w' b ∧ Mod S w w' := by
  have hfits := fits_any b t m w h (by omega) (by omega)
  have hd : decide ((t.used : Int) + m ≤ t.room) = true := by simp; omega
  rw [hd] at hfits
  have HF := hide hfits
  have hburn := fun W (hW : t.ok S W b) => burn_any b t W hW (by omega)
  simp only [ne_eq, h0, not_true_eq_false, decide_false] at hburn
  have H := hide h
  have HB := hide hburn
  have h0' := hide h0
  clear hfits h hd hburn h0
  have hi' : (i : Int) < 4 := by omega
  go_enter Try.func38, Try.ntmps38
  go_wp2_with fail
  refine (unhide HF).mono ?_
  rintro e w1 ⟨rfl, m1⟩
  have H1 := hide ((unhide H).mod0 m1)
  have M1 := hide m1
  clear m1
  go_wp2_with fail
  refine ((unhide HB) _ (unhide H1)).mono ?_
  rintro e w2 ⟨rfl, h2, m2⟩
  have H2 := hide h2
  have M2 := hide m2
  clear h2 m2
  go_wp2
  go_ret
  have h2 := unhide H2
  rw [show burnt 0 = 0 from rfl] at h2
  have e : ({ t with fuse := 0 } : TTape) = t := by cases t; simp only at h0'; rw [unhide h0']
  rw [e] at h2
  exact ⟨rfl, h2, ((unhide M1).mono (fun _ _ x => x.elim)).trans ((unhide M2).mono (fun k _ e => by rw [e]; exact (unhide H).inn))⟩

/-- All its blocks are there. -/
theorem TTape.ok.narrow {S : Nat → Prop} {w : World} {b : Nat} {t : TTape} (h : t.ok S w b) : t.ok (fun k => S k ∧ k < w.heap.size) w b := by
  have f : ∀ g : TFile, g.ok S w → g.ok (fun k => S k ∧ k < w.heap.size) w := fun g hg => ⟨hg.owns, hg.last, hg.len, hg.bytes, fun k hk => ⟨hg.inn k hk, (hg.owns.lt k hk).2⟩⟩
  exact ⟨h.has, ⟨h.inn, h.has.lt⟩, f _ h.k0, f _ h.k1, f _ h.k2, f _ h.k3, h.a01, h.a02, h.a03, h.a12, h.a13, h.a23⟩
end Go.Proofs.Ythhibagcpjeihaa
/- The tape's methods, continued: clearing, reading, copying; two rows of bytes compared. -/
namespace Go.Proofs.Ythhibagcpjeihaa
open Go.RowKit
set_option linter.unusedVariables false
set_option linter.unusedSimpArgs false
set_option maxRecDepth 100000

theorem clear_yes (b : Nat) (t : TTape) (i : Nat) (hi : i < 4) (S : Nat → Prop) (w : World) (h : t.ok S w b)
    (hf : -4611686018427387904 ≤ t.fuse ∧ t.fuse ≤ 4611686018427387904) (h0 : t.fuse ≠ 0) :
    Calls Try.prog 41 #[.pointer (some ⟨b, 0, none⟩), .int .i64 i] w fun e w' => e = .returned (.bool true) ∧
      ({ t.put ⟨.slice none 0 0, [], 0⟩ i with fuse := burnt t.fuse } : TTape).ok S w' b ∧ Mod (· = b) w w' := by
  have hburn := fun W (hW : t.ok S W b) => burn_any b t W hW hf
  simp only [ne_eq, h0, not_false_eq_true, decide_true] at hburn
  have H := hide h
  have HB := hide hburn
  clear hburn h
  have hi' : (i : Int) < 4 := by omega
  go_enter Try.func41, Try.ntmps41
  go_wp2_with fail
  refine ((unhide HB) _ (unhide H)).mono ?_
  rintro e w1 ⟨rfl, h1, m1⟩
  have hc := h1.has.cell (i * 2)
  have hc' := h1.has.cell (i * 2 + 1)
  have hz := h1.has.frozen
  rw [(cells_v _ i hi).1] at hc
  rw [(cells_v _ i hi).2] at hc'
  have H1 := hide h1
  have M1 := hide m1
  clear h1 m1
  go_wp2
  go_ret
  have h1 := unhide H1
  refine ⟨rfl, ?_, ((unhide M1).setCell (p := ⟨b, i * 2, none⟩) (.inl rfl) _).setCell (p := ⟨b, i * 2 + 1, none⟩) (.inl rfl) _⟩
  rw [put_fuse]
  refine h1.put i hi _ (((Mod.refl _ w1).setCell (p := ⟨b, i * 2, none⟩) (.inl (.inl rfl)) _).setCell (p := ⟨b, i * 2 + 1, none⟩) (.inl (.inl rfl)) _) ?_ ?_ (fun _ x => x) (fun k hk => by simp [Value.ownBlock] at hk)
  · have := (h1.has.set (i * 2) (.slice none 0 0)).set (i * 2 + 1) (.int .i64 0)
    rwa [show (Value.int .i64 0) = Value.int .i64 ((0 : Nat) : Int) from rfl, cells_put _ (.slice none 0 0) [] 0 i hi] at this
  · exact ⟨World.ownsRow_nil _ _ _ _, by simp, by simp, fun x hx => by simp at hx, fun k hk => by simp [Value.ownBlock] at hk⟩

theorem read_any (b : Nat) (t : TTape) (i : Nat) (hi : i < 4) (S : Nat → Prop) (w : World) (h : t.ok S w b) :
    Calls Try.prog 40 #[.pointer (some ⟨b, 0, none⟩), .int .i64 i] w fun e w' => ∃ v, e = .returned v ∧ w'.ownsRow 0 5 1 v (t.get i).xs.length (t.get i).xs ∧ Stays w (.slice none 0 0) v ∧ Mod No w w' := by
  have hi' : (i : Int) < 4 := by omega
  have hc := h.has.cell (i * 2)
  rw [(cells_v _ i hi).1] at hc
  have hg := h.get i hi
  have hr := reads_of_owns hg.owns
  have HR := hide hr
  have hone : ∀ u ∈ (t.get i).xs, u.oneCell' = true := fun u hu => by obtain ⟨n, rfl, _⟩ := hg.bytes u hu; rfl
  have HONE := hide hone
  have hlen := hg.len
  clear hone hr hg h
  obtain ⟨i5, q0, q1, q2, q3⟩ := info_parts info5
  go_enter Try.func40, Try.ntmps40
  go_wp2_with (first | (at_builtin; refine wpList_append_row rfl (.const (.slice none 0 0)) (.tmp 17) 96 rfl 5 i5 (.int .u8 0) 1 1 Try.underlying96 q0 q1 q2 q3 rfl (by decide) (.slice none 0 0) 0 [] (by simp [Act.eval]) (by exact World.ownsRow_nil _ _ _ _) (t.get i).v (t.get i).xs.length (t.get i).xs (by simp [Act.eval]) (by exact unhide HR) (by omega) (unhide HONE) (by unfold maxLen; omega) (by omega) ?_; intro v' w3 ho3 hg3 hs3; obtain ⟨a3, c3, rfl⟩ := slice_of_owns ho3))
  go_ret
  rw [Nat.zero_add, List.nil_append] at ho3
  simp only [Nat.zero_add] at hs3
  exact ⟨_, rfl, ho3, hs3, (Mod.refl _ _).grown hg3 (by simp [Value.ownBlock])⟩

/-- The array of files, indexed. -/
theorem idx84 (t : TTape) (i : Nat) (hi : (i : Int) < 4) (w : World) :
    (Instr.index 101 (.agg #[t.f0.v, .int .i64 t.f0.last, t.f1.v, .int .i64 t.f1.last, t.f2.v, .int .i64 t.f2.last, t.f3.v, .int .i64 t.f3.last]) (.int .i64 i)).run Try.prog w =
      .ok (.agg #[(t.get i).v, .int .i64 (t.get i).last]) w := by
  have hi' : i < 4 := by omega
  match i, hi' with
  | 0, _ => exact idx84_0 _ _ _ _ _ _ _ _ _
  | 1, _ => exact idx84_1 _ _ _ _ _ _ _ _ _
  | 2, _ => exact idx84_2 _ _ _ _ _ _ _ _ _
  | 3, _ => exact idx84_3 _ _ _ _ _ _ _ _ _
attribute [local go_sem] idx84

theorem TFile.ok.mod0 {S : Nat → Prop} {w w' : World} {f : TFile} (h : f.ok S w) (hm : Mod No w w') : f.ok S w' := h.mod hm (fun _ _ x => x)
theorem get_put (t : TTape) (f : TFile) (i j : Nat) (hi : i < 4) (hj : j < 4) : (t.put f i).get j = if j = i then f else t.get j := by
  match i, hi with
  | 0, _ => match j, hj with | 0, _ => rfl | 1, _ => rfl | 2, _ => rfl | 3, _ => rfl
  | 1, _ => match j, hj with | 0, _ => rfl | 1, _ => rfl | 2, _ => rfl | 3, _ => rfl
  | 2, _ => match j, hj with | 0, _ => rfl | 1, _ => rfl | 2, _ => rfl | 3, _ => rfl
  | 3, _ => match j, hj with | 0, _ => rfl | 1, _ => rfl | 2, _ => rfl | 3, _ => rfl
theorem put_room (t : TTape) (f : TFile) (i : Nat) : (t.put f i).room = t.room ∧ (t.put f i).fuse = t.fuse := by
  unfold TTape.put
  split <;> exact ⟨rfl, rfl⟩

theorem copy_step {w wr w3 : World} {o : Obj} {g k : Nat} {t t' : TTape} {a3 : Option Addr} {c3 : Nat}
    (hs3 : Stays (wr.alloc o).drew (.slice none 0 0) (.slice a3 (0 + (t.get k).xs.length) c3)) (hg3 : (wr.alloc o).drew.grownBy w3 (Value.slice none 0 0).ownBlock)
    (ho3 : w3.ownsRow 0 5 1 (.slice a3 (0 + (t.get k).xs.length) c3) (0 + (t.get k).xs.length) ([] ++ (t.get k).xs))
    (hok : t'.ok (fun k => g ≤ k) wr g) (hm : Mod No w wr) (hg : w.heap.size = g) (hgl : g < wr.heap.size) (hk : k < 4)
    (hA : ∀ i, i < k → (t'.get i).xs = (t.get i).xs ∧ (t'.get i).last = (t.get i).last) (hB : ∀ i, k ≤ i → i < 4 → t'.get i = ⟨.slice none 0 0, [], 0⟩) (hr : t'.room = t.room) (hf : t'.fuse = t.fuse)
    (hl : (t.get k).last ≤ (t.get k).xs.length) (hlen : (t.get k).xs.length ≤ 17592186044416) (hb : ∀ x ∈ (t.get k).xs, ∃ n : Int, x = .int .u8 n ∧ 0 ≤ n ∧ n < 256) :
    ∃ t2 : TTape, t2.ok (fun k => g ≤ k) ((w3.setCell ⟨g, k * 2, none⟩ (.slice a3 (t.get k).xs.length c3)).setCell ⟨g, k * 2 + 1, none⟩ (.int .i64 (t.get k).last)) g ∧
      Mod No w ((w3.setCell ⟨g, k * 2, none⟩ (.slice a3 (t.get k).xs.length c3)).setCell ⟨g, k * 2 + 1, none⟩ (.int .i64 (t.get k).last)) ∧
      g < ((w3.setCell ⟨g, k * 2, none⟩ (.slice a3 (t.get k).xs.length c3)).setCell ⟨g, k * 2 + 1, none⟩ (.int .i64 (t.get k).last)).heap.size ∧
      (∀ i, i < k + 1 → (t2.get i).xs = (t.get i).xs ∧ (t2.get i).last = (t.get i).last) ∧ (∀ i, k + 1 ≤ i → i < 4 → t2.get i = ⟨.slice none 0 0, [], 0⟩) ∧ t2.room = t.room ∧ t2.fuse = t.fuse := by
  rw [Nat.zero_add, List.nil_append] at ho3
  simp only [Nat.zero_add] at hs3
  have hm3 : Mod No wr w3 := ((Mod.refl No wr).alloc o).drew.grown hg3 (by simp [Value.ownBlock])
  have hok3 := hok.mod0 hm3
  have hne : ∀ x, (Value.slice a3 (t.get k).xs.length c3).ownBlock = some x → g < x := fun x hx => by
    rcases hs3 x hx with h | h
    · simp [Value.ownBlock] at h
    · simp at h; omega
  refine ⟨t'.put ⟨.slice a3 (t.get k).xs.length c3, (t.get k).xs, (t.get k).last⟩ k, ?_, ?_, ?_, fun i hi => ?_, fun i hi hi4 => ?_, ?_, ?_⟩
  · refine hok.put k hk _ ((hm3.mono (fun _ _ x => x.elim)).setCell (p := ⟨g, k * 2, none⟩) (.inl (.inl rfl)) _ |>.setCell (p := ⟨g, k * 2 + 1, none⟩) (.inl (.inl rfl)) _) ?_ ?_ (fun _ x => x) ?_
    · have := (hok3.has.set (k * 2) (.slice a3 (t.get k).xs.length c3)).set (k * 2 + 1) (.int .i64 (t.get k).last)
      rwa [cells_put _ _ (t.get k).xs _ k hk] at this
    · refine ⟨owns_setCell_ne (owns_setCell_ne ho3 ?_ _) ?_ _, hl, hlen, hb, fun x hx => Nat.le_of_lt (hne x hx)⟩
      · intro e; exact Nat.lt_irrefl _ (hne g e)
      · intro e; exact Nat.lt_irrefl _ (hne g e)
    · intro x hx
      rcases hs3 x hx with h | h
      · simp [Value.ownBlock] at h
      · simp at h; exact .inr (by omega)
  · exact ((hm.trans hm3).setCell (p := ⟨g, k * 2, none⟩) (.inr (by simp; omega)) _).setCell (p := ⟨g, k * 2 + 1, none⟩) (.inr (by simp; omega)) _
  · have := hm3.size
    simp
    omega
  · rw [get_put _ _ _ _ hk (by omega)]
    split
    · rename_i e; subst e; exact ⟨rfl, rfl⟩
    · exact hA i (by omega)
  · rw [get_put _ _ _ _ hk hi4, if_neg (by omega)]
    exact hB i (by omega) hi4
  · rw [(put_room _ _ _).1, hr]
  · rw [(put_room _ _ _).2, hf]

theorem copy_any (b : Nat) (t : TTape) (S : Nat → Prop) (w : World) (h : t.ok S w b) :
    Calls Try.prog 32 #[.pointer (some ⟨b, 0, none⟩)] w fun e w' => ∃ g : Nat, e = .returned (.pointer (some ⟨g, 0, none⟩)) ∧ w.heap.size ≤ g ∧ ∃ t' : TTape, t'.ok (fun k => w.heap.size ≤ k) w' g ∧ Mod No w w' ∧
      (∀ i, i < 4 → (t'.get i).xs = (t.get i).xs ∧ (t'.get i).last = (t.get i).last) ∧ t'.room = t.room ∧ t'.fuse = t.fuse := by
  have hc8 := h.has.cell 8
  have hc9 := h.has.cell 9
  have hc := h.has.cell
  rw [show t.cells[8]? = some (.int .i64 t.room) from rfl] at hc8
  rw [show t.cells[9]? = some (.int .i64 t.fuse) from rfl] at hc9
  have H := hide h
  have HC := hide hc
  clear h hc
  go_enter Try.func32, Try.ntmps32
  go_wp2
  go_region
  have hm1 : Mod No w (w.alloc (.cells (⟨⟨.slice none 0 0, [], 0⟩, ⟨.slice none 0 0, [], 0⟩, ⟨.slice none 0 0, [], 0⟩, ⟨.slice none 0 0, [], 0⟩, t.room, t.fuse⟩ : TTape).cells 103)).drew := ((Mod.refl _ _).alloc _).drew
  have hn1 : Has (w.alloc (.cells (⟨⟨.slice none 0 0, [], 0⟩, ⟨.slice none 0 0, [], 0⟩, ⟨.slice none 0 0, [], 0⟩, ⟨.slice none 0 0, [], 0⟩, t.room, t.fuse⟩ : TTape).cells 103)).drew w.heap.size (⟨⟨.slice none 0 0, [], 0⟩, ⟨.slice none 0 0, [], 0⟩, ⟨.slice none 0 0, [], 0⟩, ⟨.slice none 0 0, [], 0⟩, t.room, t.fuse⟩ : TTape).cells 103 := Has.new _ _ _
  have hs1 : w.heap.size < (w.alloc (.cells (⟨⟨.slice none 0 0, [], 0⟩, ⟨.slice none 0 0, [], 0⟩, ⟨.slice none 0 0, [], 0⟩, ⟨.slice none 0 0, [], 0⟩, t.room, t.fuse⟩ : TTape).cells 103)).drew.heap.size := hn1.lt
  unfold TTape.cells at hm1 hn1 hs1
  simp only at hm1 hn1 hs1
  rw [show (((0 : Nat) : Int)) = 0 from rfl] at hm1 hn1 hs1
  generalize (w.alloc _).drew = W at hm1 hn1 hs1 ⊢
  have h1 := (unhide H).mod0 hm1
  have hc := h1.has.cell
  unfold TTape.cells at hc
  clear hc8 hc9
  have HN1 := hide hn1
  have HM1 := hide hm1
  clear hn1 hm1
  generalize hg : w.heap.size = g at *
  have HG := hide hg
  clear hg
  go_wp2
  clear hc
  go_loopw [20] (fun i wr => ∃ (k : Nat) (t' : TTape), k ≤ 4 ∧ i = .int .i64 k ∧ t'.ok (fun k => g ≤ k) wr g ∧ Mod No w wr ∧ g < wr.heap.size ∧
      (∀ i, i < k → (t'.get i).xs = (t.get i).xs ∧ (t'.get i).last = (t.get i).last) ∧ (∀ i, k ≤ i → i < 4 → t'.get i = ⟨.slice none 0 0, [], 0⟩) ∧ t'.room = t.room ∧ t'.fuse = t.fuse) (fun i _ => 4 - (intOf i).toNat)
  case atStart =>
    refine ⟨0, ⟨⟨.slice none 0 0, [], 0⟩, ⟨.slice none 0 0, [], 0⟩, ⟨.slice none 0 0, [], 0⟩, ⟨.slice none 0 0, [], 0⟩, t.room, t.fuse⟩, by omega, rfl, ?_, unhide HM1, hs1, fun i hi => by omega, fun i _ hi => ?_, rfl, rfl⟩
    · have e : ∀ W : World, (⟨.slice none 0 0, [], 0⟩ : TFile).ok (fun k => g ≤ k) W := fun W =>
        ⟨World.ownsRow_nil _ _ _ _, by simp, by simp, fun x hx => by simp at hx, fun k hk => by simp [Value.ownBlock] at hk⟩
      have a : (⟨.slice none 0 0, [], 0⟩ : TFile).apart ⟨.slice none 0 0, [], 0⟩ := fun k hk => by simp [Value.ownBlock] at hk
      exact ⟨unhide HN1, Nat.le_refl _, e _, e _, e _, e _, a, a, a, a, a, a⟩
    · match i, hi with
      | 0, _ => rfl
      | 1, _ => rfl
      | 2, _ => rfl
      | 3, _ => rfl
  case round =>
    obtain ⟨k, t', hk, rfl, hok, hm, hgl, hA, hB, hr, hf⟩ := hrel
    by_cases hlt : k < 4
    · have hki : (k : Int) < 4 := by omega
      obtain ⟨ak, ck, hvk, hlk⟩ := slice_form (((unhide H).get k hlt).mod0 hm)
      have HOK := hide hok
      have HM := hide hm
      have HA := hide hA
      have HB := hide hB
      have HR := hide hr
      have HF := hide hf
      clear hok hm hA hB hr hf
      have hread : Reads (wr.alloc (.cells #[.slice ak (t.get k).xs.length ck, .int .i64 (t.get k).last] 100)) (.slice ak (t.get k).xs.length ck) (t.get k).xs.length (t.get k).xs := by
        have := (reads_of_owns ((((unhide H).get k hlt).mod0 (unhide HM)).mod0 ((Mod.refl No wr).alloc (.cells #[.slice ak (t.get k).xs.length ck, .int .i64 (t.get k).last] 100))).owns)
        rwa [hvk] at this
      have hhas : Has (wr.alloc (.cells #[.slice ak (t.get k).xs.length ck, .int .i64 (t.get k).last] 100)) g t'.cells 103 := (unhide HOK).has.alloc _
      have hone : ∀ u ∈ (t.get k).xs, u.oneCell' = true := fun u hu => by obtain ⟨n, rfl, _⟩ := (h1.get k hlt).bytes u hu; rfl
      have hlen := (h1.get k hlt).len
      have hnew : Has (wr.alloc (.cells #[.slice ak (t.get k).xs.length ck, .int .i64 (t.get k).last] 100)) wr.heap.size #[.slice ak (t.get k).xs.length ck, .int .i64 (t.get k).last] 100 := Has.new _ _ _
      have HNEW := hide hnew
      clear hnew
      have HREAD := hide hread
      have HHAS := hide hhas
      have HONE := hide hone
      have H1 := hide h1
      clear hread hhas hone h1
      obtain ⟨i5, q0, q1, q2, q3⟩ := info_parts info5
      go_wp2_with fail
      go_region_law (refine step_append_row rfl (.const (.slice none 0 0)) (.tmp 27) 96 rfl 5 i5 (.int .u8 0) 1 1 Try.underlying96 q0 q1 q2 q3 rfl (by decide) (.slice none 0 0) 0 [] (by simp [Act.eval, Act.put]) (by exact World.ownsRow_nil _ _ _ _) (.slice ak (t.get k).xs.length ck) (t.get k).xs.length (t.get k).xs (by simp [Act.eval, Act.put]) (by exact unhide HREAD) (by omega) (unhide HONE) (by unfold maxLen; omega) (by omega) ?_; intro v' w3 ho3 hg3 hs3; obtain ⟨a3, c3, rfl⟩ := slice_of_owns ho3; have hk3 : Has w3 g _ 103 := Has.grown (w := (wr.alloc _).drew) (by exact unhide HHAS) hg3 (by simp [Value.ownBlock]); have hf3 := (Has.grown (w := (wr.alloc _).drew) (by exact unhide HNEW) hg3 (by simp [Value.ownBlock])).cell 1; simp only [List.getElem?_toArray, List.getElem?_cons_succ, List.getElem?_cons_zero] at hf3; have hc3 := hk3.cell (k * 2); have hc3' := hk3.cell (k * 2 + 1); have hz3 := hk3.frozen; rw [(cells_v _ k hlt).1] at hc3; rw [(cells_v _ k hlt).2] at hc3')
      all_goals go_wp2
      all_goals
        have hend := copy_step (hs3 := hs3) (hg3 := hg3) (ho3 := ho3) (unhide HOK) (unhide HM) (unhide HG) hgl hlt (unhide HA) (unhide HB) (unhide HR) (unhide HF) ((unhide H).get k hlt).last hlen ((unhide H).get k hlt).bytes
        obtain ⟨t2, r1, r2, r3, r4, r5, r6, r7⟩ := hend
        refine ⟨⟨k + 1, t2, by omega, by go_num, r1, r2, r3, r4, r5, r6, r7⟩, ?_⟩
        simp [intOf]
        omega
    · have hki : ¬ (k : Int) < 4 := by omega
      obtain rfl : k = 4 := by omega
      go_wp2
      go_ret
      refine ⟨g, rfl, by rw [unhide HG]; exact Nat.le_refl _, t', ?_, hm, hA, hr, hf⟩
      rw [unhide HG]
      exact hok
end Go.Proofs.Ythhibagcpjeihaa
/- Two rows of bytes compared; the fall. -/
namespace Go.Proofs.Ythhibagcpjeihaa
open Go.RowKit
set_option linter.unusedVariables false
set_option linter.unusedSimpArgs false
set_option maxRecDepth 100000

theorem is_len (w : World) (a b : Option Addr) (n m c d : Nat) (hn : n ≤ 17592186044416) (hm : m ≤ 17592186044416) (h : n ≠ m) :
    Calls Try.prog 39 #[.slice a n c, .slice b m d] w fun e w' => e = .returned (.bool false) ∧ w' = w := by
  have h' : ((n : Int) != (m : Int)) = true := by simp; omega
  go_enter Try.func39, Try.ntmps39
  go_wp2
  go_ret
  exact ⟨rfl, rfl⟩

/-- The bytes at an address. -/
def At (w : World) (a : Option Addr) (n : Nat) (zs : Nat → Int) : Prop := ∀ j, j < n → ∃ p, a = some p ∧ w.cell? (p.add j) = some (.int .u8 (zs j))

theorem is_core (w : World) (b1 b2 o1 o2 n c d : Nat) (zs ys : Nat → Int) (hn : n ≤ 17592186044416)
    (hz : ∀ j, j < n → w.cell? ⟨b1, o1 + j, none⟩ = some (.int .u8 (zs j))) (hy : ∀ j, j < n → w.cell? ⟨b2, o2 + j, none⟩ = some (.int .u8 (ys j))) :
    Calls Try.prog 39 #[.slice (some ⟨b1, o1, none⟩) n c, .slice (some ⟨b2, o2, none⟩) n d] w fun e w' => e = .returned (.bool (decide (∀ j, j < n → zs j = ys j))) ∧ Mod No w w' := by
  have HZ := hide hz
  have HY := hide hy
  clear hz hy
  have h' : ((n : Int) != (n : Int)) = false := by simp
  go_enter Try.func39, Try.ntmps39
  go_wp2
  go_loopw [5] (fun i wr => ∃ k : Nat, k ≤ n ∧ i = .int .i64 k ∧ (∀ j, j < k → zs j = ys j) ∧ Mod No w wr) (fun i _ => n - (intOf i).toNat)
  case atStart => exact ⟨0, Nat.zero_le _, rfl, fun j hj => by omega, Mod.refl _ _⟩
  case round =>
    obtain ⟨k, hk, rfl, hA, hm⟩ := hrel
    have HA := hide hA
    have HM := hide hm
    clear hA hm
    by_cases hlt : k < n
    · have hlt' : (k : Int) < n := by omega
      have c1 := (unhide HZ) k hlt
      have c2 := (unhide HY) k hlt
      have c1' : wr.cell? ⟨b1, o1 + k, none⟩ = some (.int .u8 (zs k)) := by
        rw [World.cell?_of_block (w := w) ((unhide HM).block _ (World.block_lt_of_cell? w _ c1) (fun x => x))]; exact c1
      have c2' : wr.cell? ⟨b2, o2 + k, none⟩ = some (.int .u8 (ys k)) := by
        rw [World.cell?_of_block (w := w) ((unhide HM).block _ (World.block_lt_of_cell? w _ c2) (fun x => x))]; exact c2
      clear c1 c2
      by_cases he : zs k = ys k
      · have HE := hide he
        have he' : (zs k != ys k) = false := by simp [he]
        clear he
        go_wp2
        go_quiet (fail)
        go_wp2
        refine ⟨⟨k + 1, by omega, by go_num, fun j hj => ?_, (unhide HM).drewN _⟩, by simp [intOf]; omega⟩
        rcases Nat.lt_or_ge j k with h | h
        · exact (unhide HA) j h
        · obtain rfl : j = k := by omega
          exact unhide HE
      · have he' : (zs k != ys k) = true := by simp [he]
        have HE := hide he
        clear he
        go_wp2
        go_quiet (fail)
        go_wp2
        go_ret
        refine ⟨?_, (unhide HM).drewN _⟩
        have hd : decide (∀ j, j < n → zs j = ys j) = false := decide_eq_false (fun h => (unhide HE) (h k hlt))
        rw [hd]
        rfl
    · obtain rfl : k = n := by omega
      go_wp2
      go_ret
      refine ⟨?_, unhide HM⟩
      have hd : decide (∀ j, j < k → zs j = ys j) = true := decide_eq_true (unhide HA)
      rw [hd]
      rfl

theorem is_zero (w : World) (a b : Option Addr) (c d : Nat) :
    Calls Try.prog 39 #[.slice a 0 c, .slice b 0 d] w fun e w' => e = .returned (.bool true) ∧ w' = w := by
  go_enter Try.func39, Try.ntmps39
  go_wp2
  go_loop [5] (fun i => i = .int .i64 0) (fun _ => 0)
  case atStart => rfl
  case round =>
    subst hrel
    go_wp2
    go_ret
    exact ⟨rfl, rfl⟩

def bytesOf (l : List Int) : List Value := l.map (Value.int .u8)

theorem is_any (w : World) (v1 v2 : Value) (l1 l2 : List Int) (h1 : w.ownsRow 0 5 1 v1 l1.length (bytesOf l1)) (h2 : w.ownsRow 0 5 1 v2 l2.length (bytesOf l2))
    (b1 : l1.length ≤ 17592186044416) (b2 : l2.length ≤ 17592186044416) :
    Calls Try.prog 39 #[v1, v2] w fun e w' => e = .returned (.bool (decide (l1 = l2))) ∧ Mod No w w' := by
  obtain ⟨a1, c1, e1⟩ := slice_of_owns h1
  obtain ⟨a2, c2, e2⟩ := slice_of_owns h2
  by_cases hlen : l1.length = l2.length
  · by_cases hz : l1.length = 0
    · have hz2 : l2.length = 0 := by omega
      have e : l1 = l2 := by rw [List.eq_nil_of_length_eq_zero hz, List.eq_nil_of_length_eq_zero hz2]
      rw [e1, e2, hz, hz2]
      refine (is_zero w a1 a2 c1 c2).mono ?_
      rintro e' w' ⟨rfl, rfl⟩
      exact ⟨by rw [decide_eq_true e], Mod.refl _ _⟩
    · rcases h1.2 with ⟨_, h0⟩ | ⟨g1, cap1, cur1, hv1, _⟩
      · exact absurd h0 hz
      rcases h2.2 with ⟨_, h0⟩ | ⟨g2, cap2, cur2, hv2, _⟩
      · omega
      rw [hv1, hv2, ← hlen]
      have k1 : ∀ j, j < l1.length → w.cell? ⟨g1, 0 + j, none⟩ = some (.int .u8 (l1.getD j 0)) := fun j hj => by
        have := h1.cells (g := g1) (by rw [hv1]; rfl) j (.int .u8 (l1.getD j 0)) (by simp [bytesOf, hj])
        rw [show (⟨g1, 0 + j, none⟩ : Addr) = (⟨g1, 0, none⟩ : Addr).add j from by unfold Addr.add; split <;> simp_all]
        exact this
      have k2 : ∀ j, j < l1.length → w.cell? ⟨g2, 0 + j, none⟩ = some (.int .u8 (l2.getD j 0)) := fun j hj => by
        have := h2.cells (g := g2) (by rw [hv2]; rfl) j (.int .u8 (l2.getD j 0)) (by simp [bytesOf, show j < l2.length by omega])
        rw [show (⟨g2, 0 + j, none⟩ : Addr) = (⟨g2, 0, none⟩ : Addr).add j from by unfold Addr.add; split <;> simp_all]
        exact this
      refine (is_core w g1 g2 0 0 l1.length cap1 cap2 (fun j => l1.getD j 0) (fun j => l2.getD j 0) b1 k1 k2).mono ?_
      rintro e' w' ⟨rfl, hm⟩
      refine ⟨?_, hm⟩
      congr 2
      apply decide_eq_decide.2
      constructor
      · intro h
        apply List.ext_getElem hlen
        intro j hj hj2
        have := h j hj
        simpa [hj, hj2] using this
      · rintro rfl
        intro j _
        rfl
  · rw [e1, e2]
    refine (is_len w a1 a2 l1.length l2.length c1 c2 b1 b2 hlen).mono ?_
    rintro e' w' ⟨rfl, rfl⟩
    exact ⟨by rw [decide_eq_false (fun e => hlen (by rw [e]))], Mod.refl _ _⟩
end Go.Proofs.Ythhibagcpjeihaa
