import Derived.Test.YtlcbemcamdafjaaCnamesTape2
import Derived.Test.YtlcbemcamdafjaaCnamesAppend
/- The tape's methods, continued: syncing, clearing, appending. -/
namespace Go.Proofs.Ytlcbemcamdafjaa
open Go.RowKit
set_option linter.unusedVariables false
set_option linter.unusedSimpArgs false

theorem put_fuse (t : TTape) (f : TFile) (x : Int) (i : Nat) : ({ t.put f i with fuse := x } : TTape) = ({ t with fuse := x } : TTape).put f i := by
  unfold TTape.put
  split <;> rfl
theorem get_fuse (t : TTape) (x : Int) (i : Nat) : ({ t with fuse := x } : TTape).get i = t.get i := by
  unfold TTape.get
  split <;> rfl

theorem TTape.ok.last {S : Nat → Prop} {w : World} {b : Nat} {t : TTape} (h : t.ok S w b) (i : Nat) (hi : i < 4) (n : Nat) (hn : n ≤ (t.get i).xs.length) :
    (t.put ⟨(t.get i).v, (t.get i).xs, n⟩ i).ok S (w.setCell ⟨b, i * 2 + 1, none⟩ (.int .i64 n)) b := by
  have hg := h.get i hi
  refine h.put i hi _ (Mod.setCell (Mod.refl _ w) (p := ⟨b, i * 2 + 1, none⟩) (.inl (.inl rfl)) _) ?_ ?_ (fun _ x => x) (fun k hk => .inl hk)
  · have := h.has.set (i * 2 + 1) (.int .i64 n)
    rwa [cells_put_l t (t.get i).xs n i hi] at this
  · exact ⟨owns_setCell_ne hg.owns (by simpa using hg.ne h.has) _, hn, hg.len, hg.bytes, hg.inn⟩

theorem sync_core (b : Nat) (t : TTape) (i : Nat) (hi : i < 4) (S : Nat → Prop) (w : World) (h : t.ok S w b)
    (hf : -4611686018427387904 ≤ t.fuse ∧ t.fuse ≤ 4611686018427387904) (h0 : t.fuse ≠ 0) :
    Calls Try.prog 30 #[.pointer (some ⟨b, 0, none⟩), .int .i64 i] w fun e w' => e = .returned (.bool true) ∧
      ({ t.put ⟨(t.get i).v, (t.get i).xs, (t.get i).xs.length⟩ i with fuse := burnt t.fuse } : TTape).ok S w' b ∧ Mod (· = b) w w' := by
  have hburn := fun W (hW : t.ok S W b) => burn_any b t W hW hf
  simp only [ne_eq, h0, not_false_eq_true, decide_true] at hburn
  have H := hide h
  have HB := hide hburn
  clear hburn h
  have hi' : (i : Int) < 4 := by omega
  go_enter Try.func30, Try.ntmps30
  go_wp2_with fail
  refine ((unhide HB) _ (unhide H)).mono ?_
  rintro e w1 ⟨rfl, h1, m1⟩
  have hc := h1.has.cell (i * 2)
  have hc' := h1.has.cell (i * 2 + 1)
  have hz := h1.has.frozen
  rw [(cells_v _ i hi).1] at hc
  rw [(cells_v _ i hi).2] at hc'
  obtain ⟨a0, c0, e0, m0⟩ := slice_form (h1.get i hi)
  rw [e0] at hc
  have H1 := hide h1
  have M1 := hide m1
  have E0 := hide e0
  clear h1 m1 e0
  generalize hn : ((({ t with fuse := burnt t.fuse } : TTape).get i).xs.length) = n at *
  have HN := hide hn
  clear hn
  go_wp2_with fail
  go_region
  all_goals
    go_wp2
    go_ret
    refine ⟨rfl, ?_, Mod.trans (unhide M1) (Mod.setCell (S := fun k => k = b) (Mod.refl _ w1) (p := ⟨b, i * 2 + 1, none⟩) (.inl rfl) _).drew⟩
    rw [put_fuse]
    have hl := TTape.ok.last (unhide H1) i hi n (by rw [unhide HN]; exact Nat.le_refl _)
    have hn := unhide HN
    rw [get_fuse] at hn hl
    rw [hn]
    exact hl.mod0 (Mod.refl No _).drew

theorem sync_dead (b : Nat) (t : TTape) (i : Nat) (hi : i < 4) (S : Nat → Prop) (w : World) (h : t.ok S w b) (h0 : t.fuse = 0) :
    Calls Try.prog 30 #[.pointer (some ⟨b, 0, none⟩), .int .i64 i] w fun e w' => e = .returned (.bool false) ∧ t.ok S w' b ∧ Mod (· = b) w w' := by
  have hburn := fun W (hW : t.ok S W b) => burn_any b t W hW (by omega)
  simp only [ne_eq, h0, not_true_eq_false, decide_false] at hburn
  have H := hide h
  have HB := hide hburn
  have h0' := hide h0
  clear hburn h h0
  have hi' : (i : Int) < 4 := by omega
  go_enter Try.func30, Try.ntmps30
  go_wp2_with fail
  refine ((unhide HB) _ (unhide H)).mono ?_
  rintro e w1 ⟨rfl, h1, m1⟩
  have H1 := hide h1
  have M1 := hide m1
  clear h1 m1
  go_wp2
  go_ret
  have h2 := unhide H1
  rw [show burnt 0 = 0 from rfl] at h2
  refine ⟨rfl, ?_, unhide M1⟩
  have e : ({ t with fuse := 0 } : TTape) = t := by cases t; simp only at h0'; rw [unhide h0']
  rw [e] at h2
  exact h2

theorem Mod.reads {S : Nat → Prop} {w w' : World} (hm : Mod S w w') {x : Value} {m : Nat} {news : List Value} (h : Reads w x m news) (hs : ∀ k, x.ownBlock = some k → ¬ S k) : Reads w' x m news := h.mod hm hs

theorem slice_of_owns {w : World} {base : Nat} {e : TypeId} {size : Nat} {v : Value} {n : Nat} {xs : List Value} (h : w.ownsRow base e size v n xs) : ∃ a cap, v = .slice a n cap := by
  rcases h.2 with ⟨h1, h2⟩ | ⟨g, cap, cur, hv, _⟩
  · exact ⟨none, 0, by rw [h1, h2]⟩
  · exact ⟨_, cap, hv⟩

theorem info5 : (Try.prog.info? 5).map (fun i => (i.zero, i.size, i.bytes)) = some (some (.int .u8 0), 1, 1) := by kernel_rfl

theorem TTape.ok.row {S : Nat → Prop} {w w1 : World} {b : Nat} {t : TTape} (h : t.ok S w b) (i : Nat) (hi : i < 4) (v' : Value) (xs' : List Value)
    (hg : w.grownBy w1 (t.get i).v.ownBlock) (ho : w1.ownsRow 0 5 1 v' xs'.length xs') (hst : Stays w (t.get i).v v')
    (hl : (t.get i).last ≤ xs'.length) (hlen : xs'.length ≤ 17592186044416) (hb : ∀ x ∈ xs', ∃ n : Int, x = .int .u8 n ∧ 0 ≤ n ∧ n < 256) :
    (t.put ⟨v', xs', (t.get i).last⟩ i).ok (fun k => S k ∨ w.heap.size ≤ k) (w1.setCell ⟨b, i * 2, none⟩ v') b ∧ Mod S w (w1.setCell ⟨b, i * 2, none⟩ v') := by
  have hgi := h.get i hi
  have hm1 : Mod (Touch b (t.get i)) w w1 := (Mod.refl _ w).grown hg (fun k hk => .inl (.inr hk))
  have hm : Mod (Touch b (t.get i)) w (w1.setCell ⟨b, i * 2, none⟩ v') := hm1.setCell (p := ⟨b, i * 2, none⟩) (.inl (.inl rfl)) _
  have hh1 : Has w1 b t.cells 96 := by
    unfold Has
    rw [hg.block b h.has.lt (fun e => hgi.ne h.has e.symm)]
    exact h.has
  have hne : v'.ownBlock ≠ some b := fun e => by
    rcases hst b e with h1 | h1
    · exact hgi.ne h.has h1
    · have := h.has.lt; omega
  refine ⟨h.put i hi _ hm ?_ ?_ (fun k hk => .inl hk) hst, hm.mono (fun k hk hT => ?_)⟩
  · have := hh1.set (i * 2) v'
    rwa [cells_put_v t v' xs' i hi] at this
  · refine ⟨owns_setCell_ne ho (by simpa using hne) _, hl, hlen, hb, fun k hk => ?_⟩
    rcases hst k hk with h1 | h1
    · exact .inl (hgi.inn k h1)
    · exact .inr h1
  · rcases hT with rfl | hT
    · exact h.inn
    · exact hgi.inn k hT

theorem append_no (b : Nat) (t : TTape) (i : Nat) (hi : i < 4) (S : Nat → Prop) (w : World) (h : t.ok S w b) (xa : Option Addr) (m c : Nat) (hm : m ≤ 17592186044416) (hno : t.room < t.used + m) :
    Calls Try.prog 29 #[.pointer (some ⟨b, 0, none⟩), .int .i64 i, .slice xa m c] w fun e w' => e = .returned (.bool false) ∧ Mod No w w' := by
  have hfits := fits_any b t m w h (by omega) (by omega)
  have hd : decide ((t.used : Int) + m ≤ t.room) = false := by simp; omega
  rw [hd] at hfits
  have HF := hide hfits
  clear hfits h hd hno
  have hi' : (i : Int) < 4 := by omega
  go_enter Try.func29, Try.ntmps29
  go_wp2_with fail
  refine (unhide HF).mono ?_
  rintro e w1 ⟨rfl, m1⟩
  have M1 := hide m1
  clear m1
  go_wp2
  go_ret
  exact ⟨rfl, unhide M1⟩

set_option maxRecDepth 100000 in
theorem append_yes (b : Nat) (t : TTape) (i : Nat) (hi : i < 4) (S : Nat → Prop) (w : World) (h : t.ok S w b) (xa : Option Addr) (m c : Nat) (news : List Value)
    (hx : Reads w (.slice xa m c) m news) (hxb : (Value.slice xa m c).ownBlock ≠ some b) (hn : news.length = m) (hu : ∀ x ∈ news, ∃ n : Int, x = .int .u8 n ∧ 0 ≤ n ∧ n < 256)
    (hm : (t.get i).xs.length + m ≤ 17592186044416) (hroom : t.used + m ≤ t.room)
    (hf : -4611686018427387904 ≤ t.fuse ∧ t.fuse ≤ 4611686018427387904) (h0 : t.fuse ≠ 0) :
    Calls Try.prog 29 #[.pointer (some ⟨b, 0, none⟩), .int .i64 i, .slice xa m c] w fun e w' => e = .returned (.bool true) ∧
      (∃ v', ({ t.put ⟨v', (t.get i).xs ++ news, (t.get i).last⟩ i with fuse := burnt t.fuse } : TTape).ok (fun k => S k ∨ w.heap.size ≤ k) w' b) ∧ Mod S w w' := by
  have hfits := fits_any b t m w h (by omega) (by omega)
  have hd : decide ((t.used : Int) + m ≤ t.room) = true := by simp; omega
  rw [hd] at hfits
  have HF := hide hfits
  have hburn := fun W (hW : t.ok S W b) => burn_any b t W hW hf
  simp only [ne_eq, h0, not_false_eq_true, decide_true] at hburn
  have H := hide h
  have HB := hide hburn
  have HX := hide hx
  have HXB := hide hxb
  have HN := hide hn
  have HU := hide hu
  clear hfits h hd hburn hx hxb hn hu
  have hi' : (i : Int) < 4 := by omega
  obtain ⟨i5, q0, q1, q2, q3⟩ := info_parts info5
  go_enter Try.func29, Try.ntmps29
  go_wp2_with fail
  refine (unhide HF).mono ?_
  rintro e w1 ⟨rfl, m1⟩
  have H1 := hide ((unhide H).mod0 m1)
  have HX1 := hide ((unhide HX).mod m1 (fun _ _ x => x))
  have M1 := hide m1
  clear m1
  go_wp2_with fail
  refine ((unhide HB) _ (unhide H1)).mono ?_
  rintro e w2 ⟨rfl, h2, m2⟩
  have hx2 := (unhide HX1).mod m2 (fun k hk e => (unhide HXB) (by rw [hk, e]))
  have M2 := hide m2
  have hc := h2.has.cell (i * 2)
  have hz := h2.has.frozen
  rw [(cells_v _ i hi).1] at hc
  have hh2 := h2.has
  have g2 := h2.get i hi
  rw [get_fuse] at hc g2
  have hown := g2.owns
  have hne := g2.ne hh2
  have H2 := hide h2
  have G2 := hide g2
  have HX2 := hide hx2
  have HH2 := hide hh2
  have HO := hide hown
  have HNE := hide hne
  clear h2 m2 hx2 hh2 g2 hown hne
  have hone : ∀ u ∈ news, u.oneCell' = true := fun u hu => by obtain ⟨n, rfl, _⟩ := (unhide HU) u hu; rfl
  have HONE := hide hone
  clear hone
  go_wp2_with fail
  go_region_law (refine step_append_row rfl (.tmp 33) (.tmp 34) 83 rfl 5 i5 (.int .u8 0) 1 1 Try.underlying83 q0 q1 q2 q3 rfl (by decide) (t.get i).v (t.get i).xs.length (t.get i).xs (by simp [Act.eval, Act.put]) (by exact unhide HO) (.slice xa m c) m news (by simp [Act.eval, Act.put]) (by exact unhide HX2) (by rw [unhide HN]; omega) (unhide HONE) (by unfold maxLen; omega) (by omega) ?_; intro v' w3 ho3 hg3 hs3; obtain ⟨a3, c3, rfl⟩ := slice_of_owns ho3; have hk3 : Has w3 b _ 96 := (by unfold Has; rw [hg3.block b (unhide HH2).lt (fun e => (unhide HNE) e.symm)]; exact unhide HH2); have hc3 := hk3.cell (i * 2); have hz3 := hk3.frozen; rw [(cells_v _ i hi).1] at hc3)
  all_goals
    go_wp2
    go_ret
  have hlen : (t.get i).xs.length + m = ((t.get i).xs ++ news).length := by rw [List.length_append, unhide HN]
  have hin := unhide H
  have hgi := hin.get i hi
  have key := @TTape.ok.row S w2.drew w3 b { t with fuse := burnt t.fuse } ((unhide H2).mod0 (Mod.refl No _).drew) i hi _ ((t.get i).xs ++ news) (by rw [get_fuse]; exact hg3)
    (by rw [← hlen]; exact ho3) (by rw [get_fuse]; exact hs3) (by rw [get_fuse]; have := hgi.last; rw [List.length_append]; omega) (by rw [← hlen]; exact hm)
    (fun x hx => by
      rcases List.mem_append.1 hx with h | h
      · exact hgi.bytes x h
      · exact (unhide HU) x h)
  simp only [get_fuse] at key
  have s1 := (unhide M1).size
  have s2 := (unhide M2).size
  have mm1 : Mod S w w1 := (unhide M1).mono (fun _ _ x => x.elim)
  have mm2 : Mod S w1 w2 := (unhide M2).mono (fun k _ e => by rw [e]; exact hin.inn)
  refine ⟨rfl, ⟨.slice a3 ((t.get i).xs.length + m) c3, ?_⟩, (mm1.trans mm2).drew.trans key.2⟩
  rw [put_fuse]
  refine key.1.wide (fun k hk => ?_)
  rcases hk with hk | hk
  · exact .inl hk
  · refine .inr (Nat.le_trans (Nat.le_trans s1 s2) ?_)
    simpa using hk

theorem append_bad (b : Nat) (i : Int) (hi : i < 0 ∨ 4 ≤ i) (w : World) (xa : Option Addr) (m c : Nat) :
    Calls Try.prog 29 #[.pointer (some ⟨b, 0, none⟩), .int .i64 i, .slice xa m c] w fun e w' => e = .returned (.bool false) ∧ w' = w := by
  rcases hi with hi | hi
  · go_enter Try.func29, Try.ntmps29
    go_wp2
    go_ret
    exact ⟨rfl, rfl⟩
  · have hi2 : ¬ i < 0 := by omega
    go_enter Try.func29, Try.ntmps29
    go_wp2
    go_ret
    exact ⟨rfl, rfl⟩

theorem append_dead (b : Nat) (t : TTape) (i : Nat) (hi : i < 4) (S : Nat → Prop) (w : World) (h : t.ok S w b) (xa : Option Addr) (m c : Nat) (hm : m ≤ 17592186044416) (hroom : t.used + m ≤ t.room) (h0 : t.fuse = 0) :
    Calls Try.prog 29 #[.pointer (some ⟨b, 0, none⟩), .int .i64 i, .slice xa m c] w fun e w' => e = .returned (.bool false) ∧ t.ok S w' b ∧ Mod S w w' := by
  have hfits := fits_any b t m w h (by omega) (by omega)
  have hd : decide ((t.used : Int) + m ≤ t.room) = true := by simp; omega
  rw [hd] at hfits
  have HF := hide hfits
  have hburn := fun W (hW : t.ok S W b) => burn_any b t W hW (by omega)
  simp only [ne_eq, h0, not_true_eq_false, decide_false] at hburn
  have H := hide h
  have HB := hide hburn
  have h0' := hide h0
  clear hfits h hd hburn h0
  have hi' : (i : Int) < 4 := by omega
  go_enter Try.func29, Try.ntmps29
  go_wp2_with fail
  refine (unhide HF).mono ?_
  rintro e w1 ⟨rfl, m1⟩
  have H1 := hide ((unhide H).mod0 m1)
  have M1 := hide m1
  clear m1
  go_wp2_with fail
  refine ((unhide HB) _ (unhide H1)).mono ?_
  rintro e w2 ⟨rfl, h2, m2⟩
  have H2 := hide h2
  have M2 := hide m2
  clear h2 m2
  go_wp2
  go_ret
  have h2 := unhide H2
  rw [show burnt 0 = 0 from rfl] at h2
  have e : ({ t with fuse := 0 } : TTape) = t := by cases t; simp only at h0'; rw [unhide h0']
  rw [e] at h2
  exact ⟨rfl, h2, ((unhide M1).mono (fun _ _ x => x.elim)).trans ((unhide M2).mono (fun k _ e => by rw [e]; exact (unhide H).inn))⟩

/-- All its blocks are there. -/
theorem TTape.ok.narrow {S : Nat → Prop} {w : World} {b : Nat} {t : TTape} (h : t.ok S w b) : t.ok (fun k => S k ∧ k < w.heap.size) w b := by
  have f : ∀ g : TFile, g.ok S w → g.ok (fun k => S k ∧ k < w.heap.size) w := fun g hg => ⟨hg.owns, hg.last, hg.len, hg.bytes, fun k hk => ⟨hg.inn k hk, (hg.owns.lt k hk).2⟩⟩
  exact ⟨h.has, ⟨h.inn, h.has.lt⟩, f _ h.k0, f _ h.k1, f _ h.k2, f _ h.k3, h.a01, h.a02, h.a03, h.a12, h.a13, h.a23⟩
end Go.Proofs.Ytlcbemcamdafjaa
