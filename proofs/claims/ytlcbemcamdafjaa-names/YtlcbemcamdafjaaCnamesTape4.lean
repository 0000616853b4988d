import Derived.Test.YtlcbemcamdafjaaCnamesTape3
/- The tape's methods, continued: clearing, reading, copying; two rows of bytes compared. -/
namespace Go.Proofs.Ytlcbemcamdafjaa
open Go.RowKit
set_option linter.unusedVariables false
set_option linter.unusedSimpArgs false
set_option maxRecDepth 100000

theorem clear_yes (b : Nat) (t : TTape) (i : Nat) (hi : i < 4) (S : Nat → Prop) (w : World) (h : t.ok S w b)
    (hf : -4611686018427387904 ≤ t.fuse ∧ t.fuse ≤ 4611686018427387904) (h0 : t.fuse ≠ 0) :
    Calls Try.prog 36 #[.pointer (some ⟨b, 0, none⟩), .int .i64 i] w fun e w' => e = .returned (.bool true) ∧
      ({ t.put ⟨.slice none 0 0, [], 0⟩ i with fuse := burnt t.fuse } : TTape).ok S w' b ∧ Mod (· = b) w w' := by
  have hburn := fun W (hW : t.ok S W b) => burn_any b t W hW hf
  simp only [ne_eq, h0, not_false_eq_true, decide_true] at hburn
  have H := hide h
  have HB := hide hburn
  clear hburn h
  have hi' : (i : Int) < 4 := by omega
  go_enter Try.func36, Try.ntmps36
  go_wp2_with fail
  refine ((unhide HB) _ (unhide H)).mono ?_
  rintro e w1 ⟨rfl, h1, m1⟩
  have hc := h1.has.cell (i * 2)
  have hc' := h1.has.cell (i * 2 + 1)
  have hz := h1.has.frozen
  rw [(cells_v _ i hi).1] at hc
  rw [(cells_v _ i hi).2] at hc'
  have H1 := hide h1
  have M1 := hide m1
  clear h1 m1
  go_wp2
  go_ret
  have h1 := unhide H1
  refine ⟨rfl, ?_, ((unhide M1).setCell (p := ⟨b, i * 2, none⟩) (.inl rfl) _).setCell (p := ⟨b, i * 2 + 1, none⟩) (.inl rfl) _⟩
  rw [put_fuse]
  refine h1.put i hi _ (((Mod.refl _ w1).setCell (p := ⟨b, i * 2, none⟩) (.inl (.inl rfl)) _).setCell (p := ⟨b, i * 2 + 1, none⟩) (.inl (.inl rfl)) _) ?_ ?_ (fun _ x => x) (fun k hk => by simp [Value.ownBlock] at hk)
  · have := (h1.has.set (i * 2) (.slice none 0 0)).set (i * 2 + 1) (.int .i64 0)
    rwa [show (Value.int .i64 0) = Value.int .i64 ((0 : Nat) : Int) from rfl, cells_put _ (.slice none 0 0) [] 0 i hi] at this
  · exact ⟨World.ownsRow_nil _ _ _ _, by simp, by simp, fun x hx => by simp at hx, fun k hk => by simp [Value.ownBlock] at hk⟩

theorem read_any (b : Nat) (t : TTape) (i : Nat) (hi : i < 4) (S : Nat → Prop) (w : World) (h : t.ok S w b) :
    Calls Try.prog 32 #[.pointer (some ⟨b, 0, none⟩), .int .i64 i] w fun e w' => ∃ v, e = .returned v ∧ w'.ownsRow 0 5 1 v (t.get i).xs.length (t.get i).xs ∧ Stays w (.slice none 0 0) v ∧ Mod No w w' := by
  have hi' : (i : Int) < 4 := by omega
  have hc := h.has.cell (i * 2)
  rw [(cells_v _ i hi).1] at hc
  have hg := h.get i hi
  have hr := reads_of_owns hg.owns
  have HR := hide hr
  have hone : ∀ u ∈ (t.get i).xs, u.oneCell' = true := fun u hu => by obtain ⟨n, rfl, _⟩ := hg.bytes u hu; rfl
  have HONE := hide hone
  have hlen := hg.len
  clear hone hr hg h
  obtain ⟨i5, q0, q1, q2, q3⟩ := info_parts info5
  go_enter Try.func32, Try.ntmps32
  go_wp2_with (first | (at_builtin; refine wpList_append_row rfl (.const (.slice none 0 0)) (.tmp 17) 83 rfl 5 i5 (.int .u8 0) 1 1 Try.underlying83 q0 q1 q2 q3 rfl (by decide) (.slice none 0 0) 0 [] (by simp [Act.eval]) (by exact World.ownsRow_nil _ _ _ _) (t.get i).v (t.get i).xs.length (t.get i).xs (by simp [Act.eval]) (by exact unhide HR) (by omega) (unhide HONE) (by unfold maxLen; omega) (by omega) ?_; intro v' w3 ho3 hg3 hs3; obtain ⟨a3, c3, rfl⟩ := slice_of_owns ho3))
  go_ret
  rw [Nat.zero_add, List.nil_append] at ho3
  simp only [Nat.zero_add] at hs3
  exact ⟨_, rfl, ho3, hs3, (Mod.refl _ _).grown hg3 (by simp [Value.ownBlock])⟩

/-- The array of files, indexed. -/
theorem idx84 (t : TTape) (i : Nat) (hi : (i : Int) < 4) (w : World) :
    (Instr.index 94 (.agg #[t.f0.v, .int .i64 t.f0.last, t.f1.v, .int .i64 t.f1.last, t.f2.v, .int .i64 t.f2.last, t.f3.v, .int .i64 t.f3.last]) (.int .i64 i)).run Try.prog w =
      .ok (.agg #[(t.get i).v, .int .i64 (t.get i).last]) w := by
  have hi' : i < 4 := by omega
  match i, hi' with
  | 0, _ => exact idx84_0 _ _ _ _ _ _ _ _ _
  | 1, _ => exact idx84_1 _ _ _ _ _ _ _ _ _
  | 2, _ => exact idx84_2 _ _ _ _ _ _ _ _ _
  | 3, _ => exact idx84_3 _ _ _ _ _ _ _ _ _
attribute [local go_sem] idx84

theorem Has.grown {w w' : World} {b : Nat} {cs : Array Value} {T : TypeId} {row : Option Nat} (h : Has w b cs T) (hg : w.grownBy w' row) (hne : some b ≠ row) : Has w' b cs T := by
  unfold Has; rw [hg.block b h.lt hne]; exact h
theorem TFile.ok.mod0 {S : Nat → Prop} {w w' : World} {f : TFile} (h : f.ok S w) (hm : Mod No w w') : f.ok S w' := h.mod hm (fun _ _ x => x)
theorem get_put (t : TTape) (f : TFile) (i j : Nat) (hi : i < 4) (hj : j < 4) : (t.put f i).get j = if j = i then f else t.get j := by
  match i, hi with
  | 0, _ => match j, hj with | 0, _ => rfl | 1, _ => rfl | 2, _ => rfl | 3, _ => rfl
  | 1, _ => match j, hj with | 0, _ => rfl | 1, _ => rfl | 2, _ => rfl | 3, _ => rfl
  | 2, _ => match j, hj with | 0, _ => rfl | 1, _ => rfl | 2, _ => rfl | 3, _ => rfl
  | 3, _ => match j, hj with | 0, _ => rfl | 1, _ => rfl | 2, _ => rfl | 3, _ => rfl
theorem put_room (t : TTape) (f : TFile) (i : Nat) : (t.put f i).room = t.room ∧ (t.put f i).fuse = t.fuse := by
  unfold TTape.put
  split <;> exact ⟨rfl, rfl⟩

theorem copy_step {w wr w3 : World} {o : Obj} {g k : Nat} {t t' : TTape} {a3 : Option Addr} {c3 : Nat}
    (hs3 : Stays (wr.alloc o).drew (.slice none 0 0) (.slice a3 (0 + (t.get k).xs.length) c3)) (hg3 : (wr.alloc o).drew.grownBy w3 (Value.slice none 0 0).ownBlock)
    (ho3 : w3.ownsRow 0 5 1 (.slice a3 (0 + (t.get k).xs.length) c3) (0 + (t.get k).xs.length) ([] ++ (t.get k).xs))
    (hok : t'.ok (fun k => g ≤ k) wr g) (hm : Mod No w wr) (hg : w.heap.size = g) (hgl : g < wr.heap.size) (hk : k < 4)
    (hA : ∀ i, i < k → (t'.get i).xs = (t.get i).xs ∧ (t'.get i).last = (t.get i).last) (hB : ∀ i, k ≤ i → i < 4 → t'.get i = ⟨.slice none 0 0, [], 0⟩) (hr : t'.room = t.room) (hf : t'.fuse = t.fuse)
    (hl : (t.get k).last ≤ (t.get k).xs.length) (hlen : (t.get k).xs.length ≤ 17592186044416) (hb : ∀ x ∈ (t.get k).xs, ∃ n : Int, x = .int .u8 n ∧ 0 ≤ n ∧ n < 256) :
    ∃ t2 : TTape, t2.ok (fun k => g ≤ k) ((w3.setCell ⟨g, k * 2, none⟩ (.slice a3 (t.get k).xs.length c3)).setCell ⟨g, k * 2 + 1, none⟩ (.int .i64 (t.get k).last)) g ∧
      Mod No w ((w3.setCell ⟨g, k * 2, none⟩ (.slice a3 (t.get k).xs.length c3)).setCell ⟨g, k * 2 + 1, none⟩ (.int .i64 (t.get k).last)) ∧
      g < ((w3.setCell ⟨g, k * 2, none⟩ (.slice a3 (t.get k).xs.length c3)).setCell ⟨g, k * 2 + 1, none⟩ (.int .i64 (t.get k).last)).heap.size ∧
      (∀ i, i < k + 1 → (t2.get i).xs = (t.get i).xs ∧ (t2.get i).last = (t.get i).last) ∧ (∀ i, k + 1 ≤ i → i < 4 → t2.get i = ⟨.slice none 0 0, [], 0⟩) ∧ t2.room = t.room ∧ t2.fuse = t.fuse := by
  rw [Nat.zero_add, List.nil_append] at ho3
  simp only [Nat.zero_add] at hs3
  have hm3 : Mod No wr w3 := ((Mod.refl No wr).alloc o).drew.grown hg3 (by simp [Value.ownBlock])
  have hok3 := hok.mod0 hm3
  have hne : ∀ x, (Value.slice a3 (t.get k).xs.length c3).ownBlock = some x → g < x := fun x hx => by
    rcases hs3 x hx with h | h
    · simp [Value.ownBlock] at h
    · simp at h; omega
  refine ⟨t'.put ⟨.slice a3 (t.get k).xs.length c3, (t.get k).xs, (t.get k).last⟩ k, ?_, ?_, ?_, fun i hi => ?_, fun i hi hi4 => ?_, ?_, ?_⟩
  · refine hok.put k hk _ ((hm3.mono (fun _ _ x => x.elim)).setCell (p := ⟨g, k * 2, none⟩) (.inl (.inl rfl)) _ |>.setCell (p := ⟨g, k * 2 + 1, none⟩) (.inl (.inl rfl)) _) ?_ ?_ (fun _ x => x) ?_
    · have := (hok3.has.set (k * 2) (.slice a3 (t.get k).xs.length c3)).set (k * 2 + 1) (.int .i64 (t.get k).last)
      rwa [cells_put _ _ (t.get k).xs _ k hk] at this
    · refine ⟨owns_setCell_ne (owns_setCell_ne ho3 ?_ _) ?_ _, hl, hlen, hb, fun x hx => Nat.le_of_lt (hne x hx)⟩
      · intro e; exact Nat.lt_irrefl _ (hne g e)
      · intro e; exact Nat.lt_irrefl _ (hne g e)
    · intro x hx
      rcases hs3 x hx with h | h
      · simp [Value.ownBlock] at h
      · simp at h; exact .inr (by omega)
  · exact ((hm.trans hm3).setCell (p := ⟨g, k * 2, none⟩) (.inr (by simp; omega)) _).setCell (p := ⟨g, k * 2 + 1, none⟩) (.inr (by simp; omega)) _
  · have := hm3.size
    simp
    omega
  · rw [get_put _ _ _ _ hk (by omega)]
    split
    · rename_i e; subst e; exact ⟨rfl, rfl⟩
    · exact hA i (by omega)
  · rw [get_put _ _ _ _ hk hi4, if_neg (by omega)]
    exact hB i (by omega) hi4
  · rw [(put_room _ _ _).1, hr]
  · rw [(put_room _ _ _).2, hf]

theorem copy_any (b : Nat) (t : TTape) (S : Nat → Prop) (w : World) (h : t.ok S w b) :
    Calls Try.prog 33 #[.pointer (some ⟨b, 0, none⟩)] w fun e w' => ∃ g : Nat, e = .returned (.pointer (some ⟨g, 0, none⟩)) ∧ w.heap.size ≤ g ∧ ∃ t' : TTape, t'.ok (fun k => w.heap.size ≤ k) w' g ∧ Mod No w w' ∧
      (∀ i, i < 4 → (t'.get i).xs = (t.get i).xs ∧ (t'.get i).last = (t.get i).last) ∧ t'.room = t.room ∧ t'.fuse = t.fuse := by
  have hc8 := h.has.cell 8
  have hc9 := h.has.cell 9
  have hc := h.has.cell
  rw [show t.cells[8]? = some (.int .i64 t.room) from rfl] at hc8
  rw [show t.cells[9]? = some (.int .i64 t.fuse) from rfl] at hc9
  have H := hide h
  have HC := hide hc
  clear h hc
  go_enter Try.func33, Try.ntmps33
  go_wp2
  go_region
  have hm1 : Mod No w (w.alloc (.cells (⟨⟨.slice none 0 0, [], 0⟩, ⟨.slice none 0 0, [], 0⟩, ⟨.slice none 0 0, [], 0⟩, ⟨.slice none 0 0, [], 0⟩, t.room, t.fuse⟩ : TTape).cells 96)).drew := ((Mod.refl _ _).alloc _).drew
  have hn1 : Has (w.alloc (.cells (⟨⟨.slice none 0 0, [], 0⟩, ⟨.slice none 0 0, [], 0⟩, ⟨.slice none 0 0, [], 0⟩, ⟨.slice none 0 0, [], 0⟩, t.room, t.fuse⟩ : TTape).cells 96)).drew w.heap.size (⟨⟨.slice none 0 0, [], 0⟩, ⟨.slice none 0 0, [], 0⟩, ⟨.slice none 0 0, [], 0⟩, ⟨.slice none 0 0, [], 0⟩, t.room, t.fuse⟩ : TTape).cells 96 := Has.new _ _ _
  have hs1 : w.heap.size < (w.alloc (.cells (⟨⟨.slice none 0 0, [], 0⟩, ⟨.slice none 0 0, [], 0⟩, ⟨.slice none 0 0, [], 0⟩, ⟨.slice none 0 0, [], 0⟩, t.room, t.fuse⟩ : TTape).cells 96)).drew.heap.size := hn1.lt
  unfold TTape.cells at hm1 hn1 hs1
  simp only at hm1 hn1 hs1
  rw [show (((0 : Nat) : Int)) = 0 from rfl] at hm1 hn1 hs1
  generalize (w.alloc _).drew = W at hm1 hn1 hs1 ⊢
  have h1 := (unhide H).mod0 hm1
  have hc := h1.has.cell
  unfold TTape.cells at hc
  clear hc8 hc9
  have HN1 := hide hn1
  have HM1 := hide hm1
  clear hn1 hm1
  generalize hg : w.heap.size = g at *
  have HG := hide hg
  clear hg
  go_wp2
  clear hc
  go_loopw [20] (fun i wr => ∃ (k : Nat) (t' : TTape), k ≤ 4 ∧ i = .int .i64 k ∧ t'.ok (fun k => g ≤ k) wr g ∧ Mod No w wr ∧ g < wr.heap.size ∧
      (∀ i, i < k → (t'.get i).xs = (t.get i).xs ∧ (t'.get i).last = (t.get i).last) ∧ (∀ i, k ≤ i → i < 4 → t'.get i = ⟨.slice none 0 0, [], 0⟩) ∧ t'.room = t.room ∧ t'.fuse = t.fuse) (fun i _ => 4 - (intOf i).toNat)
  case atStart =>
    refine ⟨0, ⟨⟨.slice none 0 0, [], 0⟩, ⟨.slice none 0 0, [], 0⟩, ⟨.slice none 0 0, [], 0⟩, ⟨.slice none 0 0, [], 0⟩, t.room, t.fuse⟩, by omega, rfl, ?_, unhide HM1, hs1, fun i hi => by omega, fun i _ hi => ?_, rfl, rfl⟩
    · have e : ∀ W : World, (⟨.slice none 0 0, [], 0⟩ : TFile).ok (fun k => g ≤ k) W := fun W =>
        ⟨World.ownsRow_nil _ _ _ _, by simp, by simp, fun x hx => by simp at hx, fun k hk => by simp [Value.ownBlock] at hk⟩
      have a : (⟨.slice none 0 0, [], 0⟩ : TFile).apart ⟨.slice none 0 0, [], 0⟩ := fun k hk => by simp [Value.ownBlock] at hk
      exact ⟨unhide HN1, Nat.le_refl _, e _, e _, e _, e _, a, a, a, a, a, a⟩
    · match i, hi with
      | 0, _ => rfl
      | 1, _ => rfl
      | 2, _ => rfl
      | 3, _ => rfl
  case round =>
    obtain ⟨k, t', hk, rfl, hok, hm, hgl, hA, hB, hr, hf⟩ := hrel
    by_cases hlt : k < 4
    · have hki : (k : Int) < 4 := by omega
      obtain ⟨ak, ck, hvk, hlk⟩ := slice_form (((unhide H).get k hlt).mod0 hm)
      have HOK := hide hok
      have HM := hide hm
      have HA := hide hA
      have HB := hide hB
      have HR := hide hr
      have HF := hide hf
      clear hok hm hA hB hr hf
      have hread : Reads (wr.alloc (.cells #[.slice ak (t.get k).xs.length ck, .int .i64 (t.get k).last] 93)) (.slice ak (t.get k).xs.length ck) (t.get k).xs.length (t.get k).xs := by
        have := (reads_of_owns ((((unhide H).get k hlt).mod0 (unhide HM)).mod0 ((Mod.refl No wr).alloc (.cells #[.slice ak (t.get k).xs.length ck, .int .i64 (t.get k).last] 93))).owns)
        rwa [hvk] at this
      have hhas : Has (wr.alloc (.cells #[.slice ak (t.get k).xs.length ck, .int .i64 (t.get k).last] 93)) g t'.cells 96 := (unhide HOK).has.alloc _
      have hone : ∀ u ∈ (t.get k).xs, u.oneCell' = true := fun u hu => by obtain ⟨n, rfl, _⟩ := (h1.get k hlt).bytes u hu; rfl
      have hlen := (h1.get k hlt).len
      have hnew : Has (wr.alloc (.cells #[.slice ak (t.get k).xs.length ck, .int .i64 (t.get k).last] 93)) wr.heap.size #[.slice ak (t.get k).xs.length ck, .int .i64 (t.get k).last] 93 := Has.new _ _ _
      have HNEW := hide hnew
      clear hnew
      have HREAD := hide hread
      have HHAS := hide hhas
      have HONE := hide hone
      have H1 := hide h1
      clear hread hhas hone h1
      obtain ⟨i5, q0, q1, q2, q3⟩ := info_parts info5
      go_wp2_with fail
      go_region_law (refine step_append_row rfl (.const (.slice none 0 0)) (.tmp 27) 83 rfl 5 i5 (.int .u8 0) 1 1 Try.underlying83 q0 q1 q2 q3 rfl (by decide) (.slice none 0 0) 0 [] (by simp [Act.eval, Act.put]) (by exact World.ownsRow_nil _ _ _ _) (.slice ak (t.get k).xs.length ck) (t.get k).xs.length (t.get k).xs (by simp [Act.eval, Act.put]) (by exact unhide HREAD) (by omega) (unhide HONE) (by unfold maxLen; omega) (by omega) ?_; intro v' w3 ho3 hg3 hs3; obtain ⟨a3, c3, rfl⟩ := slice_of_owns ho3; have hk3 : Has w3 g _ 96 := Has.grown (w := (wr.alloc _).drew) (by exact unhide HHAS) hg3 (by simp [Value.ownBlock]); have hf3 := (Has.grown (w := (wr.alloc _).drew) (by exact unhide HNEW) hg3 (by simp [Value.ownBlock])).cell 1; simp only [List.getElem?_toArray, List.getElem?_cons_succ, List.getElem?_cons_zero] at hf3; have hc3 := hk3.cell (k * 2); have hc3' := hk3.cell (k * 2 + 1); have hz3 := hk3.frozen; rw [(cells_v _ k hlt).1] at hc3; rw [(cells_v _ k hlt).2] at hc3')
      all_goals go_wp2
      all_goals
        have hend := copy_step (hs3 := hs3) (hg3 := hg3) (ho3 := ho3) (unhide HOK) (unhide HM) (unhide HG) hgl hlt (unhide HA) (unhide HB) (unhide HR) (unhide HF) ((unhide H).get k hlt).last hlen ((unhide H).get k hlt).bytes
        obtain ⟨t2, r1, r2, r3, r4, r5, r6, r7⟩ := hend
        refine ⟨⟨k + 1, t2, by omega, by go_num, r1, r2, r3, r4, r5, r6, r7⟩, ?_⟩
        simp [intOf]
        omega
    · have hki : ¬ (k : Int) < 4 := by omega
      obtain rfl : k = 4 := by omega
      go_wp2
      go_ret
      refine ⟨g, rfl, by rw [unhide HG]; exact Nat.le_refl _, t', ?_, hm, hA, hr, hf⟩
      rw [unhide HG]
      exact hok
end Go.Proofs.Ytlcbemcamdafjaa
