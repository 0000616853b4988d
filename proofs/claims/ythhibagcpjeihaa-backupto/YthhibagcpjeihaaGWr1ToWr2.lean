import Derived.Test.YthhibagcpjeihaaGSwap5ToEnc
import Derived.Deep.RegionLawGrows
import Derived.Deep.MidRow
import Derived.Laws.BitsLemmas
import Derived.Test.YthhibagcpjeihaaGTape3ToTape5
import Derived.Test.YthhibagcpjeihaaGPg1ToSwap3
/- A writer of bytes: a number is spelt. -/
namespace Go.Proofs.Ythhibagcpjeihaa
open Go.RowKit
open M
set_option linter.unusedVariables false
set_option linter.unusedSimpArgs false
set_option maxRecDepth 100000
set_option maxHeartbeats 2000000

def u8s (l : List Int) : List Value := l.map (Value.int .u8)
theorem u8s_len (l : List Int) : (u8s l).length = l.length := by simp [u8s]

/-- A writer, and the bytes that it has. -/
structure WrX (O : Nat → Prop) (w : World) (wb : Nat) (v : Value) (xs : List Int) (now : Int) : Prop where
  has : Has w wb #[v, .int .i64 now] 167
  row : w.ownsRow 0 5 1 v xs.length (u8s xs)
  own : ∀ k, v.ownBlock = some k → O k ∧ k ≠ wb
  ge : O wb
  len : xs.length ≤ 1099511627776

theorem WrX.mod {O : Nat → Prop} {w w' : World} {wb : Nat} {v : Value} {xs : List Int} {now : Int} {S : Nat → Prop} (h : WrX O w wb v xs now) (hm : Mod S w w') (hs : ∀ k, O k → ¬ S k) : WrX O w' wb v xs now :=
  ⟨hm.has h.has (hs _ h.ge), hm.owns h.row (fun k hk => hs k (h.own k hk).1), h.own, h.ge, h.len⟩

theorem WrX.wide {O O' : Nat → Prop} {w : World} {wb : Nat} {v : Value} {xs : List Int} {now : Int} (h : WrX O w wb v xs now) (hs : ∀ k, O k → O' k) : WrX O' w wb v xs now :=
  ⟨h.has, h.row, fun k hk => ⟨hs k (h.own k hk).1, (h.own k hk).2⟩, hs _ h.ge, h.len⟩
/-- A writer, beside a box that has just been made. -/
theorem WrX.box {O : Nat → Prop} {w : World} {wb : Nat} {v : Value} {xs : List Int} {now : Int} (h : WrX O w wb v xs now) (o : Obj) : WrX (fun k => O k ∧ k ≠ w.heap.size) (w.alloc o) wb v xs now := by
  have hm : Mod No w (w.alloc o) := (Mod.refl _ _).alloc _
  refine ⟨hm.has h.has (fun x => x), hm.owns h.row (fun _ _ x => x), fun k hk => ⟨⟨(h.own k hk).1, ?_⟩, (h.own k hk).2⟩, ⟨h.ge, ?_⟩, h.len⟩
  · have := (h.row.lt k hk).2
    omega
  · have := h.has.lt
    omega

/-- One byte. -/
theorem byte_reads (w : World) (x : Int) (T : TypeId) : Reads (w.alloc (.cells #[.int .u8 x] T)) (.slice (some ⟨w.heap.size, 0, none⟩) 1 1) 1 [.int .u8 x] :=
  .inr ⟨⟨w.heap.size, 0, none⟩, 1, rfl, fun j u hu => by
    have hN := Has.new w #[Value.int .u8 x] T
    rw [Addr.add_mid, Nat.zero_add, hN.cell, ← Array.getElem?_toList]
    exact hu⟩

/-- The writer behind a byte more. -/
theorem WrX.more {O : Nat → Prop} {w w1 : World} {wb : Nat} {v v1 : Value} {xs : List Int} {now x : Int} {T : TypeId} (h : WrX O w wb v xs now) (hO : ∀ k, w.heap.size ≤ k → O k) (hl : xs.length < 1099511627776)
    (ho : w1.ownsRow 0 5 1 v1 (xs.length + 1) (u8s xs ++ [.int .u8 x])) (hg : (w.alloc (.cells #[.int .u8 x] T)).grownBy w1 v.ownBlock) (hs : Stays (w.alloc (.cells #[.int .u8 x] T)) v v1) :
    WrX O (w1.setCell ⟨wb, 0, none⟩ v1) wb v1 (xs ++ [x]) now ∧ Mod O w (w1.setCell ⟨wb, 0, none⟩ v1) := by
  have m0 : Mod O w (w.alloc (.cells #[.int .u8 x] T)) := (Mod.refl _ _).alloc _
  have m1 : Mod O w w1 := m0.grown hg (fun k hk => .inl (h.own k hk).1)
  have hst : ∀ k, v1.ownBlock = some k → O k ∧ k ≠ wb := fun k hk => by
    rcases hs k hk with e | e
    · exact h.own k e
    · rw [World.size_alloc] at e
      have := h.has.lt
      exact ⟨hO k (by omega), by omega⟩
  have hh : Has w1 wb #[v, .int .i64 now] 167 := Has.grown (h.has.alloc _) hg (fun e => (h.own wb e.symm).2 rfl)
  refine ⟨⟨hh.set 0 v1, ?_, hst, h.ge, by simp; omega⟩, m1.setCell (p := ⟨wb, 0, none⟩) (.inl h.ge) _⟩
  have := owns_setCell_ne ho (a := ⟨wb, 0, none⟩) (fun e => (hst wb e).2 rfl) v1
  unfold u8s at this ⊢
  rw [List.length_append, List.map_append]
  exact this

theorem wraps_i64 (n : Int) (h0 : 0 ≤ n) (h1 : n < 2 ^ 63) : IntKind.i64.wrap n = n := wrap_fit n (by omega) (by omega)
theorem wraps_b8 (n : Int) (h0 : 0 ≤ n) (h1 : n < 2 ^ 8) : IntKind.u8.wrap n = n := by simp [IntKind.wrap, IntKind.bits, IntKind.signed]; omega
/-- A kind, and the number of a flight, in one byte. -/
theorem head_or (k f : Int) (hk : 0 ≤ k ∧ k ≤ 7) (hf : 0 ≤ f ∧ f < 32) : bits .or .i64 (k * 32) f = 32 * k + f := by
  have h := bits_join .i64 63 (by decide) wraps_i64 5 (k * 32) f (by omega) (by omega) (by omega) hf.1 (by omega) (by omega)
  rw [h]
  omega

set_option maxHeartbeats 4000000 in
theorem whead_any {O : Nat → Prop} {w : World} {wb : Nat} {v : Value} {xs : List Int} {now : Int} (h : WrX O w wb v xs now) (hO : ∀ k, w.heap.size ≤ k → O k) (hl : xs.length < 1099511627776) (k f : Int) (hk : 1 ≤ k ∧ k ≤ 7) (hf : 0 ≤ f ∧ f < 32) :
    Calls Try.prog 96 #[.pointer (some ⟨wb, 0, none⟩), .int .i64 k, .int .i64 f] w fun e w' => e = .returned (.tuple #[]) ∧ (∃ v', WrX O w' wb v' (xs ++ [32 * k + f]) now) ∧ Mod O w w' := by
  have hor := head_or k f (by omega) hf
  have hwr : IntKind.i64.wrap (k * 32) = k * 32 := wrap_id _ (by omega) (by omega)
  have hu8 : IntKind.u8.wrap (32 * k + f) = 32 * k + f := wraps_b8 _ (by omega) (by omega)
  obtain ⟨a, c, rfl⟩ := slice_of_owns h.row
  have hc : w.cell? ⟨wb, 0, none⟩ = some (.slice a xs.length c) := h.has.cell 0
  have hlt := h.has.lt
  have H := hide h
  have HO := hide hO
  clear hO
  obtain ⟨i5, q0, q1, q2, q3⟩ := info_parts info5
  have mA : Mod No w (w.alloc (.cells #[.int .u8 (32 * k + f)] 5)) := (Mod.refl _ _).alloc _
  have HOWN := hide fun n => (mA.drewN n).owns h.row (fun _ _ x => x)
  have HR := hide (byte_reads w (32 * k + f) 5)
  have HHAS := hide (h.has.alloc (.cells #[.int .u8 (32 * k + f)] 5))
  have HNE := hide (show some wb ≠ (Value.slice a xs.length c).ownBlock from fun e => (h.own wb e.symm).2 rfl)
  clear h mA
  go_enter Try.func96, Try.ntmps96
  go_wp2_with (at_builtin; refine wpList_append_row rfl (.tmp 10) (.tmp 16) 96 rfl 5 i5 _ 1 1 Try.underlying96 q0 q1 q2 q3 rfl (by decide) (.slice a xs.length c) xs.length (u8s xs) (by simp [Act.eval]) (by exact (unhide HOWN) 0) (.slice (some ⟨w.heap.size, 0, none⟩) 1 1) 1 [.int .u8 (32 * k + f)] (by simp [Act.eval]) (by exact unhide HR) rfl (by intro u hu; simp at hu; subst hu; rfl) (by unfold maxLen; omega) (by omega) ?_; intro v1 w1 ho hg hs; obtain ⟨a1, c1, rfl⟩ := slice_of_owns ho; have hh1 := Has.grown (unhide HHAS) hg (unhide HNE); have hc1 := hh1.cell 0; have hf1 := hh1.frozen; have hl1 := hh1.lt)
  all_goals trace "end"
  go_end0
  obtain ⟨r1, r2⟩ := (unhide H).more (unhide HO) hl ho hg hs
  exact ⟨rfl, ⟨_, r1⟩, r2⟩

theorem byte_or (b : Int) (h0 : 0 ≤ b) (h1 : b < 256) : bits .or .u8 b 128 = b % 128 + 128 := by
  obtain ⟨n, rfl⟩ := Int.eq_ofNat_of_zero_le h0
  have h : ∀ n : Fin 256, bits .or .u8 ((n.val : Nat) : Int) 128 = ((n.val % 128 + 128 : Nat) : Int) := by decide +kernel
  have := h ⟨n, by omega⟩
  simp only at this
  rw [this]
  omega
theorem numF_step (j m : Nat) (h : 128 ≤ m) (hj : m < 128 ^ (j + 1)) : ∃ i, j = i + 1 ∧ numF j m = ((m : Int) % 128 + 128) :: numF i (m / 128) ∧ m / 128 < 128 ^ (i + 1) := by
  cases j with
  | zero => simp at hj; omega
  | succ i =>
    refine ⟨i, rfl, ?_, ?_⟩
    · rw [numF, if_neg (by omega)]
      congr 1
    · rw [Nat.pow_succ] at hj
      omega

set_option maxHeartbeats 8000000 in
theorem wnum_any {O : Nat → Prop} {w : World} {wb : Nat} {v : Value} {xs : List Int} {now : Int} (h : WrX O w wb v xs now) (hO : ∀ k, w.heap.size ≤ k → O k) (hl : xs.length < 1099511627766) (n : Int) (hn : 0 ≤ n ∧ n < 9223372036854775808) :
    Calls Try.prog 87 #[.pointer (some ⟨wb, 0, none⟩), .int .i64 n] w fun e w' => e = .returned (.tuple #[]) ∧ (∃ v', WrX O w' wb v' (xs ++ numB n) now) ∧ Mod O w w' := by
  obtain ⟨i5, q0, q1, q2, q3⟩ := info_parts info5
  have H := hide h
  have HO := hide hO
  clear hO
  obtain ⟨m0, rfl⟩ := Int.eq_ofNat_of_zero_le hn.1
  have hm0 : m0 < 128 ^ (8 + 1) := by
    have e : (128 : Nat) ^ (8 + 1) = 9223372036854775808 := by decide
    rw [e]
    omega
  unfold numB
  rw [show ((m0 : Nat) : Int).toNat = m0 by omega]
  have hlen := (numF_len 8 m0).2
  generalize hT : xs ++ numF 8 m0 = T at *
  have HTL := hide (show T.length ≤ xs.length + 9 by rw [← hT]; simp; omega)
  have HT := hide hT
  clear h hT hlen
  go_enter Try.func87, Try.ntmps87
  go_wp2_with fail
  go_loopw [1] (fun s wr => ∃ (j m : Nat) (v : Value) (ys : List Int), s = .int .i64 m ∧ m < 9223372036854775808 ∧ Hid (m < 128 ^ (j + 1)) ∧ Hid (ys ++ numF j m = T) ∧ Hid (WrX O wr wb v ys now) ∧ Hid (Mod O w wr)) (fun s _ => (intOf s).toNat)
  case atStart => exact ⟨8, m0, v, xs, rfl, by omega, hm0, HT, H, Mod.refl _ _⟩
  case round =>
    obtain ⟨j, m, v, ys, rfl, hm63, hm, hys, H1, M1⟩ := hrel
    clear H HT hm0
    have hw1 := (unhide H1)
    obtain ⟨a, c, rfl⟩ := slice_of_owns hw1.row
    have hc : wr.cell? ⟨wb, 0, none⟩ = some (.slice a ys.length c) := hw1.has.cell 0
    have hlt := hw1.has.lt
    have HNE := hide (show some wb ≠ (Value.slice a ys.length c).ownBlock from fun e => (hw1.own wb e.symm).2 rfl)
    have hyl : ys.length < 1099511627776 := by
      have h1 := congrArg List.length (unhide hys)
      rw [List.length_append] at h1
      have h2 := (numF_len j m).1
      have h3 := unhide HTL
      omega
    have hBr : ∀ k, wr.heap.size ≤ k → O k := fun k hk => (unhide HO) k (Nat.le_trans (unhide M1).size hk)
    have HBR := hide hBr
    clear hBr
    by_cases hge : 128 ≤ m
    · have hgei : (m : Int) ≥ 128 := by omega
      obtain ⟨i, rfl, hF, hlt2⟩ := numF_step j m hge (unhide hm)
      have hu8 : IntKind.u8.wrap (m : Int) = (m : Int) % 256 := by simp [IntKind.wrap, IntKind.bits, IntKind.signed]
      have hor : bits .or .u8 ((m : Int) % 256) 128 = (m : Int) % 128 + 128 := by
        rw [byte_or _ (by omega) (by omega)]
        omega
      have mA : Mod No wr (wr.alloc (.cells #[.int .u8 ((m : Int) % 128 + 128)] 5)) := (Mod.refl _ _).alloc _
      have HOWN := hide (mA.owns hw1.row (fun _ _ x => x))
      have HR := hide (byte_reads wr ((m : Int) % 128 + 128) 5)
      have HHAS := hide (hw1.has.alloc (.cells #[.int .u8 ((m : Int) % 128 + 128)] 5))
      have HF := hide hF
      have HL2 := hide hlt2
      clear hw1 mA hF hlt2
      go_wp2_with (at_builtin; refine wpList_append_row rfl (.tmp 10) (.tmp 14) 96 rfl 5 i5 _ 1 1 Try.underlying96 q0 q1 q2 q3 rfl (by decide) (.slice a ys.length c) ys.length (u8s ys) (by simp [Act.eval]) (by exact unhide HOWN) (.slice (some ⟨wr.heap.size, 0, none⟩) 1 1) 1 [.int .u8 ((m : Int) % 128 + 128)] (by simp [Act.eval]) (by exact unhide HR) rfl (by intro u hu; simp at hu; subst hu; rfl) (by unfold maxLen; omega) (by omega) ?_; intro v1 w1 ho hg hs; obtain ⟨a1, c1, rfl⟩ := slice_of_owns ho; have hh1 := Has.grown (unhide HHAS) hg (unhide HNE); have hc1 := hh1.cell 0; have hf1 := hh1.frozen; have hl1 := hh1.lt)
      all_goals trace "round"
      obtain ⟨r1, r2⟩ := (unhide H1).more (unhide HBR) hyl ho hg hs
      refine ⟨⟨i, m / 128, _, ys ++ [(m : Int) % 128 + 128], ?_, by omega, HL2, hide ?_, r1, (unhide M1).trans r2⟩, ?_⟩
      · simp
      · rw [List.append_assoc]
        show ys ++ (((m : Int) % 128 + 128) :: numF i (m / 128)) = T
        rw [← unhide HF]
        exact unhide hys
      · simp [intOf]
        omega
    · have hgei : ¬ (m : Int) ≥ 128 := by omega
      have hu8 : IntKind.u8.wrap (m : Int) = (m : Int) := by simp [IntKind.wrap, IntKind.bits, IntKind.signed]; omega
      have mA : Mod No wr (wr.alloc (.cells #[.int .u8 (m : Int)] 5)) := (Mod.refl _ _).alloc _
      have HOWN := hide (mA.owns hw1.row (fun _ _ x => x))
      have HR := hide (byte_reads wr (m : Int) 5)
      have HHAS := hide (hw1.has.alloc (.cells #[.int .u8 (m : Int)] 5))
      have HF := hide (numF_small j m (by omega))
      clear hw1 mA
      go_wp2_with (at_builtin; refine wpList_append_row rfl (.tmp 24) (.tmp 27) 96 rfl 5 i5 _ 1 1 Try.underlying96 q0 q1 q2 q3 rfl (by decide) (.slice a ys.length c) ys.length (u8s ys) (by simp [Act.eval]) (by exact unhide HOWN) (.slice (some ⟨wr.heap.size, 0, none⟩) 1 1) 1 [.int .u8 (m : Int)] (by simp [Act.eval]) (by exact unhide HR) rfl (by intro u hu; simp at hu; subst hu; rfl) (by unfold maxLen; omega) (by omega) ?_; intro v1 w1 ho hg hs; obtain ⟨a1, c1, rfl⟩ := slice_of_owns ho; have hh1 := Has.grown (unhide HHAS) hg (unhide HNE); have hc1 := hh1.cell 0; have hf1 := hh1.frozen; have hl1 := hh1.lt)
      go_end0
      obtain ⟨r1, r2⟩ := (unhide H1).more (unhide HBR) hyl ho hg hs
      have hy := unhide hys
      rw [unhide HF] at hy
      rw [← hy]
      exact ⟨rfl, ⟨_, r1⟩, (unhide M1).trans r2⟩
end Go.Proofs.Ythhibagcpjeihaa
/- A tape, as plain lists of bytes; what its methods do to it. -/
namespace Go.Proofs.Ythhibagcpjeihaa
open Go.RowKit
open M
set_option linter.unusedVariables false
set_option linter.unusedSimpArgs false
set_option maxRecDepth 100000

/-- The bytes of the files, how many of them last; the room, the fuse. -/
structure TP where
  b : Nat → List Int
  last : Nat → Nat
  room : Int
  fuse : Int

def TP.used (T : TP) : Nat := (T.b 0).length + (T.b 1).length + (T.b 2).length + (T.b 3).length
/-- A file is another; and the fuse. -/
def TP.put (T : TP) (i : Nat) (xs : List Int) (l : Nat) (f : Int) : TP := ⟨fun j => if j = i then xs else T.b j, fun j => if j = i then l else T.last j, T.room, f⟩

def appendP (T : TP) (i : Nat) (r : List Int) : Bool × TP :=
  if T.room < (T.used : Int) + r.length ∨ T.fuse = 0 then (false, T) else (true, T.put i (T.b i ++ r) (T.last i) (burnt T.fuse))
def syncP (T : TP) (i : Nat) : Bool × TP := if T.fuse = 0 then (false, T) else (true, T.put i (T.b i) (T.b i).length (burnt T.fuse))
def clearP (T : TP) (i : Nat) : Bool × TP := if T.fuse = 0 then (false, T) else (true, T.put i [] 0 (burnt T.fuse))

/-- A tape in memory is this one. -/
structure TapeH (w : World) (S : Nat → Prop) (tb : Nat) (T : TP) : Prop where
  ex : ∃ t : TTape, t.ok S w tb ∧ (∀ i, i < 4 → (t.get i).xs = u8s (T.b i) ∧ (t.get i).last = T.last i) ∧ t.room = T.room ∧ t.fuse = T.fuse
  fuse : -4611686018427387904 ≤ T.fuse ∧ T.fuse ≤ 4611686018427387904

theorem TapeH.mod {w w' : World} {S S' : Nat → Prop} {tb : Nat} {T : TP} (h : TapeH w S tb T) (hm : Mod S' w w') (hs : ∀ k, S k → ¬ S' k) : TapeH w' S tb T := by
  obtain ⟨⟨t, h1, h2⟩, h3⟩ := h
  exact ⟨⟨t, h1.mod hm hs, h2⟩, h3⟩
theorem TapeH.mod0 {w w' : World} {S : Nat → Prop} {tb : Nat} {T : TP} (h : TapeH w S tb T) (hm : Mod No w w') : TapeH w' S tb T := h.mod hm (fun _ _ x => x)
theorem TapeH.wide {w : World} {S S' : Nat → Prop} {tb : Nat} {T : TP} (h : TapeH w S tb T) (hs : ∀ k, S k → S' k) : TapeH w S' tb T := by
  obtain ⟨⟨t, h1, h2⟩, h3⟩ := h
  exact ⟨⟨t, h1.wide hs, h2⟩, h3⟩
theorem TapeH.narrow {w : World} {S : Nat → Prop} {tb : Nat} {T : TP} (h : TapeH w S tb T) : TapeH w (fun k => S k ∧ k < w.heap.size) tb T := by
  obtain ⟨⟨t, h1, h2⟩, h3⟩ := h
  exact ⟨⟨t, h1.narrow, h2⟩, h3⟩
theorem TapeH.inn {w : World} {S : Nat → Prop} {tb : Nat} {T : TP} (h : TapeH w S tb T) : S tb := by
  obtain ⟨⟨t, h1, h2⟩, h3⟩ := h
  exact h1.inn
theorem TapeH.lt {w : World} {S : Nat → Prop} {tb : Nat} {T : TP} (h : TapeH w S tb T) : tb < w.heap.size := by
  obtain ⟨⟨t, h1, h2⟩, h3⟩ := h
  exact h1.has.lt
theorem TapeH.last {w : World} {S : Nat → Prop} {tb : Nat} {T : TP} (h : TapeH w S tb T) (i : Nat) (hi : i < 4) : T.last i ≤ (T.b i).length ∧ (T.b i).length ≤ 17592186044416 := by
  obtain ⟨⟨t, h1, h2, _⟩, h3⟩ := h
  have h4 := (h1.get i hi).last
  have h5 := (h1.get i hi).len
  rw [(h2 i hi).1] at h4 h5
  rw [(h2 i hi).2] at h4
  rw [u8s_len] at h4 h5
  exact ⟨h4, h5⟩
theorem TapeH.bytes {w : World} {S : Nat → Prop} {tb : Nat} {T : TP} (h : TapeH w S tb T) (i : Nat) (hi : i < 4) : ∀ x ∈ T.b i, 0 ≤ x ∧ x < 256 := by
  obtain ⟨⟨t, h1, h2, _⟩, h3⟩ := h
  intro x hx
  have h4 := (h1.get i hi).bytes
  rw [(h2 i hi).1] at h4
  obtain ⟨n, e, r⟩ := h4 (.int .u8 x) (List.mem_map.2 ⟨x, hx, rfl⟩)
  injection e with _ e
  rw [e]
  exact r
theorem TapeH.room {w : World} {S : Nat → Prop} {tb : Nat} {T : TP} (h : TapeH w S tb T) : ∃ cs, Has w tb cs 103 ∧ cs[8]? = some (.int .i64 T.room) := by
  obtain ⟨⟨t, h1, h2, h3, _⟩, _⟩ := h
  refine ⟨_, h1.has, ?_⟩
  rw [← h3]
  rfl

theorem used_eq {t : TTape} {T : TP} (h : ∀ i, i < 4 → (t.get i).xs = u8s (T.b i) ∧ (t.get i).last = T.last i) : t.used = T.used := by
  have h0 := (h 0 (by omega)).1
  have h1 := (h 1 (by omega)).1
  have h2 := (h 2 (by omega)).1
  have h3 := (h 3 (by omega)).1
  unfold TTape.used TP.used
  have e0 : t.f0.xs.length = (T.b 0).length := by rw [show t.f0 = t.get 0 from rfl, h0, u8s_len]
  have e1 : t.f1.xs.length = (T.b 1).length := by rw [show t.f1 = t.get 1 from rfl, h1, u8s_len]
  have e2 : t.f2.xs.length = (T.b 2).length := by rw [show t.f2 = t.get 2 from rfl, h2, u8s_len]
  have e3 : t.f3.xs.length = (T.b 3).length := by rw [show t.f3 = t.get 3 from rfl, h3, u8s_len]
  omega

theorem burnt_rng {f : Int} (h : -4611686018427387904 ≤ f ∧ f ≤ 4611686018427387904) : -4611686018427387904 ≤ burnt f ∧ burnt f ≤ 4611686018427387904 := by
  unfold burnt
  split <;> omega

/-- A file is another. -/
theorem TapeH.put {w : World} {S : Nat → Prop} {tb : Nat} {T : TP} {t : TTape} (h2 : ∀ i, i < 4 → (t.get i).xs = u8s (T.b i) ∧ (t.get i).last = T.last i) (h3 : t.room = T.room) (i : Nat) (hi : i < 4) (v : Value) (xs : List Int) (l : Nat) (f : Int) (hf : -4611686018427387904 ≤ f ∧ f ≤ 4611686018427387904)
    (h : ({ t.put ⟨v, u8s xs, l⟩ i with fuse := f } : TTape).ok S w tb) : TapeH w S tb (T.put i xs l f) := by
  refine ⟨⟨_, h, fun j hj => ?_, ?_, rfl⟩, hf⟩
  · rw [get_fuse, get_put _ _ _ _ hi hj]
    unfold TP.put
    by_cases e : j = i
    · simp only [if_pos e, and_self]
    · simp only [if_neg e]
      exact h2 j hj
  · show (t.put _ i).room = T.room
    rw [(put_room t _ i).1]
    exact h3

theorem fits_t {w : World} {S : Nat → Prop} {tb : Nat} {T : TP} (h : TapeH w S tb T) (n : Int) (hn : 0 ≤ n) (hn2 : n ≤ 140737488355328) :
    Calls Try.prog 43 #[.pointer (some ⟨tb, 0, none⟩), .int .i64 n] w fun e w' => e = .returned (.bool (decide ((T.used : Int) + n ≤ T.room))) ∧ Mod No w w' := by
  obtain ⟨⟨t, h1, h2, h3, h4⟩, h5⟩ := h
  have := fits_any tb t n w h1 hn hn2
  rw [used_eq h2, h3] at this
  exact this

theorem append_t {w : World} {S : Nat → Prop} {tb : Nat} {T : TP} (h : TapeH w S tb T) (i : Nat) (hi : i < 4) (xa : Option Addr) (c : Nat) (r : List Int) (hx : Reads w (.slice xa r.length c) r.length (u8s r)) (hxb : (Value.slice xa r.length c).ownBlock ≠ some tb)
    (hr : ∀ x ∈ r, 0 ≤ x ∧ x < 256) (hl : (T.b i).length + r.length ≤ 17592186044416) :
    Calls Try.prog 38 #[.pointer (some ⟨tb, 0, none⟩), .int .i64 i, .slice xa r.length c] w fun e w' => e = .returned (.bool (appendP T i r).1) ∧ TapeH w' (fun k => S k ∨ w.heap.size ≤ k) tb (appendP T i r).2 ∧ Mod S w w' := by
  obtain ⟨⟨t, h1, h2, h3, h4⟩, h5⟩ := h
  have hu := used_eq h2
  have hxl : (t.get i).xs.length = (T.b i).length := by rw [(h2 i hi).1, u8s_len]
  unfold appendP
  by_cases hno : T.room < (T.used : Int) + r.length
  · rw [if_pos (.inl hno)]
    refine (append_no tb t i hi S w h1 xa r.length c (by omega) (by rw [hu, h3]; exact hno)).mono ?_
    rintro e w' ⟨rfl, hm⟩
    exact ⟨rfl, ⟨⟨t, (h1.mod0 hm).wide (fun _ q => .inl q), h2, h3, h4⟩, h5⟩, hm.mono (fun _ _ x => x.elim)⟩
  · by_cases h0 : T.fuse = 0
    · rw [if_pos (.inr h0)]
      refine (append_dead tb t i hi S w h1 xa r.length c (by omega) (by rw [hu, h3]; omega) (by rw [h4]; exact h0)).mono ?_
      rintro e w' ⟨rfl, hok, hm⟩
      exact ⟨rfl, ⟨⟨t, hok.wide (fun _ q => .inl q), h2, h3, h4⟩, h5⟩, hm⟩
    · rw [if_neg (by rintro (q | q); exact hno q; exact h0 q)]
      refine (append_yes tb t i hi S w h1 xa r.length c (u8s r) hx hxb (u8s_len r) (fun x hx => by
        obtain ⟨n, hn, rfl⟩ := List.mem_map.1 hx
        exact ⟨n, rfl, hr n hn⟩) (by rw [hxl]; exact hl) (by rw [hu, h3]; omega) (by rw [h4]; exact h5) (by rw [h4]; exact h0)).mono ?_
      rintro e w' ⟨rfl, ⟨v', hok⟩, hm⟩
      refine ⟨rfl, ?_, hm⟩
      rw [(h2 i hi).1, (h2 i hi).2, h4] at hok
      have : u8s (T.b i) ++ u8s r = u8s (T.b i ++ r) := by simp [u8s]
      rw [this] at hok
      exact TapeH.put h2 h3 i hi v' _ _ _ (burnt_rng h5) hok

theorem sync_t {w : World} {S : Nat → Prop} {tb : Nat} {T : TP} (h : TapeH w S tb T) (i : Nat) (hi : i < 4) :
    Calls Try.prog 35 #[.pointer (some ⟨tb, 0, none⟩), .int .i64 i] w fun e w' => e = .returned (.bool (syncP T i).1) ∧ TapeH w' S tb (syncP T i).2 ∧ Mod (· = tb) w w' := by
  obtain ⟨⟨t, h1, h2, h3, h4⟩, h5⟩ := h
  unfold syncP
  by_cases h0 : T.fuse = 0
  · rw [if_pos h0]
    refine (sync_dead tb t i hi S w h1 (by rw [h4]; exact h0)).mono ?_
    rintro e w' ⟨rfl, hok, hm⟩
    exact ⟨rfl, ⟨⟨t, hok, h2, h3, h4⟩, h5⟩, hm⟩
  · rw [if_neg h0]
    refine (sync_core tb t i hi S w h1 (by rw [h4]; exact h5) (by rw [h4]; exact h0)).mono ?_
    rintro e w' ⟨rfl, hok, hm⟩
    refine ⟨rfl, ?_, hm⟩
    rw [(h2 i hi).1, u8s_len, h4] at hok
    exact TapeH.put h2 h3 i hi _ _ _ _ (burnt_rng h5) hok

theorem clear_dead (b : Nat) (t : TTape) (i : Nat) (hi : i < 4) (S : Nat → Prop) (w : World) (h : t.ok S w b) (h0 : t.fuse = 0) :
    Calls Try.prog 41 #[.pointer (some ⟨b, 0, none⟩), .int .i64 i] w fun e w' => e = .returned (.bool false) ∧ t.ok S w' b ∧ Mod (· = b) w w' := by
  have hburn := fun W (hW : t.ok S W b) => burn_any b t W hW (by omega)
  simp only [ne_eq, h0, not_true_eq_false, decide_false] at hburn
  have H := hide h
  have HB := hide hburn
  have h0' := hide h0
  clear hburn h h0
  have hi' : (i : Int) < 4 := by omega
  go_enter Try.func41, Try.ntmps41
  go_wp2_with fail
  refine ((unhide HB) _ (unhide H)).mono ?_
  rintro e w1 ⟨rfl, h1, m1⟩
  have H1 := hide h1
  have M1 := hide m1
  clear h1 m1
  go_wp2
  go_ret
  have h2 := unhide H1
  rw [show burnt 0 = 0 from rfl] at h2
  refine ⟨rfl, ?_, unhide M1⟩
  have e : ({ t with fuse := 0 } : TTape) = t := by cases t; simp only at h0'; rw [unhide h0']
  rw [e] at h2
  exact h2

theorem clear_t {w : World} {S : Nat → Prop} {tb : Nat} {T : TP} (h : TapeH w S tb T) (i : Nat) (hi : i < 4) :
    Calls Try.prog 41 #[.pointer (some ⟨tb, 0, none⟩), .int .i64 i] w fun e w' => e = .returned (.bool (clearP T i).1) ∧ TapeH w' S tb (clearP T i).2 ∧ Mod (· = tb) w w' := by
  obtain ⟨⟨t, h1, h2, h3, h4⟩, h5⟩ := h
  unfold clearP
  by_cases h0 : T.fuse = 0
  · rw [if_pos h0]
    refine (clear_dead tb t i hi S w h1 (by rw [h4]; exact h0)).mono ?_
    rintro e w' ⟨rfl, hok, hm⟩
    exact ⟨rfl, ⟨⟨t, hok, h2, h3, h4⟩, h5⟩, hm⟩
  · rw [if_neg h0]
    refine (clear_yes tb t i hi S w h1 (by rw [h4]; exact h5) (by rw [h4]; exact h0)).mono ?_
    rintro e w' ⟨rfl, hok, hm⟩
    refine ⟨rfl, ?_, hm⟩
    rw [h4] at hok
    exact TapeH.put h2 h3 i hi (.slice none 0 0) [] 0 _ (burnt_rng h5) hok

theorem read_t {w : World} {S : Nat → Prop} {tb : Nat} {T : TP} (h : TapeH w S tb T) (i : Nat) (hi : i < 4) :
    Calls Try.prog 40 #[.pointer (some ⟨tb, 0, none⟩), .int .i64 i] w fun e w' => ∃ v, e = .returned v ∧ w'.ownsRow 0 5 1 v (T.b i).length (u8s (T.b i)) ∧ Stays w (.slice none 0 0) v ∧ Mod No w w' := by
  obtain ⟨⟨t, h1, h2, h3, h4⟩, h5⟩ := h
  have := read_any tb t i hi S w h1
  rw [(h2 i hi).1, u8s_len] at this
  exact this

theorem tape_new (w : World) (n : Int) : TapeH (w.alloc (.cells (⟨⟨.slice none 0 0, [], 0⟩, ⟨.slice none 0 0, [], 0⟩, ⟨.slice none 0 0, [], 0⟩, ⟨.slice none 0 0, [], 0⟩, n, -1⟩ : TTape).cells 103)) (fun k => k = w.heap.size) w.heap.size ⟨fun _ => [], fun _ => 0, n, -1⟩ := by
  have nf : ∀ W : World, (⟨.slice none 0 0, [], 0⟩ : TFile).ok (fun k => k = w.heap.size) W := fun W => ⟨World.ownsRow_nil _ _ _ _, by simp, by simp, fun x hx => by simp at hx, fun k hk => by simp [Value.ownBlock] at hk⟩
  have na : (⟨.slice none 0 0, [], 0⟩ : TFile).apart ⟨.slice none 0 0, [], 0⟩ := fun k hk => by simp [Value.ownBlock] at hk
  refine ⟨⟨_, ⟨Has.new _ _ _, rfl, nf _, nf _, nf _, nf _, na, na, na, na, na, na⟩, fun i hi => ?_, rfl, rfl⟩, by show (-4611686018427387904 : Int) ≤ -1 ∧ (-1 : Int) ≤ 4611686018427387904; decide⟩
  have : i = 0 ∨ i = 1 ∨ i = 2 ∨ i = 3 := by omega
  rcases this with rfl | rfl | rfl | rfl <;> exact ⟨rfl, rfl⟩
end Go.Proofs.Ythhibagcpjeihaa
/- Where on the tape records lie: a record is laid behind the others. -/
namespace Go.Proofs.Ythhibagcpjeihaa
open Go.RowKit
open M
set_option linter.unusedVariables false
set_option linter.unusedSimpArgs false
set_option maxRecDepth 100000
set_option maxHeartbeats 4000000

/-- What is against laying so many bytes. -/
def askP (T : TP) (n : Nat) : Int := if T.room < (T.used : Int) + n then 15 else 0
def writeP (T : TP) (i : Nat) (r : List Int) : Bool × TP := if (appendP T i r).1 = true then syncP (appendP T i r).2 i else (false, (appendP T i r).2)
def layP (T : TP) (i : Nat) (r : List Int) : Int × TP :=
  if T.room < (T.used : Int) + r.length then (15, T) else if (writeP T i r).1 = true then (0, (writeP T i r).2) else (16, (writeP T i r).2)

theorem ask_any {w : World} {S : Nat → Prop} {kb tb : Nat} {T : TP} {cs : Array Value} (hk : Has w kb cs 117) (c30 : cs[30]? = some (.pointer (some ⟨tb, 0, none⟩))) (ht : TapeH w S tb T) (n : Nat) (hn : n ≤ 17592186044416) :
    Calls Try.prog 84 #[.pointer (some ⟨kb, 30, none⟩), .int .i64 n] w fun e w' => e = .returned (.int .i64 (askP T n)) ∧ Mod No w w' := by
  have c := hk.cell 30
  rw [c30] at c
  have lt := hk.lt
  have HF := hide (fits_t ht n (by omega) (by omega))
  unfold askP
  clear hk ht c30
  by_cases hr : T.room < (T.used : Int) + n
  · rw [if_pos hr]
    have hd : decide ((T.used : Int) + n ≤ T.room) = false := by simp; omega
    rw [hd] at HF
    clear hr hd
    go_enter Try.func84, Try.ntmps84
    go_wp2_with fail
    refine (unhide HF).mono ?_
    rintro e w1 ⟨rfl, m1⟩
    have M1 := hide m1
    clear m1
    go_wp2
    go_ret
    exact ⟨rfl, unhide M1⟩
  · rw [if_neg hr]
    have hd : decide ((T.used : Int) + n ≤ T.room) = true := by simp; omega
    rw [hd] at HF
    clear hr hd
    go_enter Try.func84, Try.ntmps84
    go_wp2_with fail
    refine (unhide HF).mono ?_
    rintro e w1 ⟨rfl, m1⟩
    have M1 := hide m1
    clear m1
    go_wp2
    go_ret
    exact ⟨rfl, unhide M1⟩

theorem ask_shut {w : World} {kb : Nat} {cs : Array Value} (hk : Has w kb cs 117) (c30 : cs[30]? = some (.pointer none)) (n : Int) :
    Calls Try.prog 84 #[.pointer (some ⟨kb, 30, none⟩), .int .i64 n] w fun e w' => e = .returned (.int .i64 17) ∧ w' = w := by
  have c := hk.cell 30
  rw [c30] at c
  have lt := hk.lt
  clear hk c30
  go_enter Try.func84, Try.ntmps84
  go_wp2
  go_ret
  exact ⟨rfl, rfl⟩

theorem torn_any {w : World} {kb : Nat} {cs : Array Value} (hk : Has w kb cs 117) (b : Bool) (c32 : cs[32]? = some (.bool b)) :
    Calls Try.prog 61 #[.pointer (some ⟨kb, 30, none⟩)] w fun e w' => e = .returned (.bool b) ∧ w' = w := by
  have c := hk.cell 32
  rw [c32] at c
  have lt := hk.lt
  clear hk c32
  go_enter Try.func61, Try.ntmps61
  go_wp2
  go_ret
  exact ⟨rfl, rfl⟩

theorem die_any {w : World} {kb : Nat} {cs : Array Value} (hk : Has w kb cs 117) (v : Value) (c30 : cs[30]? = some v) :
    Calls Try.prog 86 #[.pointer (some ⟨kb, 30, none⟩)] w fun e w' => e = .returned (.int .i64 16) ∧ w' = w.setCell ⟨kb, 30, none⟩ (.pointer none) := by
  have c := hk.cell 30
  rw [c30] at c
  have lt := hk.lt
  have fz := hk.frozen
  clear hk c30
  go_enter Try.func86, Try.ntmps86
  go_wp2
  go_ret
  exact ⟨rfl, rfl⟩

theorem TapeH.new {w w' : World} {S : Nat → Prop} {tb : Nat} {T : TP} {n : Nat} (h : TapeH w S tb T) (hn : ∀ k, S k → S k ∨ n ≤ k) : TapeH w (fun k => S k ∨ n ≤ k) tb T := h.wide (fun _ q => .inl q)

theorem write_any {w : World} {S : Nat → Prop} {kb tb : Nat} {T : TP} {cs : Array Value} (hk : Has w kb cs 117) (c30 : cs[30]? = some (.pointer (some ⟨tb, 0, none⟩))) (hkS : ¬ S kb) (ht : TapeH w S tb T) (i : Nat) (hi : i < 4)
    (xa : Option Addr) (c : Nat) (r : List Int) (hx : Reads w (.slice xa r.length c) r.length (u8s r)) (hxb : (Value.slice xa r.length c).ownBlock ≠ some tb) (hr : ∀ x ∈ r, 0 ≤ x ∧ x < 256) (hl : (T.b i).length + r.length ≤ 17592186044416) :
    Calls Try.prog 85 #[.pointer (some ⟨kb, 30, none⟩), .int .i64 i, .slice xa r.length c] w fun e w' => e = .returned (.bool (writeP T i r).1) ∧ TapeH w' (fun k => S k ∨ w.heap.size ≤ k) tb (writeP T i r).2 ∧ Mod S w w' := by
  have ce := hk.cell 30
  rw [c30] at ce
  have lt := hk.lt
  have HA := hide (append_t ht i hi xa c r hx hxb hr hl)
  have HT := hide ht.inn
  have HK := hide hk
  unfold writeP
  clear hx hk ht
  generalize hR : r.length = n at *
  clear hR hxb
  generalize appendP T i r = A at *
  obtain ⟨a, T1⟩ := A
  simp only at HA ⊢
  cases a with
  | false =>
    rw [if_neg (by simp)]
    go_enter Try.func85, Try.ntmps85
    go_wp2_with fail
    refine (unhide HA).mono ?_
    rintro e w1 ⟨rfl, h1, m1⟩
    have H1 := hide h1
    have M1 := hide m1
    clear h1 m1
    go_wp2
    go_ret
    exact ⟨rfl, unhide H1, unhide M1⟩
  | true =>
    rw [if_pos rfl]
    have HS := hide fun W (h : TapeH W (fun k => S k ∨ w.heap.size ≤ k) tb T1) => sync_t h i hi
    generalize syncP T1 i = D at *
    obtain ⟨d, T2⟩ := D
    simp only at HS ⊢
    go_enter Try.func85, Try.ntmps85
    go_wp2_with fail
    refine (unhide HA).mono ?_
    rintro e w1 ⟨rfl, h1, m1⟩
    have hk1 := m1.has (unhide HK) hkS
    have ce1 := hk1.cell 30
    rw [c30] at ce1
    have lt1 := hk1.lt
    have HS := hide ((unhide HS) _ h1)
    have M1 := hide m1
    clear h1 m1 hk1 HA ce
    go_wp2_with fail
    refine (unhide HS).mono ?_
    rintro e w2 ⟨rfl, h2, m2⟩
    have H2 := hide h2
    have M2 := hide ((unhide M1).trans (m2.mono (fun k _ (e : k = tb) => by rw [e]; exact unhide HT)))
    clear h2 m2 HS
    go_wp2
    go_ret
    exact ⟨rfl, unhide H2, unhide M2⟩

/-- What is left of a store: its cells. -/
theorem sappend_any {w : World} {S : Nat → Prop} {kb tb : Nat} {T : TP} {cs : Array Value} (hk : Has w kb cs 117) (c30 : cs[30]? = some (.pointer (some ⟨tb, 0, none⟩))) (hkS : ¬ S kb) (ht : TapeH w S tb T) (i : Nat) (hi : i < 2) (c31 : cs[31]? = some (.int .i64 i))
    (xa : Option Addr) (c : Nat) (r : List Int) (hx : Reads w (.slice xa r.length c) r.length (u8s r)) (hxb : (Value.slice xa r.length c).ownBlock ≠ some tb) (hr : ∀ x ∈ r, 0 ≤ x ∧ x < 256) (hl : (T.b i).length + r.length ≤ 17592186044416) :
    Calls Try.prog 63 #[.pointer (some ⟨kb, 30, none⟩), .slice xa r.length c] w fun e w' => e = .returned (.int .i64 (layP T i r).1) ∧ TapeH w' (fun k => S k ∨ w.heap.size ≤ k) tb (layP T i r).2 ∧
      Has w' kb (if (layP T i r).1 = 16 then cs.setIfInBounds 30 (.pointer none) else cs) 117 ∧ Mod (fun k => S k ∨ k = kb) w w' := by
  have HA := hide (ask_any hk c30 ht r.length (by omega))
  have HW := hide fun W (hm : Mod No w W) => (write_any (hm.has hk (fun x => x)) c30 hkS (ht.mod0 hm) i (by omega) xa c r (hx.mod hm (fun _ _ x => x)) hxb hr hl).mono fun e w' ⟨q1, q2, q3⟩ => (⟨q1, q2.wide (fun k q => q.imp id (fun q => Nat.le_trans hm.size q)), q3⟩ : e = _ ∧ TapeH w' (fun k => S k ∨ w.heap.size ≤ k) tb (writeP T i r).2 ∧ Mod S W w')
  have HK := hide hk
  have HT := hide ht
  have lt := hk.lt
  have NK := hide hkS
  clear hk ht hx hxb hl hr hkS
  unfold layP askP at *
  by_cases hno : T.room < (T.used : Int) + r.length
  · rw [if_pos hno] at HA ⊢
    rw [if_neg (show ¬ ((15 : Int), T).1 = 16 by simp)]
    have HNO := hide hno
    generalize r.length = n at *
    clear hno HNO HW
    go_enter Try.func63, Try.ntmps63
    go_wp2_with fail
    refine (unhide HA).mono ?_
    rintro e w1 ⟨rfl, m1⟩
    have M1 := hide m1
    clear m1
    go_wp2
    go_ret
    exact ⟨rfl, ((unhide HT).mod0 (unhide M1)).wide (fun _ q => .inl q), (unhide M1).has (unhide HK) (fun x => x), (unhide M1).mono (fun _ _ x => x.elim)⟩
  · rw [if_neg hno] at HA ⊢
    clear hno
    generalize writeP T i r = A at *
    obtain ⟨a, T2⟩ := A
    generalize r.length = n at *
    simp only at HW
    cases a with
    | true =>
      simp only [if_true]
      rw [if_neg (by decide)]
      go_enter Try.func63, Try.ntmps63
      go_wp2_with fail
      refine (unhide HA).mono ?_
      rintro e w1 ⟨rfl, m1⟩
      have h1 := m1.has (unhide HK) (fun x => x)
      have c1 := h1.cell 31
      rw [c31] at c1
      have lt1 := h1.lt
      have HW1 := hide ((unhide HW) _ m1)
      have H1 := hide h1
      have M1 := hide m1
      clear h1 m1 HA HW
      go_wp2_with fail
      refine (unhide HW1).mono ?_
      rintro e w2 ⟨rfl, t2, m2⟩
      have T2H := hide t2
      have H2 := hide (m2.has (unhide H1) (unhide NK))
      have M2 := hide (((unhide M1).mono (S' := fun k => S k ∨ k = kb) (fun _ _ x => x.elim)).trans (m2.mono (fun _ _ q => .inl q)))
      clear t2 m2 HW1
      go_wp2
      go_ret
      exact ⟨rfl, unhide T2H, unhide H2, unhide M2⟩
    | false =>
      simp only [Bool.false_eq_true, if_false]
      rw [if_pos trivial]
      go_enter Try.func63, Try.ntmps63
      go_wp2_with fail
      refine (unhide HA).mono ?_
      rintro e w1 ⟨rfl, m1⟩
      have h1 := m1.has (unhide HK) (fun x => x)
      have c1 := h1.cell 31
      rw [c31] at c1
      have lt1 := h1.lt
      have HW1 := hide ((unhide HW) _ m1)
      have H1 := hide h1
      have M1 := hide m1
      clear h1 m1 HA HW
      go_wp2_with fail
      refine (unhide HW1).mono ?_
      rintro e w2 ⟨rfl, t2, m2⟩
      have h2 := m2.has (unhide H1) (unhide NK)
      have HD := hide (die_any h2 _ c30)
      have T2H := hide t2
      have H2 := hide h2
      have M2 := hide (((unhide M1).mono (S' := fun k => S k ∨ k = kb) (fun _ _ x => x.elim)).trans (m2.mono (fun _ _ q => .inl q)))
      clear t2 m2 h2 HW1
      go_wp2_with fail
      refine (unhide HD).mono ?_
      rintro e w3 ⟨rfl, rfl⟩
      have FIN := hide (show TapeH (w2.setCell ⟨kb, 30, none⟩ (.pointer none)) (fun k => S k ∨ w.heap.size ≤ k) tb T2 ∧ Has (w2.setCell ⟨kb, 30, none⟩ (.pointer none)) kb (cs.setIfInBounds 30 (.pointer none)) 117 ∧ Mod (fun k => S k ∨ k = kb) w (w2.setCell ⟨kb, 30, none⟩ (.pointer none)) from
        ⟨(unhide T2H).mod (S' := fun k => k = kb) ((Mod.refl _ w2).at 30 _) (fun k q e => by
            subst e
            rcases q with q | q
            · exact unhide NK q
            · omega), (unhide H2).set 30 _, (unhide M2).setCell (p := ⟨kb, 30, none⟩) (.inl (.inr rfl)) _⟩)
      clear HD H2 M2 T2H
      go_wp2
      go_ret
      exact ⟨rfl, unhide FIN⟩

theorem sappend_shut {w : World} {kb : Nat} {cs : Array Value} (hk : Has w kb cs 117) (c30 : cs[30]? = some (.pointer none)) (xa : Option Addr) (n c : Nat) :
    Calls Try.prog 63 #[.pointer (some ⟨kb, 30, none⟩), .slice xa n c] w fun e w' => e = .returned (.int .i64 17) ∧ w' = w := by
  have HA := hide (ask_shut hk c30 (n : Int))
  clear hk c30
  go_enter Try.func63, Try.ntmps63
  go_wp2_with fail
  refine (unhide HA).mono ?_
  rintro e w1 ⟨rfl, rfl⟩
  go_wp2
  go_ret
  exact ⟨rfl, rfl⟩
end Go.Proofs.Ythhibagcpjeihaa
/- A writer of bytes: a place, a shape, a plane, a seat are spelt. -/
namespace Go.Proofs.Ythhibagcpjeihaa
open Go.RowKit
open M
set_option linter.unusedVariables false
set_option linter.unusedSimpArgs false
set_option maxRecDepth 100000
set_option maxHeartbeats 4000000

/-- What has been written. -/
structure Wrote (O : Nat → Prop) (w w' : World) (wb : Nat) (xs : List Int) (now : Int) : Prop where
  ex : ∃ v', WrX O w' wb v' xs now
  mod : Mod O w w'

theorem Wrote.after {O S : Nat → Prop} {w w1 w2 : World} {wb : Nat} {xs : List Int} {now : Int} (h : Wrote O w1 w2 wb xs now) (hm : Mod S w w1) (hs : ∀ k, k < w.heap.size → S k → O k) : Wrote O w w2 wb xs now :=
  ⟨h.ex, (hm.mono hs).trans h.mod⟩
/-- The end of a function that has made a box for its argument. -/
theorem Wrote.unbox {O : Nat → Prop} {w w2 : World} {wb : Nat} {xs : List Int} {now : Int} {o : Obj} (h : Wrote (fun k => O k ∧ k ≠ w.heap.size) (w.alloc o) w2 wb xs now) : Wrote O w w2 wb xs now := by
  obtain ⟨⟨v, hx⟩, hm⟩ := h
  exact ⟨⟨v, hx.wide (fun _ q => q.1)⟩, (((Mod.refl No w).alloc o).mono (fun _ _ x => x.elim)).trans (hm.mono (fun _ _ q => q.1))⟩

/-- Every new block is the writer's. -/
def Up (O : Nat → Prop) (w : World) : Prop := ∀ k, w.heap.size ≤ k → O k
theorem Up.box {O : Nat → Prop} {w : World} (h : Up O w) (o : Obj) : Up (fun k => O k ∧ k ≠ w.heap.size) (w.alloc o) := fun k hk => by
  rw [World.size_alloc] at hk
  exact ⟨h k (by omega), by omega⟩
theorem Up.mod {O S : Nat → Prop} {w w' : World} (h : Up O w) (hm : Mod S w w') : Up O w' := fun k hk => h k (Nat.le_trans hm.size hk)

/-- A number is spelt. -/
theorem wnum_w {O : Nat → Prop} {w : World} {wb : Nat} {xs : List Int} {now : Int} (h : ∃ v, WrX O w wb v xs now) (hO : Up O w) (hl : xs.length < 1099511627766) (n : Int) (hn : 0 ≤ n ∧ n < 9223372036854775808) :
    Calls Try.prog 87 #[.pointer (some ⟨wb, 0, none⟩), .int .i64 n] w fun e w' => e = .returned (.tuple #[]) ∧ Wrote O w w' wb (xs ++ numB n) now := by
  obtain ⟨v, h⟩ := h
  exact (wnum_any h hO hl n hn).mono fun e w' ⟨q1, q2, q3⟩ => ⟨q1, q2, q3⟩
theorem whead_w {O : Nat → Prop} {w : World} {wb : Nat} {xs : List Int} {now : Int} (h : ∃ v, WrX O w wb v xs now) (hO : Up O w) (hl : xs.length < 1099511627776) (k f : Int) (hk : 1 ≤ k ∧ k ≤ 7) (hf : 0 ≤ f ∧ f < 32) :
    Calls Try.prog 96 #[.pointer (some ⟨wb, 0, none⟩), .int .i64 k, .int .i64 f] w fun e w' => e = .returned (.tuple #[]) ∧ Wrote O w w' wb (xs ++ [32 * k + f]) now := by
  obtain ⟨v, h⟩ := h
  exact (whead_any h hO hl k f hk hf).mono fun e w' ⟨q1, q2, q3⟩ => ⟨q1, q2, q3⟩

theorem wplace_any {O : Nat → Prop} {w : World} {wb : Nat} {xs : List Int} {now : Int} (h : ∃ v, WrX O w wb v xs now) (hO : Up O w) (hl : xs.length < 1099511627766) (r c : Int) (hr : 1 ≤ r ∧ r ≤ 20) (hc : 1 ≤ c ∧ c ≤ 6) :
    Calls Try.prog 99 #[.pointer (some ⟨wb, 0, none⟩), .agg #[.int .i64 r, .int .i64 c]] w fun e w' => e = .returned (.tuple #[]) ∧ Wrote O w w' wb (xs ++ placeB r c) now := by
  obtain ⟨v, h⟩ := h
  have HN := hide (wnum_w ⟨v, h.box (.cells #[.int .i64 r, .int .i64 c] 32)⟩ (hO.box _) hl ((r - 1) * 6 + c - 1) (by omega))
  clear h hO
  unfold placeB
  go_enter Try.func99, Try.ntmps99
  go_wp2_with fail
  refine (unhide HN).mono ?_
  rintro e w1 ⟨rfl, h1⟩
  have FIN := hide h1.unbox
  clear h1 HN
  go_wp2
  go_end0
  exact ⟨rfl, unhide FIN⟩

theorem wshape_any {O : Nat → Prop} {w : World} {wb : Nat} {xs : List Int} {now : Int} (h : ∃ v, WrX O w wb v xs now) (hO : Up O w) (hl : xs.length < 1099511627740) (a b c : Int) (ha : 0 ≤ a ∧ a < 9223372036854775808) (hb : 0 ≤ b ∧ b < 9223372036854775808) (hc : 0 ≤ c ∧ c < 9223372036854775808) :
    Calls Try.prog 100 #[.pointer (some ⟨wb, 0, none⟩), .int .i64 a, .int .i64 b, .int .i64 c] w fun e w' => e = .returned (.tuple #[]) ∧ Wrote O w w' wb (xs ++ (numB a ++ numB b ++ numB c)) now := by
  have la := (numB_len a).2
  have lb := (numB_len b).2
  have HN := hide (wnum_w h hO (by omega) a ha)
  have HO := hide hO
  clear h hO
  go_enter Try.func100, Try.ntmps100
  go_wp2_with fail
  refine (unhide HN).mono ?_
  rintro e w1 ⟨rfl, h1⟩
  have HN1 := hide (wnum_w h1.ex ((unhide HO).mod h1.mod) (by simp; omega) b hb)
  have M1 := hide h1.mod
  clear h1 HN
  go_wp2_with fail
  refine (unhide HN1).mono ?_
  rintro e w2 ⟨rfl, h2⟩
  have M2 := hide ((unhide M1).trans h2.mod)
  have HN2 := hide (wnum_w h2.ex ((unhide HO).mod (unhide M2)) (by simp; omega) c hc)
  clear h2 HN1
  go_wp2_with fail
  refine (unhide HN2).mono ?_
  rintro e w3 ⟨rfl, h3⟩
  have H3 := hide h3
  clear h3 HN2
  go_wp2
  go_end0
  refine ⟨rfl, ?_⟩
  rw [← List.append_assoc, ← List.append_assoc]
  exact (unhide H3).after (unhide M2) (fun _ _ x => x)
end Go.Proofs.Ythhibagcpjeihaa
