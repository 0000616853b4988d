import Derived.Test.YthhibagcpjeihaaGreatGBaseToRowS
/- The tape's methods, each by a contract over the tape's cells and the rows of bytes that its files own. -/
namespace Go.Proofs.YthhibagcpjeihaaGreat
open Go.RowKit
set_option linter.unusedVariables false

/-- One file: the slice that stands in the tape, its bytes, how many last. -/
structure TFile where
  v : Value
  xs : List Value
  last : Nat

structure TTape where
  f0 : TFile
  f1 : TFile
  f2 : TFile
  f3 : TFile
  room : Int
  fuse : Int

def TTape.cells (t : TTape) : Array Value :=
  #[t.f0.v, .int .i64 t.f0.last, t.f1.v, .int .i64 t.f1.last, t.f2.v, .int .i64 t.f2.last, t.f3.v, .int .i64 t.f3.last, .int .i64 t.room, .int .i64 t.fuse]

/-- A file's row lies in S, and is its own. -/
structure TFile.ok (S : Nat → Prop) (w : World) (f : TFile) : Prop where
  owns : w.ownsRow 0 5 1 f.v f.xs.length f.xs
  last : f.last ≤ f.xs.length
  len : f.xs.length ≤ 17592186044416
  bytes : ∀ x ∈ f.xs, ∃ n : Int, x = .int .u8 n ∧ 0 ≤ n ∧ n < 256
  inn : ∀ k, f.v.ownBlock = some k → S k

def TFile.apart (f g : TFile) : Prop := ∀ k, f.v.ownBlock = some k → g.v.ownBlock ≠ some k
theorem TFile.apart.symm {f g : TFile} (h : f.apart g) : g.apart f := fun k hk hf => h k hf hk

structure TTape.ok (S : Nat → Prop) (w : World) (b : Nat) (t : TTape) : Prop where
  has : Has w b t.cells 108
  inn : S b
  k0 : t.f0.ok S w
  k1 : t.f1.ok S w
  k2 : t.f2.ok S w
  k3 : t.f3.ok S w
  a01 : t.f0.apart t.f1
  a02 : t.f0.apart t.f2
  a03 : t.f0.apart t.f3
  a12 : t.f1.apart t.f2
  a13 : t.f1.apart t.f3
  a23 : t.f2.apart t.f3

theorem slice_form {S : Nat → Prop} {w : World} {f : TFile} (h : f.ok S w) : ∃ a cap, f.v = .slice a f.xs.length cap ∧ (f.xs.length : Int) ≤ 17592186044416 := by
  obtain ⟨⟨hl, h⟩, _, hm, _⟩ := h
  rcases h with ⟨h, hn⟩ | ⟨g, cap, cur, h, _⟩
  · exact ⟨none, 0, by rw [h, hn], by omega⟩
  · exact ⟨_, cap, h, by omega⟩

/-- The sum of the files' lengths. -/
def TTape.used (t : TTape) : Nat := t.f0.xs.length + t.f1.xs.length + t.f2.xs.length + t.f3.xs.length

theorem TFile.ok.mod {S S' : Nat → Prop} {w w' : World} {f : TFile} (h : f.ok S w) (hm : Mod S' w w') (hs : ∀ k, f.v.ownBlock = some k → ¬ S' k) : f.ok S w' :=
  ⟨hm.owns h.owns hs, h.last, h.len, h.bytes, h.inn⟩
theorem TTape.ok.mod {S S' : Nat → Prop} {w w' : World} {b : Nat} {t : TTape} (h : t.ok S w b) (hm : Mod S' w w') (hs : ∀ k, S k → ¬ S' k) : t.ok S w' b :=
  ⟨hm.has h.has (hs b h.inn), h.inn, h.k0.mod hm (fun k hk => hs k (h.k0.inn k hk)), h.k1.mod hm (fun k hk => hs k (h.k1.inn k hk)),
   h.k2.mod hm (fun k hk => hs k (h.k2.inn k hk)), h.k3.mod hm (fun k hk => hs k (h.k3.inn k hk)), h.a01, h.a02, h.a03, h.a12, h.a13, h.a23⟩
theorem TTape.ok.mod0 {S : Nat → Prop} {w w' : World} {b : Nat} {t : TTape} (h : t.ok S w b) (hm : Mod No w w') : t.ok S w' b := h.mod hm (fun _ _ x => x)
theorem TFile.ok.wide {S S' : Nat → Prop} {w : World} {f : TFile} (h : f.ok S w) (hs : ∀ k, S k → S' k) : f.ok S' w := ⟨h.owns, h.last, h.len, h.bytes, fun k hk => hs k (h.inn k hk)⟩
theorem TTape.ok.wide {S S' : Nat → Prop} {w : World} {b : Nat} {t : TTape} (h : t.ok S w b) (hs : ∀ k, S k → S' k) : t.ok S' w b :=
  ⟨h.has, hs _ h.inn, h.k0.wide hs, h.k1.wide hs, h.k2.wide hs, h.k3.wide hs, h.a01, h.a02, h.a03, h.a12, h.a13, h.a23⟩
end Go.Proofs.YthhibagcpjeihaaGreat
/- The tape's methods, continued: a new tape, its room, its fuse, burning, syncing. -/
namespace Go.Proofs.YthhibagcpjeihaaGreat
open Go.RowKit
set_option linter.unusedVariables false
set_option linter.unusedSimpArgs false

/-- What burning leaves of a fuse. -/
def burnt (f : Int) : Int := if 0 < f then f - 1 else f

theorem cells_fuse (t : TTape) (n : Int) : t.cells.setIfInBounds 9 (.int .i64 n) = ({ t with fuse := n } : TTape).cells := rfl

theorem TTape.ok.fuse {S : Nat → Prop} {w : World} {b : Nat} {t : TTape} (h : t.ok S w b) (n : Int) : ({ t with fuse := n } : TTape).ok S (w.setCell ⟨b, 9, none⟩ (.int .i64 n)) b := by
  have ne : ∀ (f : TFile), f.ok S w → f.v.ownBlock ≠ some b := fun f hf e => by
    rcases hf.owns.2 with ⟨hv, _⟩ | ⟨g, cap, cur, hv, _, hg, _⟩
    · rw [hv] at e; simp [Value.ownBlock] at e
    · rw [hv] at e; simp [Value.ownBlock] at e; subst e
      exact h.has.ne (T' := 5) hg (by decide) rfl
  have k : ∀ (f : TFile), f.ok S w → f.ok S (w.setCell ⟨b, 9, none⟩ (.int .i64 n)) := fun f hf =>
    ⟨owns_setCell_ne hf.owns (by simpa using ne f hf) _, hf.last, hf.len, hf.bytes, hf.inn⟩
  exact ⟨by have := h.has.set 9 (.int .i64 n); rwa [cells_fuse] at this, h.inn, k _ h.k0, k _ h.k1, k _ h.k2, k _ h.k3, h.a01, h.a02, h.a03, h.a12, h.a13, h.a23⟩

theorem burn_any {S : Nat → Prop} (b : Nat) (t : TTape) (w : World) (h : t.ok S w b) (hf : -4611686018427387904 ≤ t.fuse ∧ t.fuse ≤ 4611686018427387904) :
    Calls Tryz.prog 73 #[.pointer (some ⟨b, 0, none⟩)] w fun e w' => e = .returned (.bool (decide (t.fuse ≠ 0))) ∧ ({ t with fuse := burnt t.fuse } : TTape).ok S w' b ∧ Mod (· = b) w w' := by
  have hc := h.has.cell
  have hz := h.has.frozen
  have H := hide h
  have e9 : t.cells[9]? = some (.int .i64 t.fuse) := rfl
  have hc9 := hc 9
  rw [e9] at hc9
  clear hc h e9
  obtain ⟨f0, f1, f2, f3, room, f⟩ := t
  simp only at hc9 hf
  simp only
  rcases Int.lt_trichotomy f 0 with hlt | heq | hgt
  · go_enter Tryz.func73, Tryz.ntmps73
    go_wp2
    all_goals go_ret
    all_goals exact ⟨by simp; omega, by simpa [burnt, Int.not_lt.2 (Int.le_of_lt hlt)] using unhide H, Mod.refl _ _⟩
  · subst heq
    go_enter Tryz.func73, Tryz.ntmps73
    go_wp2
    all_goals go_ret
    all_goals exact ⟨by simp, by simpa [burnt] using unhide H, Mod.refl _ _⟩
  · have hw := wrap_id (f - 1) (by omega) (by omega)
    go_enter Tryz.func73, Tryz.ntmps73
    go_wp2
    all_goals go_ret
    all_goals exact ⟨by simp; omega, by simpa [burnt, hgt] using (unhide H).fuse (f - 1), Mod.setCell (S := fun k => k = b) (Mod.refl _ w) (p := ⟨b, 9, none⟩) (.inl rfl) _⟩


def TTape.get (t : TTape) : Nat → TFile
  | 0 => t.f0
  | 1 => t.f1
  | 2 => t.f2
  | _ => t.f3
def TTape.put (t : TTape) (f : TFile) : Nat → TTape
  | 0 => { t with f0 := f }
  | 1 => { t with f1 := f }
  | 2 => { t with f2 := f }
  | _ => { t with f3 := f }

/-- The tape's block, or a file's row: what one file's own work may turn. -/
def Touch (b : Nat) (f : TFile) : Nat → Prop := fun k => k = b ∨ f.v.ownBlock = some k

theorem TFile.ok.ne {S : Nat → Prop} {w : World} {f : TFile} (hf : f.ok S w) {b : Nat} {cs : Array Value} (h : Has w b cs 108) : f.v.ownBlock ≠ some b := fun e => by
  rcases hf.owns.2 with ⟨hv, _⟩ | ⟨g, cap, cur, hv, _, hg, _⟩
  · rw [hv] at e; simp [Value.ownBlock] at e
  · rw [hv] at e; simp [Value.ownBlock] at e; subst e
    exact h.ne (T' := 5) hg (by decide) rfl

/-- Another file's work leaves a file as it is. -/
theorem TFile.ok.other {S : Nat → Prop} {w w' : World} {b : Nat} {f g : TFile} {cs : Array Value} (hf : f.ok S w) (hb : Has w b cs 108) (ha : f.apart g) (hm : Mod (Touch b g) w w') : f.ok S w' :=
  hf.mod hm (fun k hk => by
    rintro (rfl | h)
    · exact hf.ne hb hk
    · exact ha k hk h)

/-- A file is written anew: its row, its bytes, its last. -/
theorem TTape.ok.put {S S' : Nat → Prop} {w w' : World} {b : Nat} {t : TTape} (h : t.ok S w b) (i : Nat) (hi : i < 4) (f : TFile)
    (hm : Mod (Touch b (t.get i)) w w') (hhas : Has w' b (t.put f i).cells 108) (hf : f.ok S' w') (hS : ∀ k, S k → S' k)
    (hst : ∀ k, f.v.ownBlock = some k → (t.get i).v.ownBlock = some k ∨ w.heap.size ≤ k) : (t.put f i).ok S' w' b := by
  have lt : ∀ (g : TFile), g.ok S w → ∀ k, g.v.ownBlock = some k → k < w.heap.size := fun g hg k hk => (hg.owns.lt k hk).2
  have ap : ∀ (g : TFile), g.ok S w → (t.get i).apart g → f.apart g := fun g hg ha k hk hgk => by
    rcases hst k hk with h1 | h1
    · exact ha k h1 hgk
    · have := lt g hg k hgk; omega
  match i, hi with
  | 0, _ =>
    exact ⟨hhas, hS _ h.inn, hf, (h.k1.other h.has h.a01.symm hm).wide hS, (h.k2.other h.has h.a02.symm hm).wide hS, (h.k3.other h.has h.a03.symm hm).wide hS,
      ap _ h.k1 h.a01, ap _ h.k2 h.a02, ap _ h.k3 h.a03, h.a12, h.a13, h.a23⟩
  | 1, _ =>
    exact ⟨hhas, hS _ h.inn, (h.k0.other h.has h.a01 hm).wide hS, hf, (h.k2.other h.has h.a12.symm hm).wide hS, (h.k3.other h.has h.a13.symm hm).wide hS,
      (ap _ h.k0 h.a01.symm).symm, h.a02, h.a03, ap _ h.k2 h.a12, ap _ h.k3 h.a13, h.a23⟩
  | 2, _ =>
    exact ⟨hhas, hS _ h.inn, (h.k0.other h.has h.a02 hm).wide hS, (h.k1.other h.has h.a12 hm).wide hS, hf, (h.k3.other h.has h.a23.symm hm).wide hS,
      h.a01, (ap _ h.k0 h.a02.symm).symm, h.a03, (ap _ h.k1 h.a12.symm).symm, h.a13, ap _ h.k3 h.a23⟩
  | 3, _ =>
    exact ⟨hhas, hS _ h.inn, (h.k0.other h.has h.a03 hm).wide hS, (h.k1.other h.has h.a13 hm).wide hS, (h.k2.other h.has h.a23 hm).wide hS, hf,
      h.a01, h.a02, (ap _ h.k0 h.a03.symm).symm, h.a12, (ap _ h.k1 h.a13.symm).symm, (ap _ h.k2 h.a23.symm).symm⟩
theorem TTape.ok.get {S : Nat → Prop} {w : World} {b : Nat} {t : TTape} (h : t.ok S w b) (i : Nat) (hi : i < 4) : (t.get i).ok S w := by
  match i, hi with
  | 0, _ => exact h.k0
  | 1, _ => exact h.k1
  | 2, _ => exact h.k2
  | 3, _ => exact h.k3

theorem cells_v (t : TTape) (i : Nat) (hi : i < 4) : t.cells[i * 2]? = some (t.get i).v ∧ t.cells[i * 2 + 1]? = some (.int .i64 (t.get i).last) := by
  match i, hi with
  | 0, _ => exact ⟨rfl, rfl⟩
  | 1, _ => exact ⟨rfl, rfl⟩
  | 2, _ => exact ⟨rfl, rfl⟩
  | 3, _ => exact ⟨rfl, rfl⟩
theorem cells_put (t : TTape) (v : Value) (xs : List Value) (l : Nat) (i : Nat) (hi : i < 4) : (t.cells.setIfInBounds (i * 2) v).setIfInBounds (i * 2 + 1) (.int .i64 l) = (t.put ⟨v, xs, l⟩ i).cells := by
  match i, hi with
  | 0, _ => rfl
  | 1, _ => rfl
  | 2, _ => rfl
  | 3, _ => rfl
theorem cells_put_v (t : TTape) (v : Value) (xs : List Value) (i : Nat) (hi : i < 4) : t.cells.setIfInBounds (i * 2) v = (t.put ⟨v, xs, (t.get i).last⟩ i).cells := by
  match i, hi with
  | 0, _ => rfl
  | 1, _ => rfl
  | 2, _ => rfl
  | 3, _ => rfl
theorem cells_put_l (t : TTape) (xs : List Value) (l : Nat) (i : Nat) (hi : i < 4) : t.cells.setIfInBounds (i * 2 + 1) (.int .i64 l) = (t.put ⟨(t.get i).v, xs, l⟩ i).cells := by
  match i, hi with
  | 0, _ => rfl
  | 1, _ => rfl
  | 2, _ => rfl
  | 3, _ => rfl

theorem new_any (n : Int) (w : World) :
    Calls Tryz.prog 18 #[.int .i64 n] w fun e w' => e = .returned (.pointer (some ⟨w.heap.size, 0, none⟩)) ∧
      w' = w.alloc (.cells (⟨⟨.slice none 0 0, [], 0⟩, ⟨.slice none 0 0, [], 0⟩, ⟨.slice none 0 0, [], 0⟩, ⟨.slice none 0 0, [], 0⟩, n, -1⟩ : TTape).cells 108) := by
  go_enter Tryz.func18, Tryz.ntmps18
  go_wp2
  go_ret
  exact ⟨rfl, rfl⟩
theorem fuse_any (b : Nat) (n : Int) (w : World) (cs : Array Value) (h : Has w b cs 108) (h9 : 9 < cs.size) :
    Calls Tryz.prog 19 #[.pointer (some ⟨b, 0, none⟩), .int .i64 n] w fun e w' => e = .returned (.tuple #[]) ∧ w' = w.setCell ⟨b, 9, none⟩ (.int .i64 n) := by
  have hc := h.cell 9
  have hz := h.frozen 9
  rw [Array.getElem?_eq_getElem h9] at hc
  clear h
  generalize cs[9] = x at hc
  go_enter Tryz.func19, Tryz.ntmps19
  go_wp2
  go_end0
  exact ⟨rfl, rfl⟩
theorem room_any (b : Nat) (n : Int) (w : World) (cs : Array Value) (h : Has w b cs 108) (h8 : cs[8]? = some (.int .i64 n)) :
    Calls Tryz.prog 28 #[.pointer (some ⟨b, 0, none⟩)] w fun e w' => e = .returned (.int .i64 n) ∧ w' = w := by
  have hc := h.cell 8
  rw [h8] at hc
  clear h
  go_enter Tryz.func28, Tryz.ntmps28
  go_wp2
  go_ret
  exact ⟨rfl, rfl⟩
end Go.Proofs.YthhibagcpjeihaaGreat
/- The tape's files: how long they are; what fits. -/
namespace Go.Proofs.YthhibagcpjeihaaGreat
open Go.RowKit
set_option linter.unusedVariables false

theorem idx84_0 (x0 x1 x2 x3 x4 x5 x6 x7 : Value) (w : World) : (Instr.index 106 (.agg #[x0, x1, x2, x3, x4, x5, x6, x7]) (.int .i64 0)).run Tryz.prog w = .ok (.agg #[x0, x1]) w := by
  simp [go_sem, Instr.index]
theorem idx84_1 (x0 x1 x2 x3 x4 x5 x6 x7 : Value) (w : World) : (Instr.index 106 (.agg #[x0, x1, x2, x3, x4, x5, x6, x7]) (.int .i64 1)).run Tryz.prog w = .ok (.agg #[x2, x3]) w := by
  simp [go_sem, Instr.index]
theorem idx84_2 (x0 x1 x2 x3 x4 x5 x6 x7 : Value) (w : World) : (Instr.index 106 (.agg #[x0, x1, x2, x3, x4, x5, x6, x7]) (.int .i64 2)).run Tryz.prog w = .ok (.agg #[x4, x5]) w := by
  simp [go_sem, Instr.index]
theorem idx84_3 (x0 x1 x2 x3 x4 x5 x6 x7 : Value) (w : World) : (Instr.index 106 (.agg #[x0, x1, x2, x3, x4, x5, x6, x7]) (.int .i64 3)).run Tryz.prog w = .ok (.agg #[x6, x7]) w := by
  simp [go_sem, Instr.index]
attribute [local go_sem] idx84_0 idx84_1 idx84_2 idx84_3

set_option maxRecDepth 100000 in
theorem used_core (b : Nat) (a0 a1 a2 a3 : Option Addr) (n0 n1 n2 n3 c0 c1 c2 c3 : Nat) (l0 l1 l2 l3 r f : Int) (w : World)
    (h0 : n0 ≤ 17592186044416) (h1 : n1 ≤ 17592186044416) (h2 : n2 ≤ 17592186044416) (h3 : n3 ≤ 17592186044416)
    (hc : ∀ o, w.cell? ⟨b, o, none⟩ = (#[.slice a0 n0 c0, .int .i64 l0, .slice a1 n1 c1, .int .i64 l1, .slice a2 n2 c2, .int .i64 l2, .slice a3 n3 c3, .int .i64 l3, .int .i64 r, .int .i64 f] : Array Value)[o]?) :
    Calls Tryz.prog 137 #[.pointer (some ⟨b, 0, none⟩)] w fun e w' => e = .returned (.int .i64 (n0 + n1 + n2 + n3 : Nat)) ∧ Mod No w w' := by
  go_enter Tryz.func137, Tryz.ntmps137
  go_wp2
  go_loopw [3, 10] (fun n i wr => ((i = .int .i64 0 ∧ n = .int .i64 0) ∨ (i = .int .i64 1 ∧ n = .int .i64 n0) ∨ (i = .int .i64 2 ∧ n = .int .i64 (n0 + n1)) ∨ (i = .int .i64 3 ∧ n = .int .i64 (n0 + n1 + n2)) ∨ (i = .int .i64 4 ∧ n = .int .i64 (n0 + n1 + n2 + n3))) ∧ Mod No w wr) (fun _ i _ => 4 - (intOf i).toNat)
  case atStart => exact ⟨.inl ⟨rfl, rfl⟩, Mod.refl _ _⟩
  case round =>
    obtain ⟨hr, hm⟩ := hrel
    clear hc
    rcases hr with ⟨rfl, rfl⟩ | ⟨rfl, rfl⟩ | ⟨rfl, rfl⟩ | ⟨rfl, rfl⟩ | ⟨rfl, rfl⟩
    · go_wp2
      go_roundw
      · exact ⟨.inr (.inl ⟨rfl, rfl⟩), hm.alloc _⟩
      · simp [intOf]
    · go_wp2
      go_roundw
      · exact ⟨.inr (.inr (.inl ⟨rfl, rfl⟩)), hm.alloc _⟩
      · simp [intOf]
    · go_wp2
      go_roundw
      · exact ⟨.inr (.inr (.inr (.inl ⟨rfl, rfl⟩))), hm.alloc _⟩
      · simp [intOf]
    · go_wp2
      go_roundw
      · exact ⟨.inr (.inr (.inr (.inr ⟨rfl, rfl⟩))), hm.alloc _⟩
      · simp [intOf]
    · go_wp2
      go_ret
      exact ⟨rfl, hm⟩

theorem used_any {S : Nat → Prop} (b : Nat) (t : TTape) (w : World) (h : t.ok S w b) :
    Calls Tryz.prog 137 #[.pointer (some ⟨b, 0, none⟩)] w fun e w' => e = .returned (.int .i64 t.used) ∧ Mod No w w' := by
  have hc := h.has.cell
  obtain ⟨a0, c0, e0, m0⟩ := slice_form h.k0
  obtain ⟨a1, c1, e1, m1⟩ := slice_form h.k1
  obtain ⟨a2, c2, e2, m2⟩ := slice_form h.k2
  obtain ⟨a3, c3, e3, m3⟩ := slice_form h.k3
  unfold TTape.cells at hc
  rw [e0, e1, e2, e3] at hc
  exact used_core b a0 a1 a2 a3 _ _ _ _ c0 c1 c2 c3 _ _ _ _ _ _ w (by omega) (by omega) (by omega) (by omega) hc

theorem fits_core (b : Nat) (cs : Array Value) (u n r : Int) (w : World) (hu : 0 ≤ u) (hu2 : u ≤ 140737488355328) (hn : 0 ≤ n) (hn2 : n ≤ 140737488355328) (h : Has w b cs 108)
    (hused : ∀ W, Mod No w W → Calls Tryz.prog 137 #[.pointer (some ⟨b, 0, none⟩)] W fun e w' => e = .returned (.int .i64 u) ∧ Mod No W w')
    (hr : cs[8]? = some (.int .i64 r)) :
    Calls Tryz.prog 122 #[.pointer (some ⟨b, 0, none⟩), .int .i64 n] w fun e w' => e = .returned (.bool (decide (u + n ≤ r))) ∧ Mod No w w' := by
  have hc := h.cell
  have hw := wrap_id (u + n) (by omega) (by omega)
  go_enter Tryz.func122, Tryz.ntmps122
  go_wp2_with fail
  go_region_with (go_at_call 137; refine (hused _ ?_).mono ?_; exact (Mod.refl No w).drew; rintro e w' ⟨rfl, hm⟩; have hc' := (hm.has h.drew (fun x => x)).cell)
  all_goals
    go_wp2
    go_ret
    exact ⟨by simp [Act.put], (Mod.refl No w).drew.trans hm⟩

theorem fits_any {S : Nat → Prop} (b : Nat) (t : TTape) (n : Int) (w : World) (h : t.ok S w b) (hn : 0 ≤ n) (hn2 : n ≤ 140737488355328) :
    Calls Tryz.prog 122 #[.pointer (some ⟨b, 0, none⟩), .int .i64 n] w fun e w' => e = .returned (.bool (decide (t.used + n ≤ t.room))) ∧ Mod No w w' :=
  fits_core b t.cells t.used n t.room w (by omega)
    (by have h0 := h.k0.len; have h1 := h.k1.len; have h2 := h.k2.len; have h3 := h.k3.len; unfold TTape.used; omega) hn hn2 h.has
    (fun W hW => used_any b t W (h.mod0 hW)) rfl

end Go.Proofs.YthhibagcpjeihaaGreat
/- The tape's methods, continued: syncing, clearing, appending. -/
namespace Go.Proofs.YthhibagcpjeihaaGreat
open Go.RowKit
set_option linter.unusedVariables false
set_option linter.unusedSimpArgs false

theorem put_fuse (t : TTape) (f : TFile) (x : Int) (i : Nat) : ({ t.put f i with fuse := x } : TTape) = ({ t with fuse := x } : TTape).put f i := by
  unfold TTape.put
  split <;> rfl
theorem get_fuse (t : TTape) (x : Int) (i : Nat) : ({ t with fuse := x } : TTape).get i = t.get i := by
  unfold TTape.get
  split <;> rfl

theorem TTape.ok.last {S : Nat → Prop} {w : World} {b : Nat} {t : TTape} (h : t.ok S w b) (i : Nat) (hi : i < 4) (n : Nat) (hn : n ≤ (t.get i).xs.length) :
    (t.put ⟨(t.get i).v, (t.get i).xs, n⟩ i).ok S (w.setCell ⟨b, i * 2 + 1, none⟩ (.int .i64 n)) b := by
  have hg := h.get i hi
  refine h.put i hi _ (Mod.setCell (Mod.refl _ w) (p := ⟨b, i * 2 + 1, none⟩) (.inl (.inl rfl)) _) ?_ ?_ (fun _ x => x) (fun k hk => .inl hk)
  · have := h.has.set (i * 2 + 1) (.int .i64 n)
    rwa [cells_put_l t (t.get i).xs n i hi] at this
  · exact ⟨owns_setCell_ne hg.owns (by simpa using hg.ne h.has) _, hn, hg.len, hg.bytes, hg.inn⟩

theorem sync_core (b : Nat) (t : TTape) (i : Nat) (hi : i < 4) (S : Nat → Prop) (w : World) (h : t.ok S w b)
    (hf : -4611686018427387904 ≤ t.fuse ∧ t.fuse ≤ 4611686018427387904) (h0 : t.fuse ≠ 0) :
    Calls Tryz.prog 45 #[.pointer (some ⟨b, 0, none⟩), .int .i64 i] w fun e w' => e = .returned (.bool true) ∧
      ({ t.put ⟨(t.get i).v, (t.get i).xs, (t.get i).xs.length⟩ i with fuse := burnt t.fuse } : TTape).ok S w' b ∧ Mod (· = b) w w' := by
  have hburn := fun W (hW : t.ok S W b) => burn_any b t W hW hf
  simp only [ne_eq, h0, not_false_eq_true, decide_true] at hburn
  have H := hide h
  have HB := hide hburn
  clear hburn h
  have hi' : (i : Int) < 4 := by omega
  go_enter Tryz.func45, Tryz.ntmps45
  go_wp2_with fail
  refine ((unhide HB) _ (unhide H)).mono ?_
  rintro e w1 ⟨rfl, h1, m1⟩
  have hc := h1.has.cell (i * 2)
  have hc' := h1.has.cell (i * 2 + 1)
  have hz := h1.has.frozen
  rw [(cells_v _ i hi).1] at hc
  rw [(cells_v _ i hi).2] at hc'
  obtain ⟨a0, c0, e0, m0⟩ := slice_form (h1.get i hi)
  rw [e0] at hc
  have H1 := hide h1
  have M1 := hide m1
  have E0 := hide e0
  clear h1 m1 e0
  generalize hn : ((({ t with fuse := burnt t.fuse } : TTape).get i).xs.length) = n at *
  have HN := hide hn
  clear hn
  go_wp2_with fail
  go_region
  all_goals
    go_wp2
    go_ret
    refine ⟨rfl, ?_, Mod.trans (unhide M1) (Mod.setCell (S := fun k => k = b) (Mod.refl _ w1) (p := ⟨b, i * 2 + 1, none⟩) (.inl rfl) _).drew⟩
    rw [put_fuse]
    have hl := TTape.ok.last (unhide H1) i hi n (by rw [unhide HN]; exact Nat.le_refl _)
    have hn := unhide HN
    rw [get_fuse] at hn hl
    rw [hn]
    exact hl.mod0 (Mod.refl No _).drew

theorem sync_dead (b : Nat) (t : TTape) (i : Nat) (hi : i < 4) (S : Nat → Prop) (w : World) (h : t.ok S w b) (h0 : t.fuse = 0) :
    Calls Tryz.prog 45 #[.pointer (some ⟨b, 0, none⟩), .int .i64 i] w fun e w' => e = .returned (.bool false) ∧ t.ok S w' b ∧ Mod (· = b) w w' := by
  have hburn := fun W (hW : t.ok S W b) => burn_any b t W hW (by omega)
  simp only [ne_eq, h0, not_true_eq_false, decide_false] at hburn
  have H := hide h
  have HB := hide hburn
  have h0' := hide h0
  clear hburn h h0
  have hi' : (i : Int) < 4 := by omega
  go_enter Tryz.func45, Tryz.ntmps45
  go_wp2_with fail
  refine ((unhide HB) _ (unhide H)).mono ?_
  rintro e w1 ⟨rfl, h1, m1⟩
  have H1 := hide h1
  have M1 := hide m1
  clear h1 m1
  go_wp2
  go_ret
  have h2 := unhide H1
  rw [show burnt 0 = 0 from rfl] at h2
  refine ⟨rfl, ?_, unhide M1⟩
  have e : ({ t with fuse := 0 } : TTape) = t := by cases t; simp only at h0'; rw [unhide h0']
  rw [e] at h2
  exact h2

theorem Mod.reads {S : Nat → Prop} {w w' : World} (hm : Mod S w w') {x : Value} {m : Nat} {news : List Value} (h : Reads w x m news) (hs : ∀ k, x.ownBlock = some k → ¬ S k) : Reads w' x m news := h.mod hm hs


theorem info5 : (Tryz.prog.info? 5).map (fun i => (i.zero, i.size, i.bytes)) = some (some (.int .u8 0), 1, 1) := by kernel_rfl

theorem TTape.ok.row {S : Nat → Prop} {w w1 : World} {b : Nat} {t : TTape} (h : t.ok S w b) (i : Nat) (hi : i < 4) (v' : Value) (xs' : List Value)
    (hg : w.grownBy w1 (t.get i).v.ownBlock) (ho : w1.ownsRow 0 5 1 v' xs'.length xs') (hst : Stays w (t.get i).v v')
    (hl : (t.get i).last ≤ xs'.length) (hlen : xs'.length ≤ 17592186044416) (hb : ∀ x ∈ xs', ∃ n : Int, x = .int .u8 n ∧ 0 ≤ n ∧ n < 256) :
    (t.put ⟨v', xs', (t.get i).last⟩ i).ok (fun k => S k ∨ w.heap.size ≤ k) (w1.setCell ⟨b, i * 2, none⟩ v') b ∧ Mod S w (w1.setCell ⟨b, i * 2, none⟩ v') := by
  have hgi := h.get i hi
  have hm1 : Mod (Touch b (t.get i)) w w1 := (Mod.refl _ w).grown hg (fun k hk => .inl (.inr hk))
  have hm : Mod (Touch b (t.get i)) w (w1.setCell ⟨b, i * 2, none⟩ v') := hm1.setCell (p := ⟨b, i * 2, none⟩) (.inl (.inl rfl)) _
  have hh1 : Has w1 b t.cells 108 := by
    unfold Has
    rw [hg.block b h.has.lt (fun e => hgi.ne h.has e.symm)]
    exact h.has
  have hne : v'.ownBlock ≠ some b := fun e => by
    rcases hst b e with h1 | h1
    · exact hgi.ne h.has h1
    · have := h.has.lt; omega
  refine ⟨h.put i hi _ hm ?_ ?_ (fun k hk => .inl hk) hst, hm.mono (fun k hk hT => ?_)⟩
  · have := hh1.set (i * 2) v'
    rwa [cells_put_v t v' xs' i hi] at this
  · refine ⟨owns_setCell_ne ho (by simpa using hne) _, hl, hlen, hb, fun k hk => ?_⟩
    rcases hst k hk with h1 | h1
    · exact .inl (hgi.inn k h1)
    · exact .inr h1
  · rcases hT with rfl | hT
    · exact h.inn
    · exact hgi.inn k hT

theorem append_no (b : Nat) (t : TTape) (i : Nat) (hi : i < 4) (S : Nat → Prop) (w : World) (h : t.ok S w b) (xa : Option Addr) (m c : Nat) (hm : m ≤ 17592186044416) (hno : t.room < t.used + m) :
    Calls Tryz.prog 123 #[.pointer (some ⟨b, 0, none⟩), .int .i64 i, .slice xa m c] w fun e w' => e = .returned (.bool false) ∧ Mod No w w' := by
  have hfits := fits_any b t m w h (by omega) (by omega)
  have hd : decide ((t.used : Int) + m ≤ t.room) = false := by simp; omega
  rw [hd] at hfits
  have HF := hide hfits
  clear hfits h hd hno
  have hi' : (i : Int) < 4 := by omega
  go_enter Tryz.func123, Tryz.ntmps123
  go_wp2_with fail
  refine (unhide HF).mono ?_
  rintro e w1 ⟨rfl, m1⟩
  have M1 := hide m1
  clear m1
  go_wp2
  go_ret
  exact ⟨rfl, unhide M1⟩

set_option maxRecDepth 100000 in
theorem append_yes (b : Nat) (t : TTape) (i : Nat) (hi : i < 4) (S : Nat → Prop) (w : World) (h : t.ok S w b) (xa : Option Addr) (m c : Nat) (news : List Value)
    (hx : Reads w (.slice xa m c) m news) (hxb : (Value.slice xa m c).ownBlock ≠ some b) (hn : news.length = m) (hu : ∀ x ∈ news, ∃ n : Int, x = .int .u8 n ∧ 0 ≤ n ∧ n < 256)
    (hm : (t.get i).xs.length + m ≤ 17592186044416) (hroom : t.used + m ≤ t.room)
    (hf : -4611686018427387904 ≤ t.fuse ∧ t.fuse ≤ 4611686018427387904) (h0 : t.fuse ≠ 0) :
    Calls Tryz.prog 123 #[.pointer (some ⟨b, 0, none⟩), .int .i64 i, .slice xa m c] w fun e w' => e = .returned (.bool true) ∧
      (∃ v', ({ t.put ⟨v', (t.get i).xs ++ news, (t.get i).last⟩ i with fuse := burnt t.fuse } : TTape).ok (fun k => S k ∨ w.heap.size ≤ k) w' b) ∧ Mod S w w' := by
  have hfits := fits_any b t m w h (by omega) (by omega)
  have hd : decide ((t.used : Int) + m ≤ t.room) = true := by simp; omega
  rw [hd] at hfits
  have HF := hide hfits
  have hburn := fun W (hW : t.ok S W b) => burn_any b t W hW hf
  simp only [ne_eq, h0, not_false_eq_true, decide_true] at hburn
  have H := hide h
  have HB := hide hburn
  have HX := hide hx
  have HXB := hide hxb
  have HN := hide hn
  have HU := hide hu
  clear hfits h hd hburn hx hxb hn hu
  have hi' : (i : Int) < 4 := by omega
  obtain ⟨i5, q0, q1, q2, q3⟩ := info_parts info5
  go_enter Tryz.func123, Tryz.ntmps123
  go_wp2_with fail
  refine (unhide HF).mono ?_
  rintro e w1 ⟨rfl, m1⟩
  have H1 := hide ((unhide H).mod0 m1)
  have HX1 := hide ((unhide HX).mod m1 (fun _ _ x => x))
  have M1 := hide m1
  clear m1
  go_wp2_with fail
  refine ((unhide HB) _ (unhide H1)).mono ?_
  rintro e w2 ⟨rfl, h2, m2⟩
  have hx2 := (unhide HX1).mod m2 (fun k hk e => (unhide HXB) (by rw [hk, e]))
  have M2 := hide m2
  have hc := h2.has.cell (i * 2)
  have hz := h2.has.frozen
  rw [(cells_v _ i hi).1] at hc
  have hh2 := h2.has
  have g2 := h2.get i hi
  rw [get_fuse] at hc g2
  have hown := g2.owns
  have hne := g2.ne hh2
  have H2 := hide h2
  have G2 := hide g2
  have HX2 := hide hx2
  have HH2 := hide hh2
  have HO := hide hown
  have HNE := hide hne
  clear h2 m2 hx2 hh2 g2 hown hne
  have hone : ∀ u ∈ news, u.oneCell' = true := fun u hu => by obtain ⟨n, rfl, _⟩ := (unhide HU) u hu; rfl
  have HONE := hide hone
  clear hone
  go_wp2_with fail
  go_region_law (refine step_append_row rfl (.tmp 33) (.tmp 34) 103 rfl 5 i5 (.int .u8 0) 1 1 Tryz.underlying103 q0 q1 q2 q3 rfl (by decide) (t.get i).v (t.get i).xs.length (t.get i).xs (by simp [Act.eval, Act.put]) (by exact unhide HO) (.slice xa m c) m news (by simp [Act.eval, Act.put]) (by exact unhide HX2) (by rw [unhide HN]; omega) (unhide HONE) (by unfold maxLen; omega) (by omega) ?_; intro v' w3 ho3 hg3 hs3; obtain ⟨a3, c3, rfl⟩ := slice_of_owns ho3; have hk3 : Has w3 b _ 108 := (by unfold Has; rw [hg3.block b (unhide HH2).lt (fun e => (unhide HNE) e.symm)]; exact unhide HH2); have hc3 := hk3.cell (i * 2); have hz3 := hk3.frozen; rw [(cells_v _ i hi).1] at hc3)
  all_goals
    go_wp2
    go_ret
  have hlen : (t.get i).xs.length + m = ((t.get i).xs ++ news).length := by rw [List.length_append, unhide HN]
  have hin := unhide H
  have hgi := hin.get i hi
  have key := @TTape.ok.row S w2.drew w3 b { t with fuse := burnt t.fuse } ((unhide H2).mod0 (Mod.refl No _).drew) i hi _ ((t.get i).xs ++ news) (by rw [get_fuse]; exact hg3)
    (by rw [← hlen]; exact ho3) (by rw [get_fuse]; exact hs3) (by rw [get_fuse]; have := hgi.last; rw [List.length_append]; omega) (by rw [← hlen]; exact hm)
    (fun x hx => by
      rcases List.mem_append.1 hx with h | h
      · exact hgi.bytes x h
      · exact (unhide HU) x h)
  simp only [get_fuse] at key
  have s1 := (unhide M1).size
  have s2 := (unhide M2).size
  have mm1 : Mod S w w1 := (unhide M1).mono (fun _ _ x => x.elim)
  have mm2 : Mod S w1 w2 := (unhide M2).mono (fun k _ e => by rw [e]; exact hin.inn)
  refine ⟨rfl, ⟨.slice a3 ((t.get i).xs.length + m) c3, ?_⟩, (mm1.trans mm2).drew.trans key.2⟩
  rw [put_fuse]
  refine key.1.wide (fun k hk => ?_)
  rcases hk with hk | hk
  · exact .inl hk
  · refine .inr (Nat.le_trans (Nat.le_trans s1 s2) ?_)
    simpa using hk

theorem append_bad (b : Nat) (i : Int) (hi : i < 0 ∨ 4 ≤ i) (w : World) (xa : Option Addr) (m c : Nat) :
    Calls Tryz.prog 123 #[.pointer (some ⟨b, 0, none⟩), .int .i64 i, .slice xa m c] w fun e w' => e = .returned (.bool false) ∧ w' = w := by
  rcases hi with hi | hi
  · go_enter Tryz.func123, Tryz.ntmps123
    go_wp2
    go_ret
    exact ⟨rfl, rfl⟩
  · have hi2 : ¬ i < 0 := by omega
    go_enter Tryz.func123, Tryz.ntmps123
    go_wp2
    go_ret
    exact ⟨rfl, rfl⟩

theorem append_dead (b : Nat) (t : TTape) (i : Nat) (hi : i < 4) (S : Nat → Prop) (w : World) (h : t.ok S w b) (xa : Option Addr) (m c : Nat) (hm : m ≤ 17592186044416) (hroom : t.used + m ≤ t.room) (h0 : t.fuse = 0) :
    Calls Tryz.prog 123 #[.pointer (some ⟨b, 0, none⟩), .int .i64 i, .slice xa m c] w fun e w' => e = .returned (.bool false) ∧ t.ok S w' b ∧ Mod S w w' := by
  have hfits := fits_any b t m w h (by omega) (by omega)
  have hd : decide ((t.used : Int) + m ≤ t.room) = true := by simp; omega
  rw [hd] at hfits
  have HF := hide hfits
  have hburn := fun W (hW : t.ok S W b) => burn_any b t W hW (by omega)
  simp only [ne_eq, h0, not_true_eq_false, decide_false] at hburn
  have H := hide h
  have HB := hide hburn
  have h0' := hide h0
  clear hfits h hd hburn h0
  have hi' : (i : Int) < 4 := by omega
  go_enter Tryz.func123, Tryz.ntmps123
  go_wp2_with fail
  refine (unhide HF).mono ?_
  rintro e w1 ⟨rfl, m1⟩
  have H1 := hide ((unhide H).mod0 m1)
  have M1 := hide m1
  clear m1
  go_wp2_with fail
  refine ((unhide HB) _ (unhide H1)).mono ?_
  rintro e w2 ⟨rfl, h2, m2⟩
  have H2 := hide h2
  have M2 := hide m2
  clear h2 m2
  go_wp2
  go_ret
  have h2 := unhide H2
  rw [show burnt 0 = 0 from rfl] at h2
  have e : ({ t with fuse := 0 } : TTape) = t := by cases t; simp only at h0'; rw [unhide h0']
  rw [e] at h2
  exact ⟨rfl, h2, ((unhide M1).mono (fun _ _ x => x.elim)).trans ((unhide M2).mono (fun k _ e => by rw [e]; exact (unhide H).inn))⟩

/-- All its blocks are there. -/
theorem TTape.ok.narrow {S : Nat → Prop} {w : World} {b : Nat} {t : TTape} (h : t.ok S w b) : t.ok (fun k => S k ∧ k < w.heap.size) w b := by
  have f : ∀ g : TFile, g.ok S w → g.ok (fun k => S k ∧ k < w.heap.size) w := fun g hg => ⟨hg.owns, hg.last, hg.len, hg.bytes, fun k hk => ⟨hg.inn k hk, (hg.owns.lt k hk).2⟩⟩
  exact ⟨h.has, ⟨h.inn, h.has.lt⟩, f _ h.k0, f _ h.k1, f _ h.k2, f _ h.k3, h.a01, h.a02, h.a03, h.a12, h.a13, h.a23⟩
end Go.Proofs.YthhibagcpjeihaaGreat
