import Derived.Test.YtlcbemcamdafjaaCnamesBase
/- The tape's methods, each by a contract over the tape's cells and the rows of bytes that its files own. -/
namespace Go.Proofs.Ytlcbemcamdafjaa
open Go.RowKit
set_option linter.unusedVariables false

/-- One file: the slice that stands in the tape, its bytes, how many last. -/
structure TFile where
  v : Value
  xs : List Value
  last : Nat

structure TTape where
  f0 : TFile
  f1 : TFile
  f2 : TFile
  f3 : TFile
  room : Int
  fuse : Int

def TTape.cells (t : TTape) : Array Value :=
  #[t.f0.v, .int .i64 t.f0.last, t.f1.v, .int .i64 t.f1.last, t.f2.v, .int .i64 t.f2.last, t.f3.v, .int .i64 t.f3.last, .int .i64 t.room, .int .i64 t.fuse]

/-- A file's row lies in S, and is its own. -/
structure TFile.ok (S : Nat → Prop) (w : World) (f : TFile) : Prop where
  owns : w.ownsRow 0 5 1 f.v f.xs.length f.xs
  last : f.last ≤ f.xs.length
  len : f.xs.length ≤ 17592186044416
  bytes : ∀ x ∈ f.xs, ∃ n : Int, x = .int .u8 n ∧ 0 ≤ n ∧ n < 256
  inn : ∀ k, f.v.ownBlock = some k → S k

def TFile.apart (f g : TFile) : Prop := ∀ k, f.v.ownBlock = some k → g.v.ownBlock ≠ some k
theorem TFile.apart.symm {f g : TFile} (h : f.apart g) : g.apart f := fun k hk hf => h k hf hk

structure TTape.ok (S : Nat → Prop) (w : World) (b : Nat) (t : TTape) : Prop where
  has : Has w b t.cells 96
  inn : S b
  k0 : t.f0.ok S w
  k1 : t.f1.ok S w
  k2 : t.f2.ok S w
  k3 : t.f3.ok S w
  a01 : t.f0.apart t.f1
  a02 : t.f0.apart t.f2
  a03 : t.f0.apart t.f3
  a12 : t.f1.apart t.f2
  a13 : t.f1.apart t.f3
  a23 : t.f2.apart t.f3

theorem slice_form {S : Nat → Prop} {w : World} {f : TFile} (h : f.ok S w) : ∃ a cap, f.v = .slice a f.xs.length cap ∧ (f.xs.length : Int) ≤ 17592186044416 := by
  obtain ⟨⟨hl, h⟩, _, hm, _⟩ := h
  rcases h with ⟨h, hn⟩ | ⟨g, cap, cur, h, _⟩
  · exact ⟨none, 0, by rw [h, hn], by omega⟩
  · exact ⟨_, cap, h, by omega⟩

/-- The sum of the files' lengths. -/
def TTape.used (t : TTape) : Nat := t.f0.xs.length + t.f1.xs.length + t.f2.xs.length + t.f3.xs.length

theorem TFile.ok.mod {S S' : Nat → Prop} {w w' : World} {f : TFile} (h : f.ok S w) (hm : Mod S' w w') (hs : ∀ k, f.v.ownBlock = some k → ¬ S' k) : f.ok S w' :=
  ⟨hm.owns h.owns hs, h.last, h.len, h.bytes, h.inn⟩
theorem TTape.ok.mod {S S' : Nat → Prop} {w w' : World} {b : Nat} {t : TTape} (h : t.ok S w b) (hm : Mod S' w w') (hs : ∀ k, S k → ¬ S' k) : t.ok S w' b :=
  ⟨hm.has h.has (hs b h.inn), h.inn, h.k0.mod hm (fun k hk => hs k (h.k0.inn k hk)), h.k1.mod hm (fun k hk => hs k (h.k1.inn k hk)),
   h.k2.mod hm (fun k hk => hs k (h.k2.inn k hk)), h.k3.mod hm (fun k hk => hs k (h.k3.inn k hk)), h.a01, h.a02, h.a03, h.a12, h.a13, h.a23⟩
theorem TTape.ok.mod0 {S : Nat → Prop} {w w' : World} {b : Nat} {t : TTape} (h : t.ok S w b) (hm : Mod No w w') : t.ok S w' b := h.mod hm (fun _ _ x => x)
theorem TFile.ok.wide {S S' : Nat → Prop} {w : World} {f : TFile} (h : f.ok S w) (hs : ∀ k, S k → S' k) : f.ok S' w := ⟨h.owns, h.last, h.len, h.bytes, fun k hk => hs k (h.inn k hk)⟩
theorem TTape.ok.wide {S S' : Nat → Prop} {w : World} {b : Nat} {t : TTape} (h : t.ok S w b) (hs : ∀ k, S k → S' k) : t.ok S' w b :=
  ⟨h.has, hs _ h.inn, h.k0.wide hs, h.k1.wide hs, h.k2.wide hs, h.k3.wide hs, h.a01, h.a02, h.a03, h.a12, h.a13, h.a23⟩

theorem idx84_0 (x0 x1 x2 x3 x4 x5 x6 x7 : Value) (w : World) : (Instr.index 94 (.agg #[x0, x1, x2, x3, x4, x5, x6, x7]) (.int .i64 0)).run Try.prog w = .ok (.agg #[x0, x1]) w := by
  simp [go_sem, Instr.index]
theorem idx84_1 (x0 x1 x2 x3 x4 x5 x6 x7 : Value) (w : World) : (Instr.index 94 (.agg #[x0, x1, x2, x3, x4, x5, x6, x7]) (.int .i64 1)).run Try.prog w = .ok (.agg #[x2, x3]) w := by
  simp [go_sem, Instr.index]
theorem idx84_2 (x0 x1 x2 x3 x4 x5 x6 x7 : Value) (w : World) : (Instr.index 94 (.agg #[x0, x1, x2, x3, x4, x5, x6, x7]) (.int .i64 2)).run Try.prog w = .ok (.agg #[x4, x5]) w := by
  simp [go_sem, Instr.index]
theorem idx84_3 (x0 x1 x2 x3 x4 x5 x6 x7 : Value) (w : World) : (Instr.index 94 (.agg #[x0, x1, x2, x3, x4, x5, x6, x7]) (.int .i64 3)).run Try.prog w = .ok (.agg #[x6, x7]) w := by
  simp [go_sem, Instr.index]
attribute [local go_sem] idx84_0 idx84_1 idx84_2 idx84_3

set_option maxRecDepth 100000 in
theorem used_core (b : Nat) (a0 a1 a2 a3 : Option Addr) (n0 n1 n2 n3 c0 c1 c2 c3 : Nat) (l0 l1 l2 l3 r f : Int) (w : World)
    (h0 : n0 ≤ 17592186044416) (h1 : n1 ≤ 17592186044416) (h2 : n2 ≤ 17592186044416) (h3 : n3 ≤ 17592186044416)
    (hc : ∀ o, w.cell? ⟨b, o, none⟩ = (#[.slice a0 n0 c0, .int .i64 l0, .slice a1 n1 c1, .int .i64 l1, .slice a2 n2 c2, .int .i64 l2, .slice a3 n3 c3, .int .i64 l3, .int .i64 r, .int .i64 f] : Array Value)[o]?) :
    Calls Try.prog 49 #[.pointer (some ⟨b, 0, none⟩)] w fun e w' => e = .returned (.int .i64 (n0 + n1 + n2 + n3 : Nat)) ∧ Mod No w w' := by
  go_enter Try.func49, Try.ntmps49
  go_wp2
  go_loopw [3, 10] (fun n i wr => ((i = .int .i64 0 ∧ n = .int .i64 0) ∨ (i = .int .i64 1 ∧ n = .int .i64 n0) ∨ (i = .int .i64 2 ∧ n = .int .i64 (n0 + n1)) ∨ (i = .int .i64 3 ∧ n = .int .i64 (n0 + n1 + n2)) ∨ (i = .int .i64 4 ∧ n = .int .i64 (n0 + n1 + n2 + n3))) ∧ Mod No w wr) (fun _ i _ => 4 - (intOf i).toNat)
  case atStart => exact ⟨.inl ⟨rfl, rfl⟩, Mod.refl _ _⟩
  case round =>
    obtain ⟨hr, hm⟩ := hrel
    clear hc
    rcases hr with ⟨rfl, rfl⟩ | ⟨rfl, rfl⟩ | ⟨rfl, rfl⟩ | ⟨rfl, rfl⟩ | ⟨rfl, rfl⟩
    · go_wp2
      go_roundw
      · exact ⟨.inr (.inl ⟨rfl, rfl⟩), hm.alloc _⟩
      · simp [intOf]
    · go_wp2
      go_roundw
      · exact ⟨.inr (.inr (.inl ⟨rfl, rfl⟩)), hm.alloc _⟩
      · simp [intOf]
    · go_wp2
      go_roundw
      · exact ⟨.inr (.inr (.inr (.inl ⟨rfl, rfl⟩))), hm.alloc _⟩
      · simp [intOf]
    · go_wp2
      go_roundw
      · exact ⟨.inr (.inr (.inr (.inr ⟨rfl, rfl⟩))), hm.alloc _⟩
      · simp [intOf]
    · go_wp2
      go_ret
      exact ⟨rfl, hm⟩

theorem used_any {S : Nat → Prop} (b : Nat) (t : TTape) (w : World) (h : t.ok S w b) :
    Calls Try.prog 49 #[.pointer (some ⟨b, 0, none⟩)] w fun e w' => e = .returned (.int .i64 t.used) ∧ Mod No w w' := by
  have hc := h.has.cell
  obtain ⟨a0, c0, e0, m0⟩ := slice_form h.k0
  obtain ⟨a1, c1, e1, m1⟩ := slice_form h.k1
  obtain ⟨a2, c2, e2, m2⟩ := slice_form h.k2
  obtain ⟨a3, c3, e3, m3⟩ := slice_form h.k3
  unfold TTape.cells at hc
  rw [e0, e1, e2, e3] at hc
  exact used_core b a0 a1 a2 a3 _ _ _ _ c0 c1 c2 c3 _ _ _ _ _ _ w (by omega) (by omega) (by omega) (by omega) hc

theorem wrap_id (x : Int) (h : -4611686018427387904 ≤ x) (h' : x ≤ 4611686018427387904) : IntKind.i64.wrap x = x := by
  simp [IntKind.wrap, IntKind.bits, IntKind.signed]
  omega
theorem fits_core (b : Nat) (cs : Array Value) (u n r : Int) (w : World) (hu : 0 ≤ u) (hu2 : u ≤ 140737488355328) (hn : 0 ≤ n) (hn2 : n ≤ 140737488355328) (h : Has w b cs 96)
    (hused : ∀ W, Mod No w W → Calls Try.prog 49 #[.pointer (some ⟨b, 0, none⟩)] W fun e w' => e = .returned (.int .i64 u) ∧ Mod No W w')
    (hr : cs[8]? = some (.int .i64 r)) :
    Calls Try.prog 38 #[.pointer (some ⟨b, 0, none⟩), .int .i64 n] w fun e w' => e = .returned (.bool (decide (u + n ≤ r))) ∧ Mod No w w' := by
  have hc := h.cell
  have hw := wrap_id (u + n) (by omega) (by omega)
  go_enter Try.func38, Try.ntmps38
  go_wp2_with fail
  go_region_with (go_at_call 49; refine (hused _ ?_).mono ?_; exact (Mod.refl No w).drew; rintro e w' ⟨rfl, hm⟩; have hc' := (hm.has h.drew (fun x => x)).cell)
  all_goals
    go_wp2
    go_ret
    exact ⟨by simp [Act.put], (Mod.refl No w).drew.trans hm⟩

theorem fits_any {S : Nat → Prop} (b : Nat) (t : TTape) (n : Int) (w : World) (h : t.ok S w b) (hn : 0 ≤ n) (hn2 : n ≤ 140737488355328) :
    Calls Try.prog 38 #[.pointer (some ⟨b, 0, none⟩), .int .i64 n] w fun e w' => e = .returned (.bool (decide (t.used + n ≤ t.room))) ∧ Mod No w w' :=
  fits_core b t.cells t.used n t.room w (by omega)
    (by have h0 := h.k0.len; have h1 := h.k1.len; have h2 := h.k2.len; have h3 := h.k3.len; unfold TTape.used; omega) hn hn2 h.has
    (fun W hW => used_any b t W (h.mod0 hW)) rfl

end Go.Proofs.Ytlcbemcamdafjaa
