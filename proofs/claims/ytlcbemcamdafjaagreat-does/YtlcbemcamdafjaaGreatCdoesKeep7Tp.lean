import Derived.Test.YtlcbemcamdafjaaGreatCdoesSwap5Keep6
import Derived.Handy
import Derived.Deep.DeepCutAuto
import Derived.Test.YtlcbemcamdafjaaGreatCdoesCellsRowS
/- A keeper is opened and asked. -/
namespace Go.Proofs.YtlcbemcamdafjaaGreat
open Go.RowKit
open Go.ChangeMaps (setBlock)
open M
set_option linter.unusedVariables false
set_option linter.unusedSimpArgs false
set_option maxRecDepth 100000
set_option maxHeartbeats 2000000
attribute [local go_sem] idx40_0 idx40_1 idx40_2 idx40_3
attribute [local go_sem ↓] run_min2 run_max2

theorem fleft_walk (b : Nat) (r c f l0 l1 l2 l3 : Int) (m : Value) (a0 a1 a2 a3 b0 b1 b2 b3 s0 s1 s2 s3 e0 e1 e2 e3 ep : Int) (w : World)
    (h : Has w b (fcs r c f l0 l1 l2 l3 m a0 a1 a2 a3 b0 b1 b2 b3 s0 s1 s2 s3 e0 e1 e2 e3 ep) 154) :
    Calls Tryz.prog 56 #[.pointer (some ⟨b, 0, none⟩)] w fun e w' => e = .returned (.agg #[.int .i64 (min e0 9), .int .i64 (min e1 9), .int .i64 (min e2 9), .int .i64 (min e3 9)]) ∧ Mod No w w' := by
  have hc := h.cell
  have hlt := h.lt
  unfold fcs at hc
  clear h
  go_enter Tryz.func56, Tryz.ntmps56
  go_wp2_with fail
  clear hc
  go_loopw [11] (fun i wr => Hid (Mod No w wr) ∧ Hid (Has wr w.heap.size #[.int .i64 0, .int .i64 0, .int .i64 0, .int .i64 0] 37) ∧
      ((i = .int .i64 0 ∧ Hid (Has wr (w.heap.size + 1) #[.int .i64 e0, .int .i64 e1, .int .i64 e2, .int .i64 e3] 37)) ∨
       (i = .int .i64 1 ∧ Hid (Has wr (w.heap.size + 1) #[.int .i64 (min e0 9), .int .i64 e1, .int .i64 e2, .int .i64 e3] 37)) ∨
       (i = .int .i64 2 ∧ Hid (Has wr (w.heap.size + 1) #[.int .i64 (min e0 9), .int .i64 (min e1 9), .int .i64 e2, .int .i64 e3] 37)) ∨
       (i = .int .i64 3 ∧ Hid (Has wr (w.heap.size + 1) #[.int .i64 (min e0 9), .int .i64 (min e1 9), .int .i64 (min e2 9), .int .i64 e3] 37)) ∨
       (i = .int .i64 4 ∧ Hid (Has wr (w.heap.size + 1) #[.int .i64 (min e0 9), .int .i64 (min e1 9), .int .i64 (min e2 9), .int .i64 (min e3 9)] 37)))) (fun i _ => 4 - (intOf i).toNat)
  case atStart =>
    refine ⟨((Mod.refl No w).alloc _).alloc _, (Has.new w _ _).alloc _, .inl ⟨rfl, hide ?_⟩⟩
    have := Has.new (w.alloc (.cells #[.int .i64 0, .int .i64 0, .int .i64 0, .int .i64 0] 37)) #[.int .i64 e0, .int .i64 e1, .int .i64 e2, .int .i64 e3] 37
    simpa using this
  case round =>
    obtain ⟨hm, h0, hr⟩ := hrel
    have hz0 := (unhide h0).frozen
    have hc0 := (unhide h0).cell
    have hl0 := (unhide h0).lt
    rcases hr with ⟨rfl, hr⟩ | ⟨rfl, hr⟩ | ⟨rfl, hr⟩ | ⟨rfl, hr⟩ | ⟨rfl, hr⟩
    case inr.inr.inr.inr =>
      have hc1 := (unhide hr).cell
      have hl1 := (unhide hr).lt
      have d0 : wr.cell? ⟨w.heap.size, 0, none⟩ = some (.int .i64 0) := hc0 0
      have d1 : wr.cell? ⟨w.heap.size, 1, none⟩ = some (.int .i64 0) := hc0 1
      have d2 : wr.cell? ⟨w.heap.size, 2, none⟩ = some (.int .i64 0) := hc0 2
      have d3 : wr.cell? ⟨w.heap.size, 3, none⟩ = some (.int .i64 0) := hc0 3
      go_wp2
      refine bodyPost_ret (by simp [results, Tryz.results56, go_sem, d0, d1, d2, d3]; try rfl) rfl ?_
      exact ⟨rfl, by repeat' (first | with_reducible exact unhide hm | refine Mod.setCell ?_ (Or.inr (Nat.le_refl _)) _)⟩
    all_goals
      have hc1 := (unhide hr).cell
      have hl1 := (unhide hr).lt
      have hz1 := (unhide hr).frozen
      go_wp2
      go_roundw
      · have s0 := (unhide hr).set 0 (.int .i64 (min e0 9))
        have s1 := (unhide hr).set 1 (.int .i64 (min e1 9))
        have s2 := (unhide hr).set 2 (.int .i64 (min e2 9))
        have s3 := (unhide hr).set 3 (.int .i64 (min e3 9))
        refine ⟨(unhide hm).setCell (.inr (Nat.le_succ _)) _, (unhide h0).set_ne (by simp) _, ?_⟩
        first
          | (refine .inr (.inl ⟨rfl, ?_⟩); exact s0)
          | (refine .inr (.inr (.inl ⟨rfl, ?_⟩)); exact s1)
          | (refine .inr (.inr (.inr (.inl ⟨rfl, ?_⟩))); exact s2)
          | (refine .inr (.inr (.inr (.inr ⟨rfl, ?_⟩))); exact s3)
      · simp [intOf]

theorem ftotals_walk (b : Nat) (r c f l0 l1 l2 l3 : Int) (m : Value) (a0 a1 a2 a3 b0 b1 b2 b3 s0 s1 s2 s3 e0 e1 e2 e3 ep : Int) (w : World)
    (h : Has w b (fcs r c f l0 l1 l2 l3 m a0 a1 a2 a3 b0 b1 b2 b3 s0 s1 s2 s3 e0 e1 e2 e3 ep) 154) :
    Calls Tryz.prog 58 #[.pointer (some ⟨b, 0, none⟩)] w fun e w' => e = .returned (.agg #[.int .i64 a0, .int .i64 a1, .int .i64 a2, .int .i64 a3, .int .i64 b0, .int .i64 b1, .int .i64 b2, .int .i64 b3, .int .i64 s0, .int .i64 s1, .int .i64 s2, .int .i64 s3]) ∧ Mod No w w' := by
  have hc := h.cell
  have hlt := h.lt
  unfold fcs at hc
  clear h
  go_enter Tryz.func58, Tryz.ntmps58
  go_wp2
  go_returns
  exact ⟨rfl, (Mod.refl _ _).alloc _⟩

theorem left_none (kb : Nat) (n c : Int) (w : World) (hF : Calls Tryz.prog 55 #[.pointer (some ⟨kb, 0, none⟩), .int .i64 n] w fun e w' => e = .returned (.pointer none) ∧ w' = w) :
    Calls Tryz.prog 33 #[.pointer (some ⟨kb, 0, none⟩), .int .i64 n, .int .i64 c] w fun e w' => e = .returned (.tuple #[.int .i64 0, .int .i64 2]) ∧ Mod No w w' := by
  have HF := hide hF
  clear hF
  go_enter Tryz.func33, Tryz.ntmps33
  go_wp2_with fail
  refine (unhide HF).mono ?_
  rintro e w1 ⟨rfl, rfl⟩
  go_wp2
  go_ret2
  exact ⟨rfl, Mod.refl _ _⟩

theorem left_class (kb b : Nat) (n c : Int) (hc : ¬ (0 ≤ c ∧ c < 4)) (w : World) (hF : Calls Tryz.prog 55 #[.pointer (some ⟨kb, 0, none⟩), .int .i64 n] w fun e w' => e = .returned (.pointer (some ⟨b, 0, none⟩)) ∧ w' = w) :
    Calls Tryz.prog 33 #[.pointer (some ⟨kb, 0, none⟩), .int .i64 n, .int .i64 c] w fun e w' => e = .returned (.tuple #[.int .i64 0, .int .i64 6]) ∧ Mod No w w' := by
  have HF := hide hF
  clear hF
  rcases Int.lt_or_le c 0 with h1 | h1
  · clear hc
    go_enter Tryz.func33, Tryz.ntmps33
    go_wp2_with fail
    refine (unhide HF).mono ?_
    rintro e w1 ⟨rfl, rfl⟩
    go_wp2
    go_ret2
    exact ⟨rfl, Mod.refl _ _⟩
  · have h2 : ¬ c < 0 := by omega
    have h3 : c ≥ 4 := by omega
    clear hc
    go_enter Tryz.func33, Tryz.ntmps33
    go_wp2_with fail
    refine (unhide HF).mono ?_
    rintro e w1 ⟨rfl, rfl⟩
    go_wp2
    go_ret2
    exact ⟨rfl, Mod.refl _ _⟩

theorem left_walk (kb b : Nat) (n : Int) (k : Nat) (hk : k < 4) (e0 e1 e2 e3 : Int) (w : World) (hF : Calls Tryz.prog 55 #[.pointer (some ⟨kb, 0, none⟩), .int .i64 n] w fun e w' => e = .returned (.pointer (some ⟨b, 0, none⟩)) ∧ w' = w)
    (hE : Calls Tryz.prog 56 #[.pointer (some ⟨b, 0, none⟩)] w fun e w' => e = .returned (.agg #[.int .i64 e0, .int .i64 e1, .int .i64 e2, .int .i64 e3]) ∧ Mod No w w') :
    Calls Tryz.prog 33 #[.pointer (some ⟨kb, 0, none⟩), .int .i64 n, .int .i64 k] w fun e w' => e = .returned (.tuple #[.int .i64 (if k = 0 then e0 else if k = 1 then e1 else if k = 2 then e2 else e3), .int .i64 0]) ∧ Mod No w w' := by
  have HF := hide hF
  have HE := hide hE
  clear hF hE
  have : k = 0 ∨ k = 1 ∨ k = 2 ∨ k = 3 := by omega
  rcases this with rfl | rfl | rfl | rfl
  all_goals
    go_enter Tryz.func33, Tryz.ntmps33
    go_wp2_with fail
    refine (unhide HF).mono ?_
    rintro e w1 ⟨rfl, rfl⟩
    go_wp2_with fail
    refine (unhide HE).mono ?_
    rintro e w2 ⟨rfl, m2⟩
    go_wp2
    go_ret2
    exact ⟨rfl, m2⟩

def zero51 : Array Value := #[.int .i64 0, .int .i64 0, .int .i64 0, .int .i64 0, .int .i64 0, .int .i64 0, .int .i64 0, .int .i64 0, .int .i64 0, .int .i64 0, .int .i64 0, .int .i64 0]

theorem count_none (kb : Nat) (n : Int) (w : World) (hF : ∀ W, Mod No w W → Calls Tryz.prog 55 #[.pointer (some ⟨kb, 0, none⟩), .int .i64 n] W fun e w' => e = .returned (.pointer none) ∧ w' = W) :
    Calls Tryz.prog 35 #[.pointer (some ⟨kb, 0, none⟩), .int .i64 n] w fun e w' => e = .returned (.tuple #[.agg zero51, .int .i64 2]) ∧ Mod No w w' := by
  have HF := hide hF
  have M0 := hide ((Mod.refl No w).alloc (.cells zero51 91))
  unfold zero51 at *
  clear hF
  go_enter Tryz.func35, Tryz.ntmps35
  go_wp2_with fail
  refine ((unhide HF) _ (unhide M0)).mono ?_
  rintro e w1 ⟨rfl, rfl⟩
  go_wp2
  go_returns
  exact ⟨rfl, unhide M0⟩

end Go.Proofs.YtlcbemcamdafjaaGreat
/- A keeper's totals are told. -/
namespace Go.Proofs.YtlcbemcamdafjaaGreat
open Go.RowKit
open M
set_option linter.unusedVariables false
set_option linter.unusedSimpArgs false
set_option maxRecDepth 100000
set_option maxHeartbeats 2000000

theorem set12 (z a0 a1 a2 a3 b0 b1 b2 b3 s0 s1 s2 s3 : Value) : (((((((((((((#[z, z, z, z, z, z, z, z, z, z, z, z] : Array Value).setIfInBounds 0 a0).setIfInBounds 1 a1).setIfInBounds 2 a2).setIfInBounds 3 a3).setIfInBounds 4 b0).setIfInBounds 5 b1).setIfInBounds 6 b2).setIfInBounds 7 b3).setIfInBounds 8 s0).setIfInBounds 9 s1).setIfInBounds 10 s2).setIfInBounds 11 s3) = #[a0, a1, a2, a3, b0, b1, b2, b3, s0, s1, s2, s3] := by
  simp

/-- The world at the end, forgotten but for what is said of it. -/
theorem post_world {P : Program} {f : Func} {post : Ending → World → Prop} {ex : Exit} {a : Act} {w : World} (R : World → Prop) (h : R w) (k : ∀ w, R w → bodyPost P f post ex a w) : bodyPost P f post ex a w := k w h

theorem count_walk (kb b : Nat) (n : Int) (a0 a1 a2 a3 b0 b1 b2 b3 s0 s1 s2 s3 : Int) (w : World) (hF : ∀ W, Mod No w W → Calls Tryz.prog 55 #[.pointer (some ⟨kb, 0, none⟩), .int .i64 n] W fun e w' => e = .returned (.pointer (some ⟨b, 0, none⟩)) ∧ w' = W)
    (hT : ∀ W, Mod No w W → Calls Tryz.prog 58 #[.pointer (some ⟨b, 0, none⟩)] W fun e w' => e = .returned (.agg #[.int .i64 a0, .int .i64 a1, .int .i64 a2, .int .i64 a3, .int .i64 b0, .int .i64 b1, .int .i64 b2, .int .i64 b3, .int .i64 s0, .int .i64 s1, .int .i64 s2, .int .i64 s3]) ∧ Mod No W w') :
    Calls Tryz.prog 35 #[.pointer (some ⟨kb, 0, none⟩), .int .i64 n] w fun e w' => e = .returned (.tuple #[.agg #[.int .i64 a0, .int .i64 a1, .int .i64 a2, .int .i64 a3, .int .i64 b0, .int .i64 b1, .int .i64 b2, .int .i64 b3, .int .i64 s0, .int .i64 s1, .int .i64 s2, .int .i64 s3], .int .i64 0]) ∧ Mod No w w' := by
  have HF := hide hF
  have HT := hide hT
  have M0 := hide ((Mod.refl No w).alloc (.cells zero51 91))
  have B0 := hide (Has.new w zero51 91)
  unfold zero51 at *
  clear hF hT
  go_enter Tryz.func35, Tryz.ntmps35
  go_wp2_with fail
  refine ((unhide HF) _ (unhide M0)).mono ?_
  rintro e w1 ⟨rfl, rfl⟩
  go_wp2_with fail
  refine ((unhide HT) _ (unhide M0)).mono ?_
  rintro e w2 ⟨rfl, m2⟩
  have h2 := m2.has (unhide B0) (fun x => x)
  have c2 := h2.cell
  have f2 := h2.frozen
  have l2 := h2.lt
  have M2 := hide ((unhide M0).trans m2)
  clear m2
  go_wp2
  refine post_world (fun W => Has W w.heap.size #[.int .i64 a0, .int .i64 a1, .int .i64 a2, .int .i64 a3, .int .i64 b0, .int .i64 b1, .int .i64 b2, .int .i64 b3, .int .i64 s0, .int .i64 s1, .int .i64 s2, .int .i64 s3] 91 ∧ Mod No w W) ?_ ?_
  · have q := (((((((((((h2.set 0 (.int .i64 a0)).set 1 (.int .i64 a1)).set 2 (.int .i64 a2)).set 3 (.int .i64 a3)).set 4 (.int .i64 b0)).set 5 (.int .i64 b1)).set 6 (.int .i64 b2)).set 7 (.int .i64 b3)).set 8 (.int .i64 s0)).set 9 (.int .i64 s1)).set 10 (.int .i64 s2)).set 11 (.int .i64 s3)
    rw [set12] at q
    refine ⟨q, ?_⟩
    have hp : ∀ (o : Nat), No (⟨w.heap.size, o, none⟩ : Addr).block ∨ w.heap.size ≤ (⟨w.heap.size, o, none⟩ : Addr).block := fun o => .inr (Nat.le_refl _)
    exact ((((((((((((unhide M2).setCell (hp 0) _).setCell (hp 1) _).setCell (hp 2) _).setCell (hp 3) _).setCell (hp 4) _).setCell (hp 5) _).setCell (hp 6) _).setCell (hp 7) _).setCell (hp 8) _).setCell (hp 9) _).setCell (hp 10) _).setCell (hp 11) _
  · clear h2 c2 f2 l2 M2
    intro w3 ⟨h3, m3⟩
    have d0 : w3.cell? ⟨w.heap.size, 0, none⟩ = some (.int .i64 a0) := h3.cell 0
    have d1 : w3.cell? ⟨w.heap.size, 1, none⟩ = some (.int .i64 a1) := h3.cell 1
    have d2 : w3.cell? ⟨w.heap.size, 2, none⟩ = some (.int .i64 a2) := h3.cell 2
    have d3 : w3.cell? ⟨w.heap.size, 3, none⟩ = some (.int .i64 a3) := h3.cell 3
    have d4 : w3.cell? ⟨w.heap.size, 4, none⟩ = some (.int .i64 b0) := h3.cell 4
    have d5 : w3.cell? ⟨w.heap.size, 5, none⟩ = some (.int .i64 b1) := h3.cell 5
    have d6 : w3.cell? ⟨w.heap.size, 6, none⟩ = some (.int .i64 b2) := h3.cell 6
    have d7 : w3.cell? ⟨w.heap.size, 7, none⟩ = some (.int .i64 b3) := h3.cell 7
    have d8 : w3.cell? ⟨w.heap.size, 8, none⟩ = some (.int .i64 s0) := h3.cell 8
    have d9 : w3.cell? ⟨w.heap.size, 9, none⟩ = some (.int .i64 s1) := h3.cell 9
    have d10 : w3.cell? ⟨w.heap.size, 10, none⟩ = some (.int .i64 s2) := h3.cell 10
    have d11 : w3.cell? ⟨w.heap.size, 11, none⟩ = some (.int .i64 s3) := h3.cell 11
    have l3 := h3.lt
    clear h3
    clear M0 B0 HF HT
    refine bodyPost_ret (by simp [results, Tryz.results35, go_sem, d0, d1, d2, d3, d4, d5, d6, d7, d8, d9, d10, d11]; try rfl) rfl ?_
    exact ⟨rfl, m3⟩
end Go.Proofs.YtlcbemcamdafjaaGreat
/- The tape's methods, each by a contract over the tape's cells and the rows of bytes that its files own. -/
namespace Go.Proofs.YtlcbemcamdafjaaGreat
open Go.RowKit
set_option linter.unusedVariables false

/-- One file: the slice that stands in the tape, its bytes, how many last. -/
structure TFile where
  v : Value
  xs : List Value
  last : Nat

structure TTape where
  f0 : TFile
  f1 : TFile
  f2 : TFile
  f3 : TFile
  room : Int
  fuse : Int

def TTape.cells (t : TTape) : Array Value :=
  #[t.f0.v, .int .i64 t.f0.last, t.f1.v, .int .i64 t.f1.last, t.f2.v, .int .i64 t.f2.last, t.f3.v, .int .i64 t.f3.last, .int .i64 t.room, .int .i64 t.fuse]

/-- A file's row lies in S, and is its own. -/
structure TFile.ok (S : Nat → Prop) (w : World) (f : TFile) : Prop where
  owns : w.ownsRow 0 5 1 f.v f.xs.length f.xs
  last : f.last ≤ f.xs.length
  len : f.xs.length ≤ 17592186044416
  bytes : ∀ x ∈ f.xs, ∃ n : Int, x = .int .u8 n ∧ 0 ≤ n ∧ n < 256
  inn : ∀ k, f.v.ownBlock = some k → S k

def TFile.apart (f g : TFile) : Prop := ∀ k, f.v.ownBlock = some k → g.v.ownBlock ≠ some k
theorem TFile.apart.symm {f g : TFile} (h : f.apart g) : g.apart f := fun k hk hf => h k hf hk

structure TTape.ok (S : Nat → Prop) (w : World) (b : Nat) (t : TTape) : Prop where
  has : Has w b t.cells 108
  inn : S b
  k0 : t.f0.ok S w
  k1 : t.f1.ok S w
  k2 : t.f2.ok S w
  k3 : t.f3.ok S w
  a01 : t.f0.apart t.f1
  a02 : t.f0.apart t.f2
  a03 : t.f0.apart t.f3
  a12 : t.f1.apart t.f2
  a13 : t.f1.apart t.f3
  a23 : t.f2.apart t.f3

theorem slice_form {S : Nat → Prop} {w : World} {f : TFile} (h : f.ok S w) : ∃ a cap, f.v = .slice a f.xs.length cap ∧ (f.xs.length : Int) ≤ 17592186044416 := by
  obtain ⟨⟨hl, h⟩, _, hm, _⟩ := h
  rcases h with ⟨h, hn⟩ | ⟨g, cap, cur, h, _⟩
  · exact ⟨none, 0, by rw [h, hn], by omega⟩
  · exact ⟨_, cap, h, by omega⟩

/-- The sum of the files' lengths. -/
def TTape.used (t : TTape) : Nat := t.f0.xs.length + t.f1.xs.length + t.f2.xs.length + t.f3.xs.length

theorem TFile.ok.mod {S S' : Nat → Prop} {w w' : World} {f : TFile} (h : f.ok S w) (hm : Mod S' w w') (hs : ∀ k, f.v.ownBlock = some k → ¬ S' k) : f.ok S w' :=
  ⟨hm.owns h.owns hs, h.last, h.len, h.bytes, h.inn⟩
theorem TTape.ok.mod {S S' : Nat → Prop} {w w' : World} {b : Nat} {t : TTape} (h : t.ok S w b) (hm : Mod S' w w') (hs : ∀ k, S k → ¬ S' k) : t.ok S w' b :=
  ⟨hm.has h.has (hs b h.inn), h.inn, h.k0.mod hm (fun k hk => hs k (h.k0.inn k hk)), h.k1.mod hm (fun k hk => hs k (h.k1.inn k hk)),
   h.k2.mod hm (fun k hk => hs k (h.k2.inn k hk)), h.k3.mod hm (fun k hk => hs k (h.k3.inn k hk)), h.a01, h.a02, h.a03, h.a12, h.a13, h.a23⟩
theorem TTape.ok.mod0 {S : Nat → Prop} {w w' : World} {b : Nat} {t : TTape} (h : t.ok S w b) (hm : Mod No w w') : t.ok S w' b := h.mod hm (fun _ _ x => x)
theorem TFile.ok.wide {S S' : Nat → Prop} {w : World} {f : TFile} (h : f.ok S w) (hs : ∀ k, S k → S' k) : f.ok S' w := ⟨h.owns, h.last, h.len, h.bytes, fun k hk => hs k (h.inn k hk)⟩
theorem TTape.ok.wide {S S' : Nat → Prop} {w : World} {b : Nat} {t : TTape} (h : t.ok S w b) (hs : ∀ k, S k → S' k) : t.ok S' w b :=
  ⟨h.has, hs _ h.inn, h.k0.wide hs, h.k1.wide hs, h.k2.wide hs, h.k3.wide hs, h.a01, h.a02, h.a03, h.a12, h.a13, h.a23⟩
end Go.Proofs.YtlcbemcamdafjaaGreat
