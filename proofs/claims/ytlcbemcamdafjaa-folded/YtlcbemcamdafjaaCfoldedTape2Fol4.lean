import Derived.Test.YtlcbemcamdafjaaCfoldedKeep7Tp
import Derived.Handy
import Derived.Test.YtlcbemcamdafjaaCfoldedFol2Fol3
/- The tape's methods, continued: a new tape, its room, its fuse, burning, syncing. -/
namespace Go.Proofs.Ytlcbemcamdafjaa
open Go.RowKit
set_option linter.unusedVariables false
set_option linter.unusedSimpArgs false

/-- What burning leaves of a fuse. -/
def burnt (f : Int) : Int := if 0 < f then f - 1 else f

theorem cells_fuse (t : TTape) (n : Int) : t.cells.setIfInBounds 9 (.int .i64 n) = ({ t with fuse := n } : TTape).cells := rfl

theorem TTape.ok.fuse {S : Nat → Prop} {w : World} {b : Nat} {t : TTape} (h : t.ok S w b) (n : Int) : ({ t with fuse := n } : TTape).ok S (w.setCell ⟨b, 9, none⟩ (.int .i64 n)) b := by
  have ne : ∀ (f : TFile), f.ok S w → f.v.ownBlock ≠ some b := fun f hf e => by
    rcases hf.owns.2 with ⟨hv, _⟩ | ⟨g, cap, cur, hv, _, hg, _⟩
    · rw [hv] at e; simp [Value.ownBlock] at e
    · rw [hv] at e; simp [Value.ownBlock] at e; subst e
      exact h.has.ne (T' := 5) hg (by decide) rfl
  have k : ∀ (f : TFile), f.ok S w → f.ok S (w.setCell ⟨b, 9, none⟩ (.int .i64 n)) := fun f hf =>
    ⟨owns_setCell_ne hf.owns (by simpa using ne f hf) _, hf.last, hf.len, hf.bytes, hf.inn⟩
  exact ⟨by have := h.has.set 9 (.int .i64 n); rwa [cells_fuse] at this, h.inn, k _ h.k0, k _ h.k1, k _ h.k2, k _ h.k3, h.a01, h.a02, h.a03, h.a12, h.a13, h.a23⟩

theorem burn_any {S : Nat → Prop} (b : Nat) (t : TTape) (w : World) (h : t.ok S w b) (hf : -4611686018427387904 ≤ t.fuse ∧ t.fuse ≤ 4611686018427387904) :
    Calls Try.prog 48 #[.pointer (some ⟨b, 0, none⟩)] w fun e w' => e = .returned (.bool (decide (t.fuse ≠ 0))) ∧ ({ t with fuse := burnt t.fuse } : TTape).ok S w' b ∧ Mod (· = b) w w' := by
  have hc := h.has.cell
  have hz := h.has.frozen
  have H := hide h
  have e9 : t.cells[9]? = some (.int .i64 t.fuse) := rfl
  have hc9 := hc 9
  rw [e9] at hc9
  clear hc h e9
  obtain ⟨f0, f1, f2, f3, room, f⟩ := t
  simp only at hc9 hf
  simp only
  rcases Int.lt_trichotomy f 0 with hlt | heq | hgt
  · go_enter Try.func48, Try.ntmps48
    go_wp2
    all_goals go_ret
    all_goals exact ⟨by simp; omega, by simpa [burnt, Int.not_lt.2 (Int.le_of_lt hlt)] using unhide H, Mod.refl _ _⟩
  · subst heq
    go_enter Try.func48, Try.ntmps48
    go_wp2
    all_goals go_ret
    all_goals exact ⟨by simp, by simpa [burnt] using unhide H, Mod.refl _ _⟩
  · have hw := wrap_id (f - 1) (by omega) (by omega)
    go_enter Try.func48, Try.ntmps48
    go_wp2
    all_goals go_ret
    all_goals exact ⟨by simp; omega, by simpa [burnt, hgt] using (unhide H).fuse (f - 1), Mod.setCell (S := fun k => k = b) (Mod.refl _ w) (p := ⟨b, 9, none⟩) (.inl rfl) _⟩


def TTape.get (t : TTape) : Nat → TFile
  | 0 => t.f0
  | 1 => t.f1
  | 2 => t.f2
  | _ => t.f3
def TTape.put (t : TTape) (f : TFile) : Nat → TTape
  | 0 => { t with f0 := f }
  | 1 => { t with f1 := f }
  | 2 => { t with f2 := f }
  | _ => { t with f3 := f }

/-- The tape's block, or a file's row: what one file's own work may turn. -/
def Touch (b : Nat) (f : TFile) : Nat → Prop := fun k => k = b ∨ f.v.ownBlock = some k

theorem TFile.ok.ne {S : Nat → Prop} {w : World} {f : TFile} (hf : f.ok S w) {b : Nat} {cs : Array Value} (h : Has w b cs 96) : f.v.ownBlock ≠ some b := fun e => by
  rcases hf.owns.2 with ⟨hv, _⟩ | ⟨g, cap, cur, hv, _, hg, _⟩
  · rw [hv] at e; simp [Value.ownBlock] at e
  · rw [hv] at e; simp [Value.ownBlock] at e; subst e
    exact h.ne (T' := 5) hg (by decide) rfl

/-- Another file's work leaves a file as it is. -/
theorem TFile.ok.other {S : Nat → Prop} {w w' : World} {b : Nat} {f g : TFile} {cs : Array Value} (hf : f.ok S w) (hb : Has w b cs 96) (ha : f.apart g) (hm : Mod (Touch b g) w w') : f.ok S w' :=
  hf.mod hm (fun k hk => by
    rintro (rfl | h)
    · exact hf.ne hb hk
    · exact ha k hk h)

/-- A file is written anew: its row, its bytes, its last. -/
theorem TTape.ok.put {S S' : Nat → Prop} {w w' : World} {b : Nat} {t : TTape} (h : t.ok S w b) (i : Nat) (hi : i < 4) (f : TFile)
    (hm : Mod (Touch b (t.get i)) w w') (hhas : Has w' b (t.put f i).cells 96) (hf : f.ok S' w') (hS : ∀ k, S k → S' k)
    (hst : ∀ k, f.v.ownBlock = some k → (t.get i).v.ownBlock = some k ∨ w.heap.size ≤ k) : (t.put f i).ok S' w' b := by
  have lt : ∀ (g : TFile), g.ok S w → ∀ k, g.v.ownBlock = some k → k < w.heap.size := fun g hg k hk => (hg.owns.lt k hk).2
  have ap : ∀ (g : TFile), g.ok S w → (t.get i).apart g → f.apart g := fun g hg ha k hk hgk => by
    rcases hst k hk with h1 | h1
    · exact ha k h1 hgk
    · have := lt g hg k hgk; omega
  match i, hi with
  | 0, _ =>
    exact ⟨hhas, hS _ h.inn, hf, (h.k1.other h.has h.a01.symm hm).wide hS, (h.k2.other h.has h.a02.symm hm).wide hS, (h.k3.other h.has h.a03.symm hm).wide hS,
      ap _ h.k1 h.a01, ap _ h.k2 h.a02, ap _ h.k3 h.a03, h.a12, h.a13, h.a23⟩
  | 1, _ =>
    exact ⟨hhas, hS _ h.inn, (h.k0.other h.has h.a01 hm).wide hS, hf, (h.k2.other h.has h.a12.symm hm).wide hS, (h.k3.other h.has h.a13.symm hm).wide hS,
      (ap _ h.k0 h.a01.symm).symm, h.a02, h.a03, ap _ h.k2 h.a12, ap _ h.k3 h.a13, h.a23⟩
  | 2, _ =>
    exact ⟨hhas, hS _ h.inn, (h.k0.other h.has h.a02 hm).wide hS, (h.k1.other h.has h.a12 hm).wide hS, hf, (h.k3.other h.has h.a23.symm hm).wide hS,
      h.a01, (ap _ h.k0 h.a02.symm).symm, h.a03, (ap _ h.k1 h.a12.symm).symm, h.a13, ap _ h.k3 h.a23⟩
  | 3, _ =>
    exact ⟨hhas, hS _ h.inn, (h.k0.other h.has h.a03 hm).wide hS, (h.k1.other h.has h.a13 hm).wide hS, (h.k2.other h.has h.a23 hm).wide hS, hf,
      h.a01, h.a02, (ap _ h.k0 h.a03.symm).symm, h.a12, (ap _ h.k1 h.a13.symm).symm, (ap _ h.k2 h.a23.symm).symm⟩
theorem TTape.ok.get {S : Nat → Prop} {w : World} {b : Nat} {t : TTape} (h : t.ok S w b) (i : Nat) (hi : i < 4) : (t.get i).ok S w := by
  match i, hi with
  | 0, _ => exact h.k0
  | 1, _ => exact h.k1
  | 2, _ => exact h.k2
  | 3, _ => exact h.k3

theorem cells_v (t : TTape) (i : Nat) (hi : i < 4) : t.cells[i * 2]? = some (t.get i).v ∧ t.cells[i * 2 + 1]? = some (.int .i64 (t.get i).last) := by
  match i, hi with
  | 0, _ => exact ⟨rfl, rfl⟩
  | 1, _ => exact ⟨rfl, rfl⟩
  | 2, _ => exact ⟨rfl, rfl⟩
  | 3, _ => exact ⟨rfl, rfl⟩
theorem cells_put (t : TTape) (v : Value) (xs : List Value) (l : Nat) (i : Nat) (hi : i < 4) : (t.cells.setIfInBounds (i * 2) v).setIfInBounds (i * 2 + 1) (.int .i64 l) = (t.put ⟨v, xs, l⟩ i).cells := by
  match i, hi with
  | 0, _ => rfl
  | 1, _ => rfl
  | 2, _ => rfl
  | 3, _ => rfl
theorem cells_put_v (t : TTape) (v : Value) (xs : List Value) (i : Nat) (hi : i < 4) : t.cells.setIfInBounds (i * 2) v = (t.put ⟨v, xs, (t.get i).last⟩ i).cells := by
  match i, hi with
  | 0, _ => rfl
  | 1, _ => rfl
  | 2, _ => rfl
  | 3, _ => rfl
theorem cells_put_l (t : TTape) (xs : List Value) (l : Nat) (i : Nat) (hi : i < 4) : t.cells.setIfInBounds (i * 2 + 1) (.int .i64 l) = (t.put ⟨(t.get i).v, xs, l⟩ i).cells := by
  match i, hi with
  | 0, _ => rfl
  | 1, _ => rfl
  | 2, _ => rfl
  | 3, _ => rfl

theorem new_any (n : Int) (w : World) :
    Calls Try.prog 13 #[.int .i64 n] w fun e w' => e = .returned (.pointer (some ⟨w.heap.size, 0, none⟩)) ∧
      w' = w.alloc (.cells (⟨⟨.slice none 0 0, [], 0⟩, ⟨.slice none 0 0, [], 0⟩, ⟨.slice none 0 0, [], 0⟩, ⟨.slice none 0 0, [], 0⟩, n, -1⟩ : TTape).cells 96) := by
  go_enter Try.func13, Try.ntmps13
  go_wp2
  go_ret
  exact ⟨rfl, rfl⟩
theorem fuse_any (b : Nat) (n : Int) (w : World) (cs : Array Value) (h : Has w b cs 96) (h9 : 9 < cs.size) :
    Calls Try.prog 35 #[.pointer (some ⟨b, 0, none⟩), .int .i64 n] w fun e w' => e = .returned (.tuple #[]) ∧ w' = w.setCell ⟨b, 9, none⟩ (.int .i64 n) := by
  have hc := h.cell 9
  have hz := h.frozen 9
  rw [Array.getElem?_eq_getElem h9] at hc
  clear h
  generalize cs[9] = x at hc
  go_enter Try.func35, Try.ntmps35
  go_wp2
  go_end0
  exact ⟨rfl, rfl⟩
theorem room_any (b : Nat) (n : Int) (w : World) (cs : Array Value) (h : Has w b cs 96) (h8 : cs[8]? = some (.int .i64 n)) :
    Calls Try.prog 37 #[.pointer (some ⟨b, 0, none⟩)] w fun e w' => e = .returned (.int .i64 n) ∧ w' = w := by
  have hc := h.cell 8
  rw [h8] at hc
  clear h
  go_enter Try.func37, Try.ntmps37
  go_wp2
  go_ret
  exact ⟨rfl, rfl⟩
end Go.Proofs.Ytlcbemcamdafjaa
/- A keeper is opened; it tells what is left, and counts. -/
namespace Go.Proofs.Ytlcbemcamdafjaa
open Go.RowKit
open Go.ChangeMaps (setBlock)
open M
set_option linter.unusedVariables false
set_option linter.unusedSimpArgs false
set_option maxRecDepth 100000
set_option maxHeartbeats 2000000

def noP : Nat → Option Nat := fun _ => none
theorem keep_new : keepCells 0 noP = #[.int .i64 0, .pointer none, .pointer none, .pointer none, .pointer none, .pointer none, .pointer none, .pointer none, .pointer none, .pointer none, .pointer none, .pointer none, .pointer none, .pointer none, .pointer none, .pointer none, .pointer none, .pointer none, .pointer none, .pointer none, .pointer none, .pointer none, .map none, .map none, .map none, .map none, .map none, .map none, .map none, .map none] := rfl

theorem open_low (tb : Nat) (n : Int) (cs : Array Value) (w : World) (h : Has w tb cs 96) (h8 : cs[8]? = some (.int .i64 n)) (hn : n < 200) :
    Calls Try.prog 39 #[.pointer (some ⟨tb, 0, none⟩)] w fun e w' => e = .returned (.tuple #[.pointer none, .int .i64 15]) ∧ w' = w := by
  have HR := hide (room_any tb n w cs h h8)
  clear h h8
  go_enter Try.func39, Try.ntmps39
  go_wp2_with fail
  refine (unhide HR).mono ?_
  rintro e w1 ⟨rfl, rfl⟩
  go_wp2
  go_ret2
  exact ⟨rfl, rfl⟩

theorem open_walk (tb : Nat) (n : Int) (cs : Array Value) (w : World) (h : Has w tb cs 96) (h8 : cs[8]? = some (.int .i64 n)) (hn : ¬ n < 200) :
    Calls Try.prog 39 #[.pointer (some ⟨tb, 0, none⟩)] w fun e w' => e = .returned (.tuple #[.pointer (some ⟨w.heap.size, 0, none⟩), .int .i64 0]) ∧ w' = w.alloc (.cells (keepCells 0 noP) 108) := by
  have HR := hide (room_any tb n w cs h h8)
  rw [keep_new]
  clear h h8
  go_enter Try.func39, Try.ntmps39
  go_wp2_with fail
  refine (unhide HR).mono ?_
  rintro e w1 ⟨rfl, rfl⟩
  go_wp2
  go_ret2
  exact ⟨rfl, rfl⟩

def noFl : Nat → Option (Pla × List Sea) := fun _ => none
theorem keep_start (w : World) : KeepH (w.alloc (.cells (keepCells 0 noP) 108)) (fun k => if k = w.heap.size then 1 else 0) w.heap.size 0 noFl :=
  ⟨noP, ⟨Has.new w _ _, if_pos rfl, fun k hk => by
    by_cases e : k = w.heap.size
    · subst e; simp
    · exact absurd (if_neg e) hk, fun _ _ _ => rfl, fun n p l _ h => by cases h⟩⟩

theorem KeepH.mod {w w' : World} {ow : Nat → Nat} {kb : Nat} {now : Int} {fl : Nat → Option (Pla × List Sea)} {S : Nat → Prop} (h : KeepH w ow kb now fl) (hm : Mod S w w') (hs : ∀ k, ow k ≠ 0 → ¬ S k) : KeepH w' ow kb now fl := by
  obtain ⟨pt, h⟩ := h
  exact ⟨pt, h.mod hm hs⟩

theorem KeepH.wf {w : World} {ow : Nat → Nat} {kb : Nat} {now : Int} {fl : Nat → Option (Pla × List Sea)} (h : KeepH w ow kb now fl) {n : Nat} (hn : n < 21) {p : Pla} {l : List Sea} (hf : fl n = some (p, l)) : Wf p l := by
  obtain ⟨pt, h⟩ := h
  obtain ⟨b, _, hw, _⟩ := h.here n p l hn hf
  exact hw

/-- What is told of what is left. -/
def leftK (fl : Nat → Option (Pla × List Sea)) (n c : Int) : Int × Int :=
  if ¬ (1 ≤ n ∧ n ≤ 20) then (0, 2)
  else match fl n.toNat with
    | none => (0, 2)
    | some x => if ¬ (0 ≤ c ∧ c < 4) then (0, 6) else (min (M.leftOf x.1 x.2 c.toNat) 9, 0)

/-- Counts, as they are told. -/
def totV (p : Pla) (l : List Sea) : Array Value :=
  #[.int .i64 (cA p l 0), .int .i64 (cA p l 1), .int .i64 (cA p l 2), .int .i64 (cA p l 3), .int .i64 (cB p l 0), .int .i64 (cB p l 1), .int .i64 (cB p l 2), .int .i64 (cB p l 3), .int .i64 (cS l 0), .int .i64 (cS l 1), .int .i64 (cS l 2), .int .i64 (cS l 3)]
def countK (fl : Nat → Option (Pla × List Sea)) (n : Int) : Array Value × Int :=
  if ¬ (1 ≤ n ∧ n ≤ 20) then (zero51, 2)
  else match fl n.toNat with
    | none => (zero51, 2)
    | some x => (totV x.1 x.2, 0)

theorem left_any {w : World} {ow : Nat → Nat} {kb : Nat} {now : Int} {fl : Nat → Option (Pla × List Sea)} (h : KeepH w ow kb now fl) (n c : Int) :
    Calls Try.prog 23 #[.pointer (some ⟨kb, 0, none⟩), .int .i64 n, .int .i64 c] w fun e w' => e = .returned (.tuple #[.int .i64 (leftK fl n c).1, .int .i64 (leftK fl n c).2]) ∧ Mod No w w' := by
  obtain ⟨pt, h⟩ := h
  unfold leftK
  by_cases hn : 1 ≤ n ∧ n ≤ 20
  case neg =>
    rw [if_pos hn]
    exact left_none kb n c w (find_no kb n hn w)
  rw [if_neg (by simpa using hn)]
  have hfn : ((n.toNat : Nat) : Int) = n := by omega
  have hF := find_any h n.toNat (by omega)
  rw [hfn] at hF
  cases hfl : fl n.toNat with
  | none =>
    rw [h.gone _ (by omega) hfl] at hF
    exact left_none kb n c w hF
  | some x =>
    obtain ⟨p, l⟩ := x
    obtain ⟨b, hp, hwf, hfh⟩ := h.here _ p l (by omega) hfl
    rw [hp] at hF
    simp only
    by_cases hc : 0 ≤ c ∧ c < 4
    case neg =>
      rw [if_pos hc]
      exact left_class kb b n c hc w hF
    rw [if_neg (by simpa using hc)]
    obtain ⟨m, es, clock, q1, _⟩ := hfh
    have hcn : ((c.toNat : Nat) : Int) = c := by omega
    have := left_walk kb b n c.toNat (by omega) (min (cE p l 0) 9) (min (cE p l 1) 9) (min (cE p l 2) 9) (min (cE p l 3) 9) w hF (fleft_walk _ _ _ _ _ _ _ _ _ _ _ _ _ _ _ _ _ _ _ _ _ _ _ _ _ _ _ q1)
    rw [hcn] at this
    refine this.mono ?_
    rintro e w' ⟨rfl, hm⟩
    refine ⟨?_, hm⟩
    have : c.toNat = 0 ∨ c.toNat = 1 ∨ c.toNat = 2 ∨ c.toNat = 3 := by omega
    rcases this with e | e | e | e <;> rw [e] <;> rfl

theorem count_any {w : World} {ow : Nat → Nat} {kb : Nat} {now : Int} {fl : Nat → Option (Pla × List Sea)} (h : KeepH w ow kb now fl) (n : Int) :
    Calls Try.prog 17 #[.pointer (some ⟨kb, 0, none⟩), .int .i64 n] w fun e w' => e = .returned (.tuple #[.agg (countK fl n).1, .int .i64 (countK fl n).2]) ∧ Mod No w w' := by
  obtain ⟨pt, h⟩ := h
  unfold countK
  by_cases hn : 1 ≤ n ∧ n ≤ 20
  case neg =>
    rw [if_pos hn]
    exact count_none kb n w (fun W _ => find_no kb n hn W)
  rw [if_neg (by simpa using hn)]
  have hfn : ((n.toNat : Nat) : Int) = n := by omega
  have hF : ∀ W, Mod No w W → Calls Try.prog 40 #[.pointer (some ⟨kb, 0, none⟩), .int .i64 n] W fun e w' => e = .returned (pv (pt n.toNat)) ∧ w' = W := fun W hW => by
    have := find_any (h.mod hW (fun _ _ x => x)) n.toNat (by omega)
    rw [hfn] at this
    exact this
  cases hfl : fl n.toNat with
  | none =>
    rw [h.gone _ (by omega) hfl] at hF
    exact count_none kb n w hF
  | some x =>
    obtain ⟨p, l⟩ := x
    obtain ⟨b, hp, hwf, hfh⟩ := h.here _ p l (by omega) hfl
    rw [hp] at hF
    simp only
    exact count_walk kb b n _ _ _ _ _ _ _ _ _ _ _ _ w hF (fun W hW => by
      obtain ⟨m, es, clock, q1, _⟩ := hfh.mod0 hW
      exact ftotals_walk _ _ _ _ _ _ _ _ _ _ _ _ _ _ _ _ _ _ _ _ _ _ _ _ _ _ _ q1)
end Go.Proofs.Ytlcbemcamdafjaa
/- The followers of a keeper; a follower is told what is news. -/
namespace Go.Proofs.Ytlcbemcamdafjaa
open Go.RowKit
open Go.ChangeMaps (setBlock)
open M
set_option linter.unusedVariables false
set_option linter.unusedSimpArgs false
set_option maxRecDepth 100000
set_option maxHeartbeats 2000000

/-- The followers of a keeper: whose map is which. -/
structure FolX (w : World) (ow om : Nat → Nat) (kb : Nat) (tl : Nat → Option (List FEnt)) : Prop where
  un : ∀ i, i < 8 → tl i = none → w.cell? ⟨kb, 22 + i, none⟩ = some (.map none)
  is : ∀ i, i < 8 → ∀ es, tl i = some es → ∃ m clock, w.cell? ⟨kb, 22 + i, none⟩ = some (.map (some m)) ∧ om m = i + 1 ∧ w.heap[m]? = some (folObj es clock) ∧ FolOk es
  old : ∀ k, om k ≠ 0 → k < w.heap.size ∧ ow k = 0

theorem FolX.still {w w' : World} {ow om : Nat → Nat} {kb : Nat} {tl : Nat → Option (List FEnt)} (h : FolX w ow om kb tl) (hm : Mod No w w') : FolX w' ow om kb tl :=
  ⟨fun i hi ht => mod_cell hm (h.un i hi ht), fun i hi es ht => by
    obtain ⟨m, clock, h1, h2, h3, h4⟩ := h.is i hi es ht
    exact ⟨m, clock, mod_cell hm h1, h2, mod_fol hm h3 (fun x => x), h4⟩, fun k hk => ⟨Nat.lt_of_lt_of_le (h.old k hk).1 hm.size, (h.old k hk).2⟩⟩

/-- A command leaves them alone. -/
theorem FolX.kept {w w' : World} {ow om : Nat → Nat} {kb : Nat} {now : Int} {fl : Nat → Option (Pla × List Sea)} {tl : Nat → Option (List FEnt)} (h : FolX w ow om kb tl) (hk : Kept w w' ow kb now fl) :
    ∃ ow', KeepH w' ow' kb now fl ∧ FolX w' ow' om kb tl ∧ (∀ k, k < w.heap.size → ow' k = ow k) ∧ Mod (fun k => ow k ≠ 0) w w' := by
  obtain ⟨⟨ow', h1, ho⟩, hm, hf⟩ := hk
  refine ⟨ow', h1, ⟨fun i hi ht => by rw [hf i hi]; exact h.un i hi ht, fun i hi es ht => ?_, fun k hk => ⟨Nat.lt_of_lt_of_le (h.old k hk).1 hm.size, by rw [ho k (h.old k hk).1]; exact (h.old k hk).2⟩⟩, ho, hm⟩
  obtain ⟨m, clock, a1, a2, a3, a4⟩ := h.is i hi es ht
  exact ⟨m, clock, by rw [hf i hi]; exact a1, a2, mod_fol hm a3 (fun e => e (h.old m (by omega)).2), a4⟩

/-- What may be told of the first k flights. -/
def lv (x : Pla × List Sea) (c : Nat) : Int := min (cE x.1 x.2 c) 9
def itemsF (fl : Nat → Option (Pla × List Sea)) (n : Nat) : List Nw := match fl n with | none => [] | some x => items n (lv x 0) (lv x 1) (lv x 2) (lv x 3) 4
def itemsK (fl : Nat → Option (Pla × List Sea)) (k : Nat) : List Nw := (List.range k).flatMap (itemsF fl)
theorem itemsK_succ (fl : Nat → Option (Pla × List Sea)) (k : Nat) : itemsK fl (k + 1) = itemsK fl k ++ itemsF fl k := by
  unfold itemsK
  rw [List.range_succ, List.flatMap_append]
  simp

theorem keep_set_far (now : Int) (pt : Nat → Option Nat) (i m : Nat) (hi : i < 8) : (keepCells now pt).setIfInBounds (22 + i) (.map (some m)) = keepCells now (updP pt (21 + i) m) := by
  have : i = 0 ∨ i = 1 ∨ i = 2 ∨ i = 3 ∨ i = 4 ∨ i = 5 ∨ i = 6 ∨ i = 7 := by omega
  rcases this with h | h | h | h | h | h | h | h <;> (subst h; rfl)

/-- A follower gets a map. -/
theorem KeepX.fol {w : World} {ow : Nat → Nat} {kb : Nat} {now : Int} {pt : Nat → Option Nat} {fl : Nat → Option (Pla × List Sea)} (h : KeepX w ow kb now pt fl) (i m : Nat) (hi : i < 8) :
    KeepX (w.setCell ⟨kb, 22 + i, none⟩ (.map (some m))) ow kb now (updP pt (21 + i) m) fl := by
  have hm : Mod (fun k => k = kb) w (w.setCell ⟨kb, 22 + i, none⟩ (.map (some m))) := (Mod.refl _ w).at (22 + i) _
  refine ⟨?_, h.mine, fun k hk => Nat.lt_of_lt_of_le (h.old k hk) hm.size, fun n hn hf => ?_, fun n p l hn hf => ?_⟩
  · have := h.has.set (22 + i) (.map (some m))
    rw [keep_set_far now pt i m hi] at this
    exact this
  · simp only [updP]
    rw [if_neg (by omega)]
    exact h.gone n hn hf
  · obtain ⟨b, h1, h2, h3⟩ := h.here n p l hn hf
    refine ⟨b, ?_, h2, h3.mod hm (fun k hk e => by subst e; rw [h.mine] at hk; omega)⟩
    simp only [updP]
    rw [if_neg (by omega)]
    exact h1
end Go.Proofs.Ytlcbemcamdafjaa
