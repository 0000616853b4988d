import Derived.Test.YtlcbemcamdafjaaGreatCdoesKeep7Tp
import Derived.Handy
import Derived.Test.YtlcbemcamdafjaaGreatCdoesKeep3Ref15
/- The tape's methods, continued: a new tape, its room, its fuse, burning, syncing. -/
namespace Go.Proofs.YtlcbemcamdafjaaGreat
open Go.RowKit
set_option linter.unusedVariables false
set_option linter.unusedSimpArgs false

/-- What burning leaves of a fuse. -/
def burnt (f : Int) : Int := if 0 < f then f - 1 else f

theorem cells_fuse (t : TTape) (n : Int) : t.cells.setIfInBounds 9 (.int .i64 n) = ({ t with fuse := n } : TTape).cells := rfl

theorem TTape.ok.fuse {S : Nat → Prop} {w : World} {b : Nat} {t : TTape} (h : t.ok S w b) (n : Int) : ({ t with fuse := n } : TTape).ok S (w.setCell ⟨b, 9, none⟩ (.int .i64 n)) b := by
  have ne : ∀ (f : TFile), f.ok S w → f.v.ownBlock ≠ some b := fun f hf e => by
    rcases hf.owns.2 with ⟨hv, _⟩ | ⟨g, cap, cur, hv, _, hg, _⟩
    · rw [hv] at e; simp [Value.ownBlock] at e
    · rw [hv] at e; simp [Value.ownBlock] at e; subst e
      exact h.has.ne (T' := 5) hg (by decide) rfl
  have k : ∀ (f : TFile), f.ok S w → f.ok S (w.setCell ⟨b, 9, none⟩ (.int .i64 n)) := fun f hf =>
    ⟨owns_setCell_ne hf.owns (by simpa using ne f hf) _, hf.last, hf.len, hf.bytes, hf.inn⟩
  exact ⟨by have := h.has.set 9 (.int .i64 n); rwa [cells_fuse] at this, h.inn, k _ h.k0, k _ h.k1, k _ h.k2, k _ h.k3, h.a01, h.a02, h.a03, h.a12, h.a13, h.a23⟩

theorem burn_any {S : Nat → Prop} (b : Nat) (t : TTape) (w : World) (h : t.ok S w b) (hf : -4611686018427387904 ≤ t.fuse ∧ t.fuse ≤ 4611686018427387904) :
    Calls Tryz.prog 65 #[.pointer (some ⟨b, 0, none⟩)] w fun e w' => e = .returned (.bool (decide (t.fuse ≠ 0))) ∧ ({ t with fuse := burnt t.fuse } : TTape).ok S w' b ∧ Mod (· = b) w w' := by
  have hc := h.has.cell
  have hz := h.has.frozen
  have H := hide h
  have e9 : t.cells[9]? = some (.int .i64 t.fuse) := rfl
  have hc9 := hc 9
  rw [e9] at hc9
  clear hc h e9
  obtain ⟨f0, f1, f2, f3, room, f⟩ := t
  simp only at hc9 hf
  simp only
  rcases Int.lt_trichotomy f 0 with hlt | heq | hgt
  · go_enter Tryz.func65, Tryz.ntmps65
    go_wp2
    all_goals go_ret
    all_goals exact ⟨by simp; omega, by simpa [burnt, Int.not_lt.2 (Int.le_of_lt hlt)] using unhide H, Mod.refl _ _⟩
  · subst heq
    go_enter Tryz.func65, Tryz.ntmps65
    go_wp2
    all_goals go_ret
    all_goals exact ⟨by simp, by simpa [burnt] using unhide H, Mod.refl _ _⟩
  · have hw := wrap_id (f - 1) (by omega) (by omega)
    go_enter Tryz.func65, Tryz.ntmps65
    go_wp2
    all_goals go_ret
    all_goals exact ⟨by simp; omega, by simpa [burnt, hgt] using (unhide H).fuse (f - 1), Mod.setCell (S := fun k => k = b) (Mod.refl _ w) (p := ⟨b, 9, none⟩) (.inl rfl) _⟩


def TTape.get (t : TTape) : Nat → TFile
  | 0 => t.f0
  | 1 => t.f1
  | 2 => t.f2
  | _ => t.f3
def TTape.put (t : TTape) (f : TFile) : Nat → TTape
  | 0 => { t with f0 := f }
  | 1 => { t with f1 := f }
  | 2 => { t with f2 := f }
  | _ => { t with f3 := f }

/-- The tape's block, or a file's row: what one file's own work may turn. -/
def Touch (b : Nat) (f : TFile) : Nat → Prop := fun k => k = b ∨ f.v.ownBlock = some k

theorem TFile.ok.ne {S : Nat → Prop} {w : World} {f : TFile} (hf : f.ok S w) {b : Nat} {cs : Array Value} (h : Has w b cs 108) : f.v.ownBlock ≠ some b := fun e => by
  rcases hf.owns.2 with ⟨hv, _⟩ | ⟨g, cap, cur, hv, _, hg, _⟩
  · rw [hv] at e; simp [Value.ownBlock] at e
  · rw [hv] at e; simp [Value.ownBlock] at e; subst e
    exact h.ne (T' := 5) hg (by decide) rfl

/-- Another file's work leaves a file as it is. -/
theorem TFile.ok.other {S : Nat → Prop} {w w' : World} {b : Nat} {f g : TFile} {cs : Array Value} (hf : f.ok S w) (hb : Has w b cs 108) (ha : f.apart g) (hm : Mod (Touch b g) w w') : f.ok S w' :=
  hf.mod hm (fun k hk => by
    rintro (rfl | h)
    · exact hf.ne hb hk
    · exact ha k hk h)

/-- A file is written anew: its row, its bytes, its last. -/
theorem TTape.ok.put {S S' : Nat → Prop} {w w' : World} {b : Nat} {t : TTape} (h : t.ok S w b) (i : Nat) (hi : i < 4) (f : TFile)
    (hm : Mod (Touch b (t.get i)) w w') (hhas : Has w' b (t.put f i).cells 108) (hf : f.ok S' w') (hS : ∀ k, S k → S' k)
    (hst : ∀ k, f.v.ownBlock = some k → (t.get i).v.ownBlock = some k ∨ w.heap.size ≤ k) : (t.put f i).ok S' w' b := by
  have lt : ∀ (g : TFile), g.ok S w → ∀ k, g.v.ownBlock = some k → k < w.heap.size := fun g hg k hk => (hg.owns.lt k hk).2
  have ap : ∀ (g : TFile), g.ok S w → (t.get i).apart g → f.apart g := fun g hg ha k hk hgk => by
    rcases hst k hk with h1 | h1
    · exact ha k h1 hgk
    · have := lt g hg k hgk; omega
  match i, hi with
  | 0, _ =>
    exact ⟨hhas, hS _ h.inn, hf, (h.k1.other h.has h.a01.symm hm).wide hS, (h.k2.other h.has h.a02.symm hm).wide hS, (h.k3.other h.has h.a03.symm hm).wide hS,
      ap _ h.k1 h.a01, ap _ h.k2 h.a02, ap _ h.k3 h.a03, h.a12, h.a13, h.a23⟩
  | 1, _ =>
    exact ⟨hhas, hS _ h.inn, (h.k0.other h.has h.a01 hm).wide hS, hf, (h.k2.other h.has h.a12.symm hm).wide hS, (h.k3.other h.has h.a13.symm hm).wide hS,
      (ap _ h.k0 h.a01.symm).symm, h.a02, h.a03, ap _ h.k2 h.a12, ap _ h.k3 h.a13, h.a23⟩
  | 2, _ =>
    exact ⟨hhas, hS _ h.inn, (h.k0.other h.has h.a02 hm).wide hS, (h.k1.other h.has h.a12 hm).wide hS, hf, (h.k3.other h.has h.a23.symm hm).wide hS,
      h.a01, (ap _ h.k0 h.a02.symm).symm, h.a03, (ap _ h.k1 h.a12.symm).symm, h.a13, ap _ h.k3 h.a23⟩
  | 3, _ =>
    exact ⟨hhas, hS _ h.inn, (h.k0.other h.has h.a03 hm).wide hS, (h.k1.other h.has h.a13 hm).wide hS, (h.k2.other h.has h.a23 hm).wide hS, hf,
      h.a01, h.a02, (ap _ h.k0 h.a03.symm).symm, h.a12, (ap _ h.k1 h.a13.symm).symm, (ap _ h.k2 h.a23.symm).symm⟩
theorem TTape.ok.get {S : Nat → Prop} {w : World} {b : Nat} {t : TTape} (h : t.ok S w b) (i : Nat) (hi : i < 4) : (t.get i).ok S w := by
  match i, hi with
  | 0, _ => exact h.k0
  | 1, _ => exact h.k1
  | 2, _ => exact h.k2
  | 3, _ => exact h.k3

theorem cells_v (t : TTape) (i : Nat) (hi : i < 4) : t.cells[i * 2]? = some (t.get i).v ∧ t.cells[i * 2 + 1]? = some (.int .i64 (t.get i).last) := by
  match i, hi with
  | 0, _ => exact ⟨rfl, rfl⟩
  | 1, _ => exact ⟨rfl, rfl⟩
  | 2, _ => exact ⟨rfl, rfl⟩
  | 3, _ => exact ⟨rfl, rfl⟩
theorem cells_put (t : TTape) (v : Value) (xs : List Value) (l : Nat) (i : Nat) (hi : i < 4) : (t.cells.setIfInBounds (i * 2) v).setIfInBounds (i * 2 + 1) (.int .i64 l) = (t.put ⟨v, xs, l⟩ i).cells := by
  match i, hi with
  | 0, _ => rfl
  | 1, _ => rfl
  | 2, _ => rfl
  | 3, _ => rfl
theorem cells_put_v (t : TTape) (v : Value) (xs : List Value) (i : Nat) (hi : i < 4) : t.cells.setIfInBounds (i * 2) v = (t.put ⟨v, xs, (t.get i).last⟩ i).cells := by
  match i, hi with
  | 0, _ => rfl
  | 1, _ => rfl
  | 2, _ => rfl
  | 3, _ => rfl
theorem cells_put_l (t : TTape) (xs : List Value) (l : Nat) (i : Nat) (hi : i < 4) : t.cells.setIfInBounds (i * 2 + 1) (.int .i64 l) = (t.put ⟨(t.get i).v, xs, l⟩ i).cells := by
  match i, hi with
  | 0, _ => rfl
  | 1, _ => rfl
  | 2, _ => rfl
  | 3, _ => rfl

theorem new_any (n : Int) (w : World) :
    Calls Tryz.prog 18 #[.int .i64 n] w fun e w' => e = .returned (.pointer (some ⟨w.heap.size, 0, none⟩)) ∧
      w' = w.alloc (.cells (⟨⟨.slice none 0 0, [], 0⟩, ⟨.slice none 0 0, [], 0⟩, ⟨.slice none 0 0, [], 0⟩, ⟨.slice none 0 0, [], 0⟩, n, -1⟩ : TTape).cells 108) := by
  go_enter Tryz.func18, Tryz.ntmps18
  go_wp2
  go_ret
  exact ⟨rfl, rfl⟩
theorem fuse_any (b : Nat) (n : Int) (w : World) (cs : Array Value) (h : Has w b cs 108) (h9 : 9 < cs.size) :
    Calls Tryz.prog 19 #[.pointer (some ⟨b, 0, none⟩), .int .i64 n] w fun e w' => e = .returned (.tuple #[]) ∧ w' = w.setCell ⟨b, 9, none⟩ (.int .i64 n) := by
  have hc := h.cell 9
  have hz := h.frozen 9
  rw [Array.getElem?_eq_getElem h9] at hc
  clear h
  generalize cs[9] = x at hc
  go_enter Tryz.func19, Tryz.ntmps19
  go_wp2
  go_end0
  exact ⟨rfl, rfl⟩
theorem room_any (b : Nat) (n : Int) (w : World) (cs : Array Value) (h : Has w b cs 108) (h8 : cs[8]? = some (.int .i64 n)) :
    Calls Tryz.prog 28 #[.pointer (some ⟨b, 0, none⟩)] w fun e w' => e = .returned (.int .i64 n) ∧ w' = w := by
  have hc := h.cell 8
  rw [h8] at hc
  clear h
  go_enter Tryz.func28, Tryz.ntmps28
  go_wp2
  go_ret
  exact ⟨rfl, rfl⟩
end Go.Proofs.YtlcbemcamdafjaaGreat
/- A keeper is opened; it tells what is left, and counts. -/
namespace Go.Proofs.YtlcbemcamdafjaaGreat
open Go.RowKit
open Go.ChangeMaps (setBlock)
open M
set_option linter.unusedVariables false
set_option linter.unusedSimpArgs false
set_option maxRecDepth 100000
set_option maxHeartbeats 2000000

def noP : Nat → Option Nat := fun _ => none
theorem keep_new : keepCells 0 noP = #[.int .i64 0, .pointer none, .pointer none, .pointer none, .pointer none, .pointer none, .pointer none, .pointer none, .pointer none, .pointer none, .pointer none, .pointer none, .pointer none, .pointer none, .pointer none, .pointer none, .pointer none, .pointer none, .pointer none, .pointer none, .pointer none, .pointer none, .map none, .map none, .map none, .map none, .map none, .map none, .map none, .map none] := rfl

theorem open_low (tb : Nat) (n : Int) (cs : Array Value) (w : World) (h : Has w tb cs 108) (h8 : cs[8]? = some (.int .i64 n)) (hn : n < 200) :
    Calls Tryz.prog 20 #[.pointer (some ⟨tb, 0, none⟩)] w fun e w' => e = .returned (.tuple #[.pointer none, .int .i64 15]) ∧ w' = w := by
  have HR := hide (room_any tb n w cs h h8)
  clear h h8
  go_enter Tryz.func20, Tryz.ntmps20
  go_wp2_with fail
  refine (unhide HR).mono ?_
  rintro e w1 ⟨rfl, rfl⟩
  go_wp2
  go_ret2
  exact ⟨rfl, rfl⟩

theorem open_walk (tb : Nat) (n : Int) (cs : Array Value) (w : World) (h : Has w tb cs 108) (h8 : cs[8]? = some (.int .i64 n)) (hn : ¬ n < 200) :
    Calls Tryz.prog 20 #[.pointer (some ⟨tb, 0, none⟩)] w fun e w' => e = .returned (.tuple #[.pointer (some ⟨w.heap.size, 0, none⟩), .int .i64 0]) ∧ w' = w.alloc (.cells (keepCells 0 noP) 116) := by
  have HR := hide (room_any tb n w cs h h8)
  rw [keep_new]
  clear h h8
  go_enter Tryz.func20, Tryz.ntmps20
  go_wp2_with fail
  refine (unhide HR).mono ?_
  rintro e w1 ⟨rfl, rfl⟩
  go_wp2
  go_ret2
  exact ⟨rfl, rfl⟩

def noFl : Nat → Option (Pla × List Sea) := fun _ => none
theorem keep_start (w : World) : KeepH (w.alloc (.cells (keepCells 0 noP) 116)) (fun k => if k = w.heap.size then 1 else 0) w.heap.size 0 noFl :=
  ⟨noP, ⟨Has.new w _ _, if_pos rfl, fun k hk => by
    by_cases e : k = w.heap.size
    · subst e; simp
    · exact absurd (if_neg e) hk, fun _ _ _ => rfl, fun n p l _ h => by cases h⟩⟩

theorem KeepH.mod {w w' : World} {ow : Nat → Nat} {kb : Nat} {now : Int} {fl : Nat → Option (Pla × List Sea)} {S : Nat → Prop} (h : KeepH w ow kb now fl) (hm : Mod S w w') (hs : ∀ k, ow k ≠ 0 → ¬ S k) : KeepH w' ow kb now fl := by
  obtain ⟨pt, h⟩ := h
  exact ⟨pt, h.mod hm hs⟩

theorem KeepH.wf {w : World} {ow : Nat → Nat} {kb : Nat} {now : Int} {fl : Nat → Option (Pla × List Sea)} (h : KeepH w ow kb now fl) {n : Nat} (hn : n < 21) {p : Pla} {l : List Sea} (hf : fl n = some (p, l)) : Wf p l := by
  obtain ⟨pt, h⟩ := h
  obtain ⟨b, _, hw, _⟩ := h.here n p l hn hf
  exact hw

/-- What is told of what is left. -/
def leftK (fl : Nat → Option (Pla × List Sea)) (n c : Int) : Int × Int :=
  if ¬ (1 ≤ n ∧ n ≤ 20) then (0, 2)
  else match fl n.toNat with
    | none => (0, 2)
    | some x => if ¬ (0 ≤ c ∧ c < 4) then (0, 6) else (min (M.leftOf x.1 x.2 c.toNat) 9, 0)

/-- Counts, as they are told. -/
def totV (p : Pla) (l : List Sea) : Array Value :=
  #[.int .i64 (cA p l 0), .int .i64 (cA p l 1), .int .i64 (cA p l 2), .int .i64 (cA p l 3), .int .i64 (cB p l 0), .int .i64 (cB p l 1), .int .i64 (cB p l 2), .int .i64 (cB p l 3), .int .i64 (cS l 0), .int .i64 (cS l 1), .int .i64 (cS l 2), .int .i64 (cS l 3)]
def countK (fl : Nat → Option (Pla × List Sea)) (n : Int) : Array Value × Int :=
  if ¬ (1 ≤ n ∧ n ≤ 20) then (zero51, 2)
  else match fl n.toNat with
    | none => (zero51, 2)
    | some x => (totV x.1 x.2, 0)

theorem left_any {w : World} {ow : Nat → Nat} {kb : Nat} {now : Int} {fl : Nat → Option (Pla × List Sea)} (h : KeepH w ow kb now fl) (n c : Int) :
    Calls Tryz.prog 33 #[.pointer (some ⟨kb, 0, none⟩), .int .i64 n, .int .i64 c] w fun e w' => e = .returned (.tuple #[.int .i64 (leftK fl n c).1, .int .i64 (leftK fl n c).2]) ∧ Mod No w w' := by
  obtain ⟨pt, h⟩ := h
  unfold leftK
  by_cases hn : 1 ≤ n ∧ n ≤ 20
  case neg =>
    rw [if_pos hn]
    exact left_none kb n c w (find_no kb n hn w)
  rw [if_neg (by simpa using hn)]
  have hfn : ((n.toNat : Nat) : Int) = n := by omega
  have hF := find_any h n.toNat (by omega)
  rw [hfn] at hF
  cases hfl : fl n.toNat with
  | none =>
    rw [h.gone _ (by omega) hfl] at hF
    exact left_none kb n c w hF
  | some x =>
    obtain ⟨p, l⟩ := x
    obtain ⟨b, hp, hwf, hfh⟩ := h.here _ p l (by omega) hfl
    rw [hp] at hF
    simp only
    by_cases hc : 0 ≤ c ∧ c < 4
    case neg =>
      rw [if_pos hc]
      exact left_class kb b n c hc w hF
    rw [if_neg (by simpa using hc)]
    obtain ⟨m, es, clock, q1, _⟩ := hfh
    have hcn : ((c.toNat : Nat) : Int) = c := by omega
    have := left_walk kb b n c.toNat (by omega) (min (cE p l 0) 9) (min (cE p l 1) 9) (min (cE p l 2) 9) (min (cE p l 3) 9) w hF (fleft_walk _ _ _ _ _ _ _ _ _ _ _ _ _ _ _ _ _ _ _ _ _ _ _ _ _ _ _ q1)
    rw [hcn] at this
    refine this.mono ?_
    rintro e w' ⟨rfl, hm⟩
    refine ⟨?_, hm⟩
    have : c.toNat = 0 ∨ c.toNat = 1 ∨ c.toNat = 2 ∨ c.toNat = 3 := by omega
    rcases this with e | e | e | e <;> rw [e] <;> rfl

theorem count_any {w : World} {ow : Nat → Nat} {kb : Nat} {now : Int} {fl : Nat → Option (Pla × List Sea)} (h : KeepH w ow kb now fl) (n : Int) :
    Calls Tryz.prog 35 #[.pointer (some ⟨kb, 0, none⟩), .int .i64 n] w fun e w' => e = .returned (.tuple #[.agg (countK fl n).1, .int .i64 (countK fl n).2]) ∧ Mod No w w' := by
  obtain ⟨pt, h⟩ := h
  unfold countK
  by_cases hn : 1 ≤ n ∧ n ≤ 20
  case neg =>
    rw [if_pos hn]
    exact count_none kb n w (fun W _ => find_no kb n hn W)
  rw [if_neg (by simpa using hn)]
  have hfn : ((n.toNat : Nat) : Int) = n := by omega
  have hF : ∀ W, Mod No w W → Calls Tryz.prog 55 #[.pointer (some ⟨kb, 0, none⟩), .int .i64 n] W fun e w' => e = .returned (pv (pt n.toNat)) ∧ w' = W := fun W hW => by
    have := find_any (h.mod hW (fun _ _ x => x)) n.toNat (by omega)
    rw [hfn] at this
    exact this
  cases hfl : fl n.toNat with
  | none =>
    rw [h.gone _ (by omega) hfl] at hF
    exact count_none kb n w hF
  | some x =>
    obtain ⟨p, l⟩ := x
    obtain ⟨b, hp, hwf, hfh⟩ := h.here _ p l (by omega) hfl
    rw [hp] at hF
    simp only
    exact count_walk kb b n _ _ _ _ _ _ _ _ _ _ _ _ w hF (fun W hW => by
      obtain ⟨m, es, clock, q1, _⟩ := hfh.mod0 hW
      exact ftotals_walk _ _ _ _ _ _ _ _ _ _ _ _ _ _ _ _ _ _ _ _ _ _ _ _ _ _ _ q1)
end Go.Proofs.YtlcbemcamdafjaaGreat
/- The document's answer: seats are counted. -/
namespace Go.Proofs.YtlcbemcamdafjaaGreat
open Go.RowKit
open M
set_option linter.unusedVariables false
set_option linter.unusedSimpArgs false
set_option maxRecDepth 100000
set_option maxHeartbeats 8000000

/-- Three rows of four counts. -/
def tF (a b s : Nat → Int) : Array Value :=
  #[.int .i64 (a 0), .int .i64 (a 1), .int .i64 (a 2), .int .i64 (a 3), .int .i64 (b 0), .int .i64 (b 1), .int .i64 (b 2), .int .i64 (b 3), .int .i64 (s 0), .int .i64 (s 1), .int .i64 (s 2), .int .i64 (s 3)]
theorem tF_a (a b s : Nat → Int) (n : Nat) (hn : n < 4) : (tF a b s)[n]? = some (.int .i64 (a n)) := by
  match n, hn with | 0, _ => rfl | 1, _ => rfl | 2, _ => rfl | 3, _ => rfl
theorem tF_b (a b s : Nat → Int) (n : Nat) (hn : n < 4) : (tF a b s)[4 + n]? = some (.int .i64 (b n)) := by
  match n, hn with | 0, _ => rfl | 1, _ => rfl | 2, _ => rfl | 3, _ => rfl
theorem tF_s (a b s : Nat → Int) (n : Nat) (hn : n < 4) : (tF a b s)[8 + n]? = some (.int .i64 (s n)) := by
  match n, hn with | 0, _ => rfl | 1, _ => rfl | 2, _ => rfl | 3, _ => rfl
theorem tF_seta (a b s : Nat → Int) (n : Nat) (hn : n < 4) (v : Int) : (tF a b s).setIfInBounds n (.int .i64 v) = tF (upd a n v) b s := by
  match n, hn with | 0, _ => rfl | 1, _ => rfl | 2, _ => rfl | 3, _ => rfl
theorem tF_setb (a b s : Nat → Int) (n : Nat) (hn : n < 4) (v : Int) : (tF a b s).setIfInBounds (4 + n) (.int .i64 v) = tF a (upd b n v) s := by
  match n, hn with | 0, _ => rfl | 1, _ => rfl | 2, _ => rfl | 3, _ => rfl
theorem tF_sets (a b s : Nat → Int) (n : Nat) (hn : n < 4) (v : Int) : (tF a b s).setIfInBounds (8 + n) (.int .i64 v) = tF a b (upd s n v) := by
  match n, hn with | 0, _ => rfl | 1, _ => rfl | 2, _ => rfl | 3, _ => rfl

theorem nAt_take (p : Pla) (fr : Bool) (j : Int) (l : List Sea) (i : Nat) (hi : i < l.length) : nAt p fr j (l.take (i + 1)) = nAt p fr j (l.take i) + if ((decide (l[i].row ≤ p.front) == fr) && l[i].st == j) = true then 1 else 0 := by
  unfold nAt
  rw [List.take_add_one, List.getElem?_eq_getElem hi]
  simp only [Option.toList_some, List.countP_append, List.countP_singleton]
theorem nSold_take (j : Int) (l : List Sea) (i : Nat) (hi : i < l.length) : nSold j (l.take (i + 1)) = nSold j (l.take i) + if (l[i].sold && l[i].cl == j) = true then 1 else 0 := by
  unfold nSold
  rw [List.take_add_one, List.getElem?_eq_getElem hi]
  simp only [Option.toList_some, List.countP_append, List.countP_singleton]

/-- The counts behind one more seat. -/
theorem cA_front (p : Pla) (l : List Sea) (i n : Nat) (hi : i < l.length) (hst : l[i].st = n) (hf : l[i].row ≤ p.front) : cA p (l.take (i + 1)) = upd (cA p (l.take i)) n (cA p (l.take i) n + 1) ∧ cB p (l.take (i + 1)) = cB p (l.take i) := by
  constructor
  · funext j
    unfold cA upd
    rw [nAt_take _ _ _ _ _ hi, hst]
    by_cases e : j = n
    · subst e; simp [hf]
    · have : ¬ ((n : Nat) : Int) = (j : Int) := fun h => e (by omega)
      simp [e, hf, this]
  · funext j
    unfold cB
    rw [nAt_take _ _ _ _ _ hi]
    simp [hf]
theorem cB_rear (p : Pla) (l : List Sea) (i n : Nat) (hi : i < l.length) (hst : l[i].st = n) (hf : ¬ l[i].row ≤ p.front) : cB p (l.take (i + 1)) = upd (cB p (l.take i)) n (cB p (l.take i) n + 1) ∧ cA p (l.take (i + 1)) = cA p (l.take i) := by
  constructor
  · funext j
    unfold cB upd
    rw [nAt_take _ _ _ _ _ hi, hst]
    by_cases e : j = n
    · subst e; simp [hf]
    · have : ¬ ((n : Nat) : Int) = (j : Int) := fun h => e (by omega)
      simp [e, hf, this]
  · funext j
    unfold cA
    rw [nAt_take _ _ _ _ _ hi]
    simp [hf]
theorem cS_sold (l : List Sea) (i k : Nat) (hi : i < l.length) (hcl : l[i].cl = k) (hs : l[i].sold = true) : cS (l.take (i + 1)) = upd (cS (l.take i)) k (cS (l.take i) k + 1) := by
  funext j
  unfold cS upd
  rw [nSold_take _ _ _ hi, hcl, hs]
  by_cases e : j = k
  · subst e; simp
  · have : ¬ ((k : Nat) : Int) = (j : Int) := fun h => e (by omega)
    simp [e, this]
theorem cS_not (l : List Sea) (i : Nat) (hi : i < l.length) (hs : l[i].sold = false) : cS (l.take (i + 1)) = cS (l.take i) := by
  funext j
  unfold cS
  rw [nSold_take _ _ _ hi, hs]
  simp
theorem tF_full (p : Pla) (l : List Sea) : tF (cA p l) (cB p l) (cS l) = totV p l := rfl

theorem cnt_small (p : Pla) (l : List Sea) (i : Nat) (hl : l.length ≤ 120) (j : Nat) : (0 ≤ cA p (l.take i) j ∧ cA p (l.take i) j ≤ 120) ∧ (0 ≤ cB p (l.take i) j ∧ cB p (l.take i) j ≤ 120) ∧ (0 ≤ cS (l.take i) j ∧ cS (l.take i) j ≤ 120) := by
  have hl2 : (l.take i).length ≤ 120 := by rw [List.length_take]; omega
  have h1 : nAt p true j (l.take i) ≤ (l.take i).length := List.countP_le_length
  have h2 : nAt p false j (l.take i) ≤ (l.take i).length := List.countP_le_length
  have h3 : nSold j (l.take i) ≤ (l.take i).length := List.countP_le_length
  unfold cA cB cS
  omega
end Go.Proofs.YtlcbemcamdafjaaGreat
