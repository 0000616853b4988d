import Derived.Test.YthhibagcpjeihaaGreatGMapsToRef2
import Derived.Deep.DeepCutAuto
/- The document's answer in memory: a row of flights; where a flight stands; what is left. -/
namespace Go.Proofs.YthhibagcpjeihaaGreat
open Go.RowKit
open M
set_option linter.unusedVariables false
set_option linter.unusedSimpArgs false
set_option maxRecDepth 100000
set_option maxHeartbeats 2000000

/-- A flight, and where its seats lie. -/
structure FR where
  f : Fli
  g : Nat
  cap : Nat

def friV (x : FR) : Array Value :=
  #[.int .i64 x.f.num, .int .i64 x.f.pla.rows, .int .i64 x.f.pla.cols, .int .i64 x.f.pla.front, .int .i64 x.f.pla.l0, .int .i64 x.f.pla.l1, .int .i64 x.f.pla.l2, .int .i64 x.f.pla.l3,
    .slice (some ⟨x.g, 0, none⟩) x.f.seats.length x.cap, .int .i64 x.f.ep]

/-- A row of flights in a block of its own. -/
structure RowF (w : World) (gf cap : Nat) (xs : List FR) : Prop where
  cur : ∃ cur, Has w gf cur 134 ∧ cur.size = cap * 10 ∧ ∀ i (h : i < xs.length) j, j < 10 → cur[i * 10 + j]? = (friV xs[i])[j]?
  le : xs.length ≤ cap
  max : cap ≤ maxLen

theorem RowF.cell {w : World} {gf cap : Nat} {xs : List FR} (h : RowF w gf cap xs) (i : Nat) (hi : i < xs.length) (j : Nat) (hj : j < 10) : w.cell? ⟨gf, i * 10 + j, none⟩ = (friV xs[i])[j]? := by
  obtain ⟨cur, h1, h2, h3⟩ := h.cur
  rw [h1.cell]
  exact h3 i hi j hj
theorem RowF.lt {w : World} {gf cap : Nat} {xs : List FR} (h : RowF w gf cap xs) : gf < w.heap.size := by
  obtain ⟨cur, h1, _⟩ := h.cur
  exact h1.lt
theorem RowF.mod {w w' : World} {gf cap : Nat} {xs : List FR} {S : Nat → Prop} (h : RowF w gf cap xs) (hm : Mod S w w') (hg : ¬ S gf) : RowF w' gf cap xs := by
  obtain ⟨cur, h1, h2, h3⟩ := h.cur
  exact ⟨⟨cur, hm.has h1 hg, h2, h3⟩, h.le, h.max⟩

/-- The flights of a world: none yet, or a row. -/
def FlsV (w : World) (v : Value) (xs : List FR) : Prop :=
  (xs = [] ∧ v = .slice none 0 0) ∨ ∃ gf cap, v = .slice (some ⟨gf, 0, none⟩) xs.length cap ∧ RowF w gf cap xs

/-- Where the first flight of a number stands; -1: nowhere. -/
def findN (xs : List FR) (n : Int) : Int := match xs.findIdx? (fun x => x.f.num == n) with | some i => (i : Int) | none => -1

theorem findN_some {xs : List FR} {n : Int} (i : Nat) (hi : i < xs.length) (h : xs[i].f.num = n) (hb : ∀ j, ∀ hj : j < xs.length, j < i → xs[j].f.num ≠ n) : findN xs n = i := by
  unfold findN
  have : xs.findIdx? (fun x => x.f.num == n) = some i := by
    rw [List.findIdx?_eq_some_iff_getElem]
    exact ⟨hi, by simpa using h, fun j hj => by simpa using hb j (by omega) hj⟩
  rw [this]
theorem findN_none {xs : List FR} {n : Int} (h : ∀ j, ∀ hj : j < xs.length, xs[j].f.num ≠ n) : findN xs n = -1 := by
  unfold findN
  have : xs.findIdx? (fun x => x.f.num == n) = none := by
    rw [List.findIdx?_eq_none_iff]
    intro x hx
    obtain ⟨j, hj, rfl⟩ := List.getElem_of_mem hx
    simpa using h j hj
  rw [this]

theorem rfind_any (wb : Nat) (xs : List FR) (v : Value) (n : Int) (w : World) (hv : w.cell? ⟨wb, 0, none⟩ = some v) (hx : FlsV w v xs) (hl : xs.length ≤ 1000) :
    Calls Tryz.prog 52 #[.pointer (some ⟨wb, 0, none⟩), .int .i64 n] w fun e w' => e = .returned (.int .i64 (findN xs n)) ∧ w' = w := by
  rcases hx with ⟨rfl, rfl⟩ | ⟨gf, cap, rfl, hr⟩
  · go_enter Tryz.func52, Tryz.ntmps52
    go_wp2_with fail
    go_loopw [5] (fun s5 wr => s5 = .int .i64 0 ∧ wr = w) (fun _ _ => 0)
    case atStart => exact ⟨rfl, rfl⟩
    case round =>
      obtain ⟨rfl, rfl⟩ := hrel
      go_wp2
      go_ret
      exact ⟨rfl, rfl⟩
  · have H := hide hr
    clear hr
    go_enter Tryz.func52, Tryz.ntmps52
    go_wp2_with fail
    go_loopw [5] (fun s5 wr => ∃ i : Nat, s5 = .int .i64 i ∧ i ≤ xs.length ∧ Hid (∀ j, ∀ hj : j < xs.length, j < i → xs[j].f.num ≠ n) ∧ wr = w) (fun s5 _ => xs.length - (intOf s5).toNat)
    case atStart => exact ⟨0, rfl, by omega, fun j hj h => absurd h (Nat.not_lt_zero _), rfl⟩
    case round =>
      obtain ⟨i, rfl, hi, HA, rfl⟩ := hrel
      by_cases h1 : i < xs.length
      · have h1i : (i : Int) < (xs.length : Int) := by omega
        have h0i : (0 : Int) ≤ i := by omega
        have c0 : wr.cell? ⟨gf, i * 10, none⟩ = some (.int .i64 xs[i].f.num) := (unhide H).cell i h1 0 (by omega)
        have hi1 : IntKind.i64.wrap ((i : Int) + 1) = ((i + 1 : Nat) : Int) := by rw [wrap_id _ (by omega) (by omega)]; rfl
        by_cases h2 : xs[i].f.num = n
        · have HF := hide (findN_some i h1 h2 (unhide HA))
          clear H HA
          go_wp2
          go_ret
          exact ⟨by rw [unhide HF]; rfl, rfl⟩
        · have HN := hide (show ∀ j, ∀ hj : j < xs.length, j < i + 1 → xs[j].f.num ≠ n from fun j hj hji => by
            by_cases e : j = i
            · subst e; exact h2
            · exact (unhide HA) j hj (by omega))
          clear H HA
          go_wp2
          exact ⟨⟨i + 1, rfl, by omega, HN, trivial⟩, by simp [intOf]; omega⟩
      · have h1i : ¬ (i : Int) < (xs.length : Int) := by omega
        have HF := hide (findN_none (fun j hj => (unhide HA) j hj (by omega)))
        clear H HA
        go_wp2
        go_ret
        exact ⟨by rw [unhide HF]; rfl, rfl⟩

/-- What is left of a class, before it is held at nothing. -/
theorem leastTo_bound (p : Pla) (l : List Sea) (hp : 0 ≤ p.l0 ∧ p.l0 ≤ 200 ∧ 0 ≤ p.l1 ∧ p.l1 ≤ 200 ∧ 0 ≤ p.l2 ∧ p.l2 ≤ 200 ∧ 0 ≤ p.l3 ∧ p.l3 ≤ 200) (hl : l.length ≤ 1000) (c : Nat) (hc : c < 4) : -1000 ≤ leastTo p l c ∧ leastTo p l c ≤ 1000 := by
  have h0 := nFree_le l
  have a0 := nFrom_le 0 l
  have a1 := nFrom_le 1 l
  have a2 := nFrom_le 2 l
  have a3 := nFrom_le 3 l
  have e0 : leastTo p l 0 = min (nFree l : Int) (p.l0 - nFrom 0 l) := rfl
  have e1 : leastTo p l 1 = min (leastTo p l 0) (p.l1 - nFrom 1 l) := rfl
  have e2 : leastTo p l 2 = min (leastTo p l 1) (p.l2 - nFrom 2 l) := rfl
  have e3 : leastTo p l 3 = min (leastTo p l 2) (p.l3 - nFrom 3 l) := rfl
  have : c = 0 ∨ c = 1 ∨ c = 2 ∨ c = 3 := by omega
  rcases this with rfl | rfl | rfl | rfl <;> omega

/-- The least so far: of the classes ahead of one. -/
def leastUp (p : Pla) (l : List Sea) : Nat → Int
  | 0 => nFree l
  | c + 1 => leastTo p l c
theorem leastUp_succ (p : Pla) (l : List Sea) (c : Nat) : leastUp p l (c + 1) = min (leastUp p l c) (p.lim c - nFrom (c : Int) l) := by
  cases c with
  | zero => rfl
  | succ c => rfl

theorem rleft_any (gf fo g cap : Nat) (p : Pla) (l : List Sea) (c : Nat) (hc : c < 4) (w : World) (h : RowS w g cap l) (hl : l.length ≤ 1000) (hf : w.cell? ⟨gf, fo + 8, none⟩ = some (.slice (some ⟨g, 0, none⟩) l.length cap))
    (hp : 0 ≤ p.l0 ∧ p.l0 ≤ 200 ∧ 0 ≤ p.l1 ∧ p.l1 ≤ 200 ∧ 0 ≤ p.l2 ∧ p.l2 ≤ 200 ∧ 0 ≤ p.l3 ∧ p.l3 ≤ 200) (hL : ∀ j, j < 4 → w.cell? ⟨gf, fo + 4 + j, none⟩ = some (.int .i64 (p.lim j))) :
    Calls Tryz.prog 61 #[.pointer (some ⟨gf, fo, none⟩), .int .i64 c] w fun e w' => e = .returned (.int .i64 (M.leftOf p l c)) ∧ Mod No w w' := by
  have HFr := hide (free_any gf fo g cap l w h hl hf)
  have HS := hide fun W (hW : Mod No w W) (j : Int) => rsold_any gf fo g cap l j W (h.mod hW (fun x => x)) hl (by
    unfold World.cell? at hf ⊢
    rw [hW.block gf (World.block_lt_of_cell? w _ hf) (fun x => x)]
    exact hf)
  have HL := hide fun W (hW : Mod No w W) (j : Nat) (hj : j < 4) => (show W.cell? ⟨gf, fo + 4 + j, none⟩ = some (.int .i64 (p.lim j)) by
    have hx := hL j hj
    have hlt := World.block_lt_of_cell? w _ hx
    unfold World.cell? at hx ⊢
    rw [hW.block gf hlt (fun x => x)]
    exact hx)
  clear h hf hL
  go_enter Tryz.func61, Tryz.ntmps61
  go_wp2_with fail
  refine (unhide HFr).mono ?_
  rintro e w1 ⟨rfl, rfl⟩
  clear HFr
  go_wp2_with fail
  go_loopw [5, 6] (fun s5 s6 wr => ∃ i : Nat, s5 = .int .i64 (leastUp p l i) ∧ s6 = .int .i64 i ∧ i ≤ c + 1 ∧ Hid (Mod No w1 wr)) (fun _ s6 _ => c + 1 - (intOf s6).toNat)
  case atStart => exact ⟨0, rfl, rfl, by omega, Mod.refl _ _⟩
  case round =>
    obtain ⟨i, rfl, rfl, hi, M0⟩ := hrel
    by_cases h1 : i ≤ c
    · have h1i : (i : Int) ≤ (c : Int) := by omega
      have h0i : (0 : Int) ≤ i := by omega
      have h4i : (i : Int) < 4 := by omega
      have hi1 : IntKind.i64.wrap ((i : Int) + 1) = ((i + 1 : Nat) : Int) := by rw [wrap_id _ (by omega) (by omega)]; rfl
      have cL := (unhide HL) _ (unhide M0) i (by omega)
      have hb := nFrom_le (i : Int) l
      have hlim : 0 ≤ p.lim i ∧ p.lim i ≤ 200 := by
        have : i = 0 ∨ i = 1 ∨ i = 2 ∨ i = 3 := by omega
        rcases this with rfl | rfl | rfl | rfl <;> simp only [Pla.lim] <;> omega
      have hv : IntKind.i64.wrap (p.lim i - (nFrom (i : Int) l : Nat)) = p.lim i - (nFrom (i : Int) l : Nat) := wrap_id _ (by omega) (by omega)
      have HU := hide (leastUp_succ p l i)
      by_cases h2 : p.lim i - (nFrom (i : Int) l : Nat) < leastUp p l i
      · have HE := hide (show p.lim i - (nFrom (i : Int) l : Nat) = leastUp p l (i + 1) by rw [unhide HU]; omega)
        clear HU hb hlim
        go_wp2_with fail
        go_region_with (go_at_call 91; refine ((unhide HS) _ (unhide M0).drew i).mono ?_; rintro e w4 ⟨rfl, hm4⟩; have cL4 := (unhide HL) _ ((unhide M0).drew.trans hm4) i (by omega))
        all_goals go_wp2
        all_goals exact ⟨⟨i + 1, by rw [unhide HE], rfl, by omega, (unhide M0).drew.trans (by assumption)⟩, by simp [intOf]; omega⟩
      · have HE := hide (show leastUp p l i = leastUp p l (i + 1) by rw [unhide HU]; omega)
        clear HU hb hlim
        go_wp2_with fail
        go_region_with (go_at_call 91; refine ((unhide HS) _ (unhide M0).drew i).mono ?_; rintro e w4 ⟨rfl, hm4⟩; have cL4 := (unhide HL) _ ((unhide M0).drew.trans hm4) i (by omega))
        all_goals go_wp2
        all_goals exact ⟨⟨i + 1, by rw [unhide HE], rfl, by omega, (unhide M0).drew.trans (by assumption)⟩, by simp [intOf]; omega⟩
    · have h1i : ¬ (i : Int) ≤ (c : Int) := by omega
      have e : i = c + 1 := by omega
      subst e
      have HE := hide (show M.leftOf p l c = max (leastUp p l (c + 1)) 0 from rfl)
      clear HS HL
      by_cases h0 : leastUp p l (c + 1) < 0
      · have HZ := hide (show max (leastUp p l (c + 1)) 0 = 0 by omega)
        go_wp2
        go_ret
        exact ⟨by rw [unhide HE, unhide HZ]; rfl, unhide M0⟩
      · have HZ := hide (show max (leastUp p l (c + 1)) 0 = leastUp p l (c + 1) by omega)
        go_wp2
        go_ret
        exact ⟨by rw [unhide HE, unhide HZ]; rfl, unhide M0⟩
end Go.Proofs.YthhibagcpjeihaaGreat
/- What is left of the classes, reckoned anew from the counts. -/
namespace Go.Proofs.YthhibagcpjeihaaGreat
open Go.RowKit
open M
set_option linter.unusedVariables false
set_option linter.unusedSimpArgs false
set_option maxRecDepth 100000

theorem idx40_0 (x0 x1 x2 x3 : Value) (w : World) : (Instr.index 37 (.agg #[x0, x1, x2, x3]) (.int .i64 0)).run Tryz.prog w = .ok x0 w := by simp [go_sem, Instr.index]
theorem idx40_1 (x0 x1 x2 x3 : Value) (w : World) : (Instr.index 37 (.agg #[x0, x1, x2, x3]) (.int .i64 1)).run Tryz.prog w = .ok x1 w := by simp [go_sem, Instr.index]
theorem idx40_2 (x0 x1 x2 x3 : Value) (w : World) : (Instr.index 37 (.agg #[x0, x1, x2, x3]) (.int .i64 2)).run Tryz.prog w = .ok x2 w := by simp [go_sem, Instr.index]
theorem idx40_3 (x0 x1 x2 x3 : Value) (w : World) : (Instr.index 37 (.agg #[x0, x1, x2, x3]) (.int .i64 3)).run Tryz.prog w = .ok x3 w := by simp [go_sem, Instr.index]
theorem run_min2 (ty : TypeId) (x y : Int) (w : World) : (Builtin.min_ #[3, 3] ty #[.int .i64 x, .int .i64 y]).run Tryz.prog w = .ok (.int .i64 (min x y)) w := by
  have : (if y < x then y else x) = min x y := by split <;> omega
  simp [Builtin.min_, Builtin.min2, this]
theorem run_max2 (ty : TypeId) (x y : Int) (w : World) : (Builtin.max_ #[3, 3] ty #[.int .i64 x, .int .i64 y]).run Tryz.prog w = .ok (.int .i64 (max x y)) w := by
  have : (if x < y then y else x) = max x y := by split <;> omega
  simp [Builtin.max_, Builtin.max2, this]
attribute [local go_sem] idx40_0 idx40_1 idx40_2 idx40_3
attribute [local go_sem ↓] run_min2 run_max2

/-- A flight's cells. -/
def fcs (r c f l0 l1 l2 l3 : Int) (m : Value) (a0 a1 a2 a3 b0 b1 b2 b3 s0 s1 s2 s3 e0 e1 e2 e3 ep : Int) : Array Value :=
  #[.int .i64 r, .int .i64 c, .int .i64 f, .int .i64 l0, .int .i64 l1, .int .i64 l2, .int .i64 l3, m, .int .i64 a0, .int .i64 a1, .int .i64 a2, .int .i64 a3,
    .int .i64 b0, .int .i64 b1, .int .i64 b2, .int .i64 b3, .int .i64 s0, .int .i64 s1, .int .i64 s2, .int .i64 s3, .int .i64 e0, .int .i64 e1, .int .i64 e2, .int .i64 e3, .int .i64 ep]

theorem reckon_any (b : Nat) (r c f l0 l1 l2 l3 : Int) (m : Value) (a0 a1 a2 a3 b0 b1 b2 b3 s0 s1 s2 s3 e0 e1 e2 e3 ep : Int) (w : World)
    (h : Has w b (fcs r c f l0 l1 l2 l3 m a0 a1 a2 a3 b0 b1 b2 b3 s0 s1 s2 s3 e0 e1 e2 e3 ep) 164)
    (ha : 0 ≤ a0 ∧ a0 ≤ 1000 ∧ 0 ≤ b0 ∧ b0 ≤ 1000) (hs : 0 ≤ s0 ∧ s0 ≤ 1000 ∧ 0 ≤ s1 ∧ s1 ≤ 1000 ∧ 0 ≤ s2 ∧ s2 ≤ 1000 ∧ 0 ≤ s3 ∧ s3 ≤ 1000)
    (hl : 0 ≤ l0 ∧ l0 ≤ 1000 ∧ 0 ≤ l1 ∧ l1 ≤ 1000 ∧ 0 ≤ l2 ∧ l2 ≤ 1000 ∧ 0 ≤ l3 ∧ l3 ≤ 1000) :
    Calls Tryz.prog 135 #[.pointer (some ⟨b, 0, none⟩)] w fun e w' => e = .returned (.tuple #[]) ∧ Mod (fun k => k = b) w w' ∧
      Has w' b (fcs r c f l0 l1 l2 l3 m a0 a1 a2 a3 b0 b1 b2 b3 s0 s1 s2 s3
        (max (min (a0 + b0) (l0 - (s0 + s1 + s2 + s3))) 0) (max (min (min (a0 + b0) (l0 - (s0 + s1 + s2 + s3))) (l1 - (s1 + s2 + s3))) 0)
        (max (min (min (min (a0 + b0) (l0 - (s0 + s1 + s2 + s3))) (l1 - (s1 + s2 + s3))) (l2 - (s2 + s3))) 0)
        (max (min (min (min (min (a0 + b0) (l0 - (s0 + s1 + s2 + s3))) (l1 - (s1 + s2 + s3))) (l2 - (s2 + s3))) (l3 - s3)) 0) ep) 164 := by
  have hc := h.cell
  unfold fcs at hc
  have H := hide h
  clear h
  go_enter Tryz.func135, Tryz.ntmps135
  go_wp2
  go_loopw [2, 13] (fun n i wr => ((i = .int .i64 0 ∧ n = .int .i64 0) ∨ (i = .int .i64 1 ∧ n = .int .i64 s0) ∨ (i = .int .i64 2 ∧ n = .int .i64 (s0 + s1)) ∨ (i = .int .i64 3 ∧ n = .int .i64 (s0 + s1 + s2)) ∨ (i = .int .i64 4 ∧ n = .int .i64 (s0 + s1 + s2 + s3))) ∧ wr = w) (fun _ i _ => 4 - (intOf i).toNat)
  case atStart => exact ⟨.inl ⟨rfl, rfl⟩, rfl⟩
  case round =>
    obtain ⟨hr, hm⟩ := hrel
    subst hm
    rcases hr with ⟨rfl, rfl⟩ | ⟨rfl, rfl⟩ | ⟨rfl, rfl⟩ | ⟨rfl, rfl⟩ | ⟨rfl, rfl⟩
    · go_wp2
      go_roundw
      · exact ⟨.inr (.inl ⟨rfl, rfl⟩), trivial⟩
      · simp [intOf]
    · go_wp2
      go_roundw
      · exact ⟨.inr (.inr (.inl ⟨rfl, rfl⟩)), trivial⟩
      · simp [intOf]
    · go_wp2
      go_roundw
      · exact ⟨.inr (.inr (.inr (.inl ⟨rfl, rfl⟩))), trivial⟩
      · simp [intOf]
    · go_wp2
      go_roundw
      · exact ⟨.inr (.inr (.inr (.inr ⟨rfl, rfl⟩))), trivial⟩
      · simp [intOf]
    · go_wp2
      go_quiet (fail)
      go_wp2
      have HA := hide ha
      have HS := hide hs
      have HL := hide hl
      clear hc
      generalize hT : s0 + s1 + s2 + s3 = T0 at *
      generalize hA : a0 + b0 = A at *
      have HT := hide hT
      have HAA := hide hA
      have bT : 0 ≤ T0 ∧ T0 ≤ 4000 ∧ 0 ≤ A ∧ A ≤ 2000 := by omega
      clear hT hA
      go_loopw [2, 5, 38] (fun n g i wx => ∃ t q x0 x1 x2 x3 : Int, n = .int .i64 t ∧ g = .int .i64 q ∧ 0 ≤ t ∧ t ≤ 4000 ∧ -5000 ≤ q ∧ q ≤ 5000 ∧ Hid (Has wx b (fcs r c f l0 l1 l2 l3 m a0 a1 a2 a3 b0 b1 b2 b3 s0 s1 s2 s3 x0 x1 x2 x3 ep) 164) ∧ Hid (Mod (fun k => k = b) wr wx) ∧
          ((i = .int .i64 0 ∧ Hid (t = T0 ∧ q = A)) ∨ (i = .int .i64 1 ∧ Hid (t = T0 - s0 ∧ q = min A (l0 - T0) ∧ x0 = max (min A (l0 - T0)) 0)) ∨
           (i = .int .i64 2 ∧ Hid (t = T0 - s0 - s1 ∧ q = min (min A (l0 - T0)) (l1 - (T0 - s0)) ∧ x0 = max (min A (l0 - T0)) 0 ∧ x1 = max (min (min A (l0 - T0)) (l1 - (T0 - s0))) 0)) ∨
           (i = .int .i64 3 ∧ Hid (t = T0 - s0 - s1 - s2 ∧ q = min (min (min A (l0 - T0)) (l1 - (T0 - s0))) (l2 - (T0 - s0 - s1)) ∧ x0 = max (min A (l0 - T0)) 0 ∧ x1 = max (min (min A (l0 - T0)) (l1 - (T0 - s0))) 0 ∧ x2 = max (min (min (min A (l0 - T0)) (l1 - (T0 - s0))) (l2 - (T0 - s0 - s1))) 0)) ∨
           (i = .int .i64 4 ∧ Hid (x0 = max (min A (l0 - T0)) 0 ∧ x1 = max (min (min A (l0 - T0)) (l1 - (T0 - s0))) 0 ∧ x2 = max (min (min (min A (l0 - T0)) (l1 - (T0 - s0))) (l2 - (T0 - s0 - s1))) 0 ∧
              x3 = max (min (min (min (min A (l0 - T0)) (l1 - (T0 - s0))) (l2 - (T0 - s0 - s1))) (l3 - (T0 - s0 - s1 - s2))) 0)))) (fun _ _ i _ => 4 - (intOf i).toNat)
      case atStart => exact ⟨T0, A, e0, e1, e2, e3, rfl, rfl, by omega, by omega, by omega, by omega, H, (Mod.refl _ _).drewN _, .inl ⟨rfl, rfl, rfl⟩⟩
      case round =>
        obtain ⟨t, q, x0, x1, x2, x3, rfl, rfl, t0, t1, q0, q1, hh, hm, hr⟩ := hrel
        have hc := (unhide hh).cell
        have hz := (unhide hh).frozen
        unfold fcs at hc
        rcases hr with ⟨rfl, hr⟩ | ⟨rfl, hr⟩ | ⟨rfl, hr⟩ | ⟨rfl, hr⟩ | ⟨rfl, hr⟩
        · go_wp2
          go_roundw
          · obtain ⟨r1, r2⟩ := unhide hr
            have hs' := unhide HS
            have hT' := unhide HT
            have hset := (unhide hh).set 20 (.int .i64 (max (min q (l0 - t)) 0))
            refine ⟨t - s0, min q (l0 - t), max (min q (l0 - t)) 0, x1, x2, x3, rfl, rfl, by omega, by omega, by omega, by omega, hset, (unhide hm).at 20 _, .inr (.inl ⟨rfl, ?_, ?_, ?_⟩)⟩
            · rw [r1]
            · rw [r1, r2]
            · rw [r1, r2]
          · simp [intOf]
        · go_wp2
          go_roundw
          · obtain ⟨r1, r2, r3⟩ := unhide hr
            have hs' := unhide HS
            have hT' := unhide HT
            have hset := (unhide hh).set 21 (.int .i64 (max (min q (l1 - t)) 0))
            refine ⟨t - s1, min q (l1 - t), x0, max (min q (l1 - t)) 0, x2, x3, rfl, rfl, by omega, by omega, by omega, by omega, hset, (unhide hm).at 21 _, .inr (.inr (.inl ⟨rfl, ?_, ?_, r3, ?_⟩))⟩
            · rw [r1]
            · rw [r1, r2]
            · rw [r1, r2]
          · simp [intOf]
        · go_wp2
          go_roundw
          · obtain ⟨r1, r2, r3, r4⟩ := unhide hr
            have hs' := unhide HS
            have hT' := unhide HT
            have hset := (unhide hh).set 22 (.int .i64 (max (min q (l2 - t)) 0))
            refine ⟨t - s2, min q (l2 - t), x0, x1, max (min q (l2 - t)) 0, x3, rfl, rfl, by omega, by omega, by omega, by omega, hset, (unhide hm).at 22 _, .inr (.inr (.inr (.inl ⟨rfl, ?_, ?_, r3, r4, ?_⟩)))⟩
            · rw [r1]
            · rw [r1, r2]
            · rw [r1, r2]
          · simp [intOf]
        · go_wp2
          go_roundw
          · obtain ⟨r1, r2, r3, r4, r5⟩ := unhide hr
            have hs' := unhide HS
            have hT' := unhide HT
            have hset := (unhide hh).set 23 (.int .i64 (max (min q (l3 - t)) 0))
            refine ⟨t - s3, min q (l3 - t), x0, x1, x2, max (min q (l3 - t)) 0, rfl, rfl, by omega, by omega, by omega, by omega, hset, (unhide hm).at 23 _, .inr (.inr (.inr (.inr ⟨rfl, r3, r4, r5, ?_⟩)))⟩
            rw [r1, r2]
          · simp [intOf]
        · go_wp2
          go_end0
          obtain ⟨r0, r1, r2, r3⟩ := unhide hr
          have hT := unhide HT
          have hA := unhide HAA
          have i1 : s1 + s2 + s3 = T0 - s0 := by omega
          have i2 : s2 + s3 = T0 - s0 - s1 := by omega
          have i3 : s3 = T0 - s0 - s1 - s2 := by omega
          refine ⟨rfl, unhide hm, ?_⟩
          rw [hT, hA, i1, i2]
          have hh := unhide hh
          rw [r0, r1, r2, r3, ← i3] at hh
          exact hh
end Go.Proofs.YthhibagcpjeihaaGreat
/- A seat is written: the map, the counts, what is left. -/
namespace Go.Proofs.YthhibagcpjeihaaGreat
open Go.RowKit
open Go.ChangeMaps (setBlock)
open M
set_option linter.unusedVariables false
set_option linter.unusedSimpArgs false
set_option maxRecDepth 100000

def upd (a : Nat → Int) (n : Nat) (v : Int) : Nat → Int := fun j => if j = n then v else a j
/-- A flight's cells, by functions of the state and of the class. -/
def fcf (p : Pla) (m : Value) (a b s e : Nat → Int) : Array Value :=
  fcs p.rows p.cols p.front p.l0 p.l1 p.l2 p.l3 m (a 0) (a 1) (a 2) (a 3) (b 0) (b 1) (b 2) (b 3) (s 0) (s 1) (s 2) (s 3) (e 0) (e 1) (e 2) (e 3) p.ep
def bumpS (n k : Nat) (t : Int) (s : Nat → Int) : Nat → Int := if n = 1 ∨ n = 2 then upd s k (s k + t) else s

theorem fcf_a (p : Pla) (m : Value) (a b s e : Nat → Int) (n : Nat) (hn : n < 4) (v : Int) : (fcf p m a b s e).setIfInBounds (8 + n) (.int .i64 v) = fcf p m (upd a n v) b s e := by
  match n, hn with
  | 0, _ => rfl
  | 1, _ => rfl
  | 2, _ => rfl
  | 3, _ => rfl
theorem fcf_b (p : Pla) (m : Value) (a b s e : Nat → Int) (n : Nat) (hn : n < 4) (v : Int) : (fcf p m a b s e).setIfInBounds (12 + n) (.int .i64 v) = fcf p m a (upd b n v) s e := by
  match n, hn with
  | 0, _ => rfl
  | 1, _ => rfl
  | 2, _ => rfl
  | 3, _ => rfl
theorem fcf_s (p : Pla) (m : Value) (a b s e : Nat → Int) (n : Nat) (hn : n < 4) (v : Int) : (fcf p m a b s e).setIfInBounds (16 + n) (.int .i64 v) = fcf p m a b (upd s n v) e := by
  match n, hn with
  | 0, _ => rfl
  | 1, _ => rfl
  | 2, _ => rfl
  | 3, _ => rfl
theorem fcf_at (p : Pla) (m : Value) (a b s e : Nat → Int) (n : Nat) (hn : n < 4) : (fcf p m a b s e)[8 + n]? = some (.int .i64 (a n)) ∧ (fcf p m a b s e)[12 + n]? = some (.int .i64 (b n)) ∧ (fcf p m a b s e)[16 + n]? = some (.int .i64 (s n)) := by
  match n, hn with
  | 0, _ => exact ⟨rfl, rfl, rfl⟩
  | 1, _ => exact ⟨rfl, rfl, rfl⟩
  | 2, _ => exact ⟨rfl, rfl, rfl⟩
  | 3, _ => exact ⟨rfl, rfl, rfl⟩

/-- The bounds of all counts. -/
def Small (a : Nat → Int) : Prop := ∀ j, j < 4 → -100000 ≤ a j ∧ a j ≤ 100000

theorem tally_any (b n k : Nat) (p : Pla) (m : Value) (fa fb fs fe : Nat → Int) (row col pa un times : Int) (w : World) (h : Has w b (fcf p m fa fb fs fe) 164)
    (hn : n < 4) (hk : k < 4) (ha : Small fa) (hb : Small fb) (hs : Small fs) (bt : -1 ≤ times ∧ times ≤ 1) :
    Calls Tryz.prog 134 #[.pointer (some ⟨b, 0, none⟩), .agg #[.int .i64 row, .int .i64 col], .agg #[.int .i64 n, .int .i64 pa, .int .i64 k, .int .i64 un], .int .i64 times] w fun e w' =>
      e = .returned (.tuple #[]) ∧ Mod (fun k => k = b) w w' ∧
        Has w' b (fcf p m (if row ≤ p.front then upd fa n (fa n + times) else fa) (if row ≤ p.front then fb else upd fb n (fb n + times)) (bumpS n k times fs) fe) 164 := by
  obtain ⟨ga, gb, gs⟩ := fcf_at p m fa fb fs fe n hn
  have gk := (fcf_at p m fa fb fs fe k hk).2.2
  by_cases hr : row ≤ p.front
  · refine (tally_core b n k 8 _ row col pa un p.front (fa n) (fs k) times w h rfl (.inl ⟨hr, rfl⟩) hn hk ga gk (ha n hn) (hs k hk) bt).mono ?_
    rintro e w' ⟨rfl, hm, hh⟩
    refine ⟨rfl, hm, ?_⟩
    rw [if_pos hr, if_pos hr]
    unfold tallied at hh
    unfold bumpS
    split at hh
    · rename_i h1
      rw [fcf_a _ _ _ _ _ _ _ hn, fcf_s _ _ _ _ _ _ _ hk] at hh
      rw [if_pos h1]
      exact hh
    · rename_i h1
      rw [fcf_a _ _ _ _ _ _ _ hn] at hh
      rw [if_neg h1]
      exact hh
  · refine (tally_core b n k 12 _ row col pa un p.front (fb n) (fs k) times w h rfl (.inr ⟨hr, rfl⟩) hn hk gb gk (hb n hn) (hs k hk) bt).mono ?_
    rintro e w' ⟨rfl, hm, hh⟩
    refine ⟨rfl, hm, ?_⟩
    rw [if_neg hr, if_neg hr]
    unfold tallied at hh
    unfold bumpS
    split at hh
    · rename_i h1
      rw [fcf_b _ _ _ _ _ _ _ hn, fcf_s _ _ _ _ _ _ _ hk] at hh
      rw [if_pos h1]
      exact hh
    · rename_i h1
      rw [fcf_b _ _ _ _ _ _ _ hn] at hh
      rw [if_neg h1]
      exact hh

/-- The counts of a list of seats. -/
def cA (p : Pla) (l : List Sea) : Nat → Int := fun j => nAt p true j l
def cB (p : Pla) (l : List Sea) : Nat → Int := fun j => nAt p false j l
def cS (l : List Sea) : Nat → Int := fun j => nSold j l
def cE (p : Pla) (l : List Sea) : Nat → Int := fun j => M.leftOf p l j
def fcells (p : Pla) (m : Value) (l : List Sea) : Array Value := fcf p m (cA p l) (cB p l) (cS l) (cE p l)

/-- The entries are those of the seats that are not free. -/
structure MapRel (es : List MEnt) (p : Pla) (l : List Sea) : Prop where
  ent : ∀ e ∈ es, p.has e.r e.c = true ∧ e.s ≠ 0
  seat : ∀ i (h : i < l.length), lookE es l[i].row l[i].col = (l[i].st, l[i].pa, l[i].cl, l[i].un)
  size : es.length = l.countP fun s => s.st != 0

/-- A flight in memory. -/
def FlH (w : World) (S : Nat → Prop) (b : Nat) (p : Pla) (l : List Sea) : Prop :=
  ∃ m es clock, Has w b (fcells p (.map (some m)) l) 164 ∧ w.heap[m]? = some (mapObj es clock) ∧ MapOk es clock ∧ MapRel es p l ∧ S b ∧ S m

theorem Mod.map {S : Nat → Prop} {w w' : World} (h : Mod S w w') {m : Nat} {es : List MEnt} {clock : Nat} (hm : w.heap[m]? = some (mapObj es clock)) (hs : ¬ S m) : w'.heap[m]? = some (mapObj es clock) := by
  rw [h.block m (Array.getElem?_eq_some_iff.1 hm).1 hs]; exact hm
theorem FlH.mod {w w' : World} {S S' : Nat → Prop} {b : Nat} {p : Pla} {l : List Sea} (h : FlH w S b p l) (hm : Mod S' w w') (hs : ∀ k, S k → ¬ S' k) : FlH w' S b p l := by
  obtain ⟨m, es, clock, h1, h2, h3, h4, h5, h6⟩ := h
  exact ⟨m, es, clock, hm.has h1 (hs b h5), hm.map h2 (hs m h6), h3, h4, h5, h6⟩
theorem FlH.mod0 {w w' : World} {S : Nat → Prop} {b : Nat} {p : Pla} {l : List Sea} (h : FlH w S b p l) (hm : Mod No w w') : FlH w' S b p l := h.mod hm (fun _ _ x => x)

theorem small_count (l : List Sea) (hl : l.length ≤ 1000) (q : Sea → Bool) : 0 ≤ ((l.countP q : Nat) : Int) ∧ ((l.countP q : Nat) : Int) ≤ 1000 := by
  have := List.countP_le_length (p := q) (l := l)
  omega

theorem Has.map_ne {w : World} {b m : Nat} {cs : Array Value} {T : TypeId} {es : List MEnt} {clock : Nat} (h : Has w b cs T) (hm : w.heap[m]? = some (mapObj es clock)) : m ≠ b := by
  rintro rfl
  unfold Has at h
  rw [h] at hm
  simp [mapObj] at hm

theorem setBlock_has {w : World} {b m : Nat} {cs : Array Value} {T : TypeId} (h : Has w b cs T) (hne : m ≠ b) (o : Obj) : Has (setBlock w m o) b cs T := by
  unfold Has at h ⊢
  simp [setBlock, Array.getElem?_setIfInBounds, hne, h]
theorem setBlock_at {w : World} {m : Nat} (h : m < w.heap.size) (o' : Obj) : (setBlock w m o').heap[m]? = some o' := by
  simp [setBlock, Array.getElem?_setIfInBounds, h]
theorem Mod.setBlock {S : Nat → Prop} {a w : World} (h : Mod S a w) {m : Nat} (hm : S m ∨ a.heap.size ≤ m) (o : Obj) : Mod S a (setBlock w m o) := by
  refine h.trans' (S' := fun k => k = m) ⟨rfl, rfl, rfl, by simp [ChangeMaps.setBlock], fun k hk hne => ?_⟩ (fun i hi hl => by subst hi; rcases hm with h | h; exact h; omega)
  simp [ChangeMaps.setBlock, Array.getElem?_setIfInBounds]
  intro e
  exact absurd e.symm hne

set_option maxHeartbeats 4000000 in
theorem put_walk (b m n k n' k' : Nat) (p : Pla) (fa fb fs fe fa1 fb1 fs1 fa2 fb2 fs2 fe2 : Nat → Int) (r c pa un pa' un' : Int) (w : World) (es es' : List MEnt) (clock clock' : Nat) (h : Has w b (fcf p (.map (some m)) fa fb fs fe) 164)
    (hmap : w.heap[m]? = some (mapObj es clock))
    (hL : ∀ W : World, W.heap[m]? = some (mapObj es clock) → (Instr.lookup 162 (.map (some m)) (.agg #[.int .i64 r, .int .i64 c]) false).run Tryz.prog W = .ok (.agg #[.int .i64 n, .int .i64 pa, .int .i64 k, .int .i64 un]) W)
    (hD : n' = 0 → ∀ (W : World) ty, W.heap[m]? = some (mapObj es clock) → (Builtin.delete_ #[162, 36] ty #[.map (some m), .agg #[.int .i64 r, .int .i64 c]]).run Tryz.prog W = .ok (.tuple #[]) (setBlock W m (mapObj es' clock')))
    (hU : n' ≠ 0 → ∀ W : World, W.heap[m]? = some (mapObj es clock) → (Instr.mapUpdate 162 (.map (some m)) (.agg #[.int .i64 r, .int .i64 c]) (.agg #[.int .i64 n', .int .i64 pa', .int .i64 k', .int .i64 un'])).run Tryz.prog W = .ok () (setBlock W m (mapObj es' clock')))
    (hT1 : ∀ W, Has W b (fcf p (.map (some m)) fa fb fs fe) 164 → Calls Tryz.prog 134 #[.pointer (some ⟨b, 0, none⟩), .agg #[.int .i64 r, .int .i64 c], .agg #[.int .i64 n, .int .i64 pa, .int .i64 k, .int .i64 un], .int .i64 (-1)] W fun e w' => e = .returned (.tuple #[]) ∧ Mod (fun k => k = b) W w' ∧ Has w' b (fcf p (.map (some m)) fa1 fb1 fs1 fe) 164)
    (hT2 : ∀ W, Has W b (fcf p (.map (some m)) fa1 fb1 fs1 fe) 164 → Calls Tryz.prog 134 #[.pointer (some ⟨b, 0, none⟩), .agg #[.int .i64 r, .int .i64 c], .agg #[.int .i64 n', .int .i64 pa', .int .i64 k', .int .i64 un'], .int .i64 1] W fun e w' => e = .returned (.tuple #[]) ∧ Mod (fun k => k = b) W w' ∧ Has w' b (fcf p (.map (some m)) fa2 fb2 fs2 fe) 164)
    (hR : ∀ W, Has W b (fcf p (.map (some m)) fa2 fb2 fs2 fe) 164 → Calls Tryz.prog 135 #[.pointer (some ⟨b, 0, none⟩)] W fun e w' => e = .returned (.tuple #[]) ∧ Mod (fun k => k = b) W w' ∧ Has w' b (fcf p (.map (some m)) fa2 fb2 fs2 fe2) 164) :
    Calls Tryz.prog 118 #[.pointer (some ⟨b, 0, none⟩), .agg #[.int .i64 r, .int .i64 c], .agg #[.int .i64 n', .int .i64 pa', .int .i64 k', .int .i64 un']] w fun e w' =>
      e = .returned (.tuple #[]) ∧ Mod (fun k => k = b ∨ k = m) w w' ∧ Has w' b (fcf p (.map (some m)) fa2 fb2 fs2 fe2) 164 ∧ w'.heap[m]? = some (mapObj es' clock') := by
  have hmb := h.map_ne hmap
  have hlt := h.lt
  have c7 := h.cell 7
  rw [show (fcf p (.map (some m)) fa fb fs fe)[7]? = some (.map (some m)) from rfl] at c7
  have hL' := hL (((w.alloc (.cells #[.int .i64 r, .int .i64 c] 36)).alloc (.cells #[.int .i64 n', .int .i64 pa', .int .i64 k', .int .i64 un'] 199))).drew (by
    have := Mod.map (Mod.refl No w |>.alloc (.cells #[.int .i64 r, .int .i64 c] 36) |>.alloc (.cells #[.int .i64 n', .int .i64 pa', .int .i64 k', .int .i64 un'] 199) |>.drew) hmap (fun x => x)
    exact this)
  have H := hide h
  have HM := hide hmap
  have HD := hide hD
  have HU := hide hU
  have HT1 := hide hT1
  have HT2 := hide hT2
  have HR := hide hR
  have HMB := hide hmb
  clear h hmap hL hD hU hT1 hT2 hR hmb
  go_enter Tryz.func118, Tryz.ntmps118
  go_wp2_with fail
  go_cut [] (fun wx => Hid (Has wx b (fcf p (.map (some m)) fa1 fb1 fs1 fe) 164) ∧ Hid (Mod (fun k => k = b) ((w.alloc (.cells #[.int .i64 r, .int .i64 c] 36)).alloc (.cells #[.int .i64 n', .int .i64 pa', .int .i64 k', .int .i64 un'] 199)) wx))
  case first =>
    go_region_with (go_at_call 134; refine ((unhide HT1) _ ?_).mono ?_; exact (((unhide H).alloc _).alloc _).drew; rintro e w3 ⟨rfl, hm3, hh3⟩)
    all_goals go_wp2
    all_goals go_meet
    all_goals exact ⟨hh3, (Mod.refl _ _).drew.trans hm3⟩
  case rest =>
    obtain ⟨h3, m3⟩ := hcut
    have hmap := unhide HM
    have hmb := unhide HMB
    have hml := (Array.getElem?_eq_some_iff.1 hmap).1
    have mw : Mod No w ((w.alloc (.cells #[.int .i64 r, .int .i64 c] 36)).alloc (.cells #[.int .i64 n', .int .i64 pa', .int .i64 k', .int .i64 un'] 199)) := ((Mod.refl _ w).alloc _).alloc _
    have B1 : Has ((w.alloc (.cells #[.int .i64 r, .int .i64 c] 36)).alloc (.cells #[.int .i64 n', .int .i64 pa', .int .i64 k', .int .i64 un'] 199)) w.heap.size #[.int .i64 r, .int .i64 c] 36 := (Has.new w _ _).alloc _
    have B2 : Has ((w.alloc (.cells #[.int .i64 r, .int .i64 c] 36)).alloc (.cells #[.int .i64 n', .int .i64 pa', .int .i64 k', .int .i64 un'] 199)) (w.heap.size + 1) #[.int .i64 n', .int .i64 pa', .int .i64 k', .int .i64 un'] 199 := by
      have := Has.new (w.alloc (.cells #[.int .i64 r, .int .i64 c] 36)) #[.int .i64 n', .int .i64 pa', .int .i64 k', .int .i64 un'] 199
      rwa [World.size_alloc] at this
    have nb1 : ∀ k, k = b → k ≠ w.heap.size ∧ k ≠ w.heap.size + 1 := fun k hk => by omega
    have b1 := (unhide m3).has B1 (fun e => by have := (nb1 _ e).1; omega)
    have b2 := (unhide m3).has B2 (fun e => by have := (nb1 _ e).2; omega)
    have hm3 := (unhide m3).map (mw.map hmap (fun x => x)) (fun e => hmb e)
    have M0 : Mod (fun k => k = b) w wc := (mw.mono (fun _ _ x => x.elim)).trans (unhide m3)
    generalize hg1 : w.heap.size = g1 at *
    generalize hg2 : g1 + 1 = g2 at *
    have c1 := b1.cell
    have c2 := b2.cell
    have MW := hide M0
    have BB1 := hide b1
    have BB2 := hide b2
    have HM3 := hide hm3
    have NB := hide nb1
    have HG1 := hide hg1
    have HG2 := hide hg2
    clear B1 B2 b1 b2 mw hm3 hmap hmb nb1 M0 m3 hg1 hg2 c7 hL' hlt
    go_wp2_with fail
    refine ((unhide HT2) _ (unhide h3)).mono ?_
    rintro e w4 ⟨rfl, m4, h4⟩
    have b1 := m4.has (unhide BB1) (fun e => by have := ((unhide NB) _ e).1; omega)
    have b2 := m4.has (unhide BB2) (fun e => by have := ((unhide NB) _ e).2; omega)
    have hm4 := m4.map (unhide HM3) (fun e => (unhide HMB) e)
    have MW4 := hide ((unhide MW).trans m4)
    have H4 := hide h4
    have HM4 := hide hm4
    have hml4 := (Array.getElem?_eq_some_iff.1 hm4).1
    have c7 := h4.cell 7
    rw [show (fcf p (.map (some m)) fa2 fb2 fs2 fe)[7]? = some (.map (some m)) from rfl] at c7
    clear c1 c2
    have c1 := b1.cell
    have c2 := b2.cell
    clear h4 b1 b2 m4 hm4 MW BB1 BB2 HM3 h3
    by_cases hn0 : n' = 0
    · subst hn0
      have hD := (unhide HD) rfl w4.drew
      have HDD := fun ty => hD ty (unhide HM4)
      clear hD
      rw [show (((0 : Nat) : Int)) = 0 from rfl] at *
      go_wp2_with fail
      go_region
      all_goals
        go_wp2_with fail
        refine ((unhide HR) _ ?_).mono ?_
        · exact setBlock_has (Has.drew (unhide H4)) (unhide HMB) _
        rintro e w5 ⟨rfl, m5, h5⟩
        go_wp2
        go_end0
        have ml : m < w4.drew.heap.size := hml4
        refine ⟨rfl, (((unhide MW4).drew.mono (fun _ _ x => .inl x)).setBlock (.inl (.inr rfl)) _).trans (m5.mono (fun _ _ x => .inl x)), h5, m5.map (setBlock_at ml _) (fun e => (unhide HMB) e)⟩
    · have hn0' : ((n' : Int) == 0) = false := by simp; omega
      have hU := (unhide HU) hn0 w4.drew (unhide HM4)
      have HN0 := hide hn0
      clear hn0
      go_wp2_with fail
      go_region
      all_goals
        go_wp2_with fail
        refine ((unhide HR) _ ?_).mono ?_
        · exact setBlock_has (Has.drew (unhide H4)) (unhide HMB) _
        rintro e w5 ⟨rfl, m5, h5⟩
        go_wp2
        go_end0
        have ml : m < w4.drew.heap.size := hml4
        refine ⟨rfl, (((unhide MW4).drew.mono (fun _ _ x => .inl x)).setBlock (.inl (.inr rfl)) _).trans (m5.mono (fun _ _ x => .inl x)), h5, m5.map (setBlock_at ml _) (fun e => (unhide HMB) e)⟩
end Go.Proofs.YthhibagcpjeihaaGreat
