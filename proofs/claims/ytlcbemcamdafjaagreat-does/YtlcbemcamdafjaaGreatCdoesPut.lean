import Derived.Test.YtlcbemcamdafjaaGreatCdoesRef3Reckon
import Derived.Deep.DeepCutAuto
/- A seat is written: the map, the counts, what is left. -/
namespace Go.Proofs.YtlcbemcamdafjaaGreat
open Go.RowKit
open Go.ChangeMaps (setBlock)
open M
set_option linter.unusedVariables false
set_option linter.unusedSimpArgs false
set_option maxRecDepth 100000

def upd (a : Nat → Int) (n : Nat) (v : Int) : Nat → Int := fun j => if j = n then v else a j
/-- A flight's cells, by functions of the state and of the class. -/
def fcf (p : Pla) (m : Value) (a b s e : Nat → Int) : Array Value :=
  fcs p.rows p.cols p.front p.l0 p.l1 p.l2 p.l3 m (a 0) (a 1) (a 2) (a 3) (b 0) (b 1) (b 2) (b 3) (s 0) (s 1) (s 2) (s 3) (e 0) (e 1) (e 2) (e 3) p.ep
def bumpS (n k : Nat) (t : Int) (s : Nat → Int) : Nat → Int := if n = 1 ∨ n = 2 then upd s k (s k + t) else s

theorem fcf_a (p : Pla) (m : Value) (a b s e : Nat → Int) (n : Nat) (hn : n < 4) (v : Int) : (fcf p m a b s e).setIfInBounds (8 + n) (.int .i64 v) = fcf p m (upd a n v) b s e := by
  match n, hn with
  | 0, _ => rfl
  | 1, _ => rfl
  | 2, _ => rfl
  | 3, _ => rfl
theorem fcf_b (p : Pla) (m : Value) (a b s e : Nat → Int) (n : Nat) (hn : n < 4) (v : Int) : (fcf p m a b s e).setIfInBounds (12 + n) (.int .i64 v) = fcf p m a (upd b n v) s e := by
  match n, hn with
  | 0, _ => rfl
  | 1, _ => rfl
  | 2, _ => rfl
  | 3, _ => rfl
theorem fcf_s (p : Pla) (m : Value) (a b s e : Nat → Int) (n : Nat) (hn : n < 4) (v : Int) : (fcf p m a b s e).setIfInBounds (16 + n) (.int .i64 v) = fcf p m a b (upd s n v) e := by
  match n, hn with
  | 0, _ => rfl
  | 1, _ => rfl
  | 2, _ => rfl
  | 3, _ => rfl
theorem fcf_at (p : Pla) (m : Value) (a b s e : Nat → Int) (n : Nat) (hn : n < 4) : (fcf p m a b s e)[8 + n]? = some (.int .i64 (a n)) ∧ (fcf p m a b s e)[12 + n]? = some (.int .i64 (b n)) ∧ (fcf p m a b s e)[16 + n]? = some (.int .i64 (s n)) := by
  match n, hn with
  | 0, _ => exact ⟨rfl, rfl, rfl⟩
  | 1, _ => exact ⟨rfl, rfl, rfl⟩
  | 2, _ => exact ⟨rfl, rfl, rfl⟩
  | 3, _ => exact ⟨rfl, rfl, rfl⟩

/-- The bounds of all counts. -/
def Small (a : Nat → Int) : Prop := ∀ j, j < 4 → -100000 ≤ a j ∧ a j ≤ 100000

theorem tally_any (b n k : Nat) (p : Pla) (m : Value) (fa fb fs fe : Nat → Int) (row col pa un times : Int) (w : World) (h : Has w b (fcf p m fa fb fs fe) 154)
    (hn : n < 4) (hk : k < 4) (ha : Small fa) (hb : Small fb) (hs : Small fs) (bt : -1 ≤ times ∧ times ≤ 1) :
    Calls Tryz.prog 104 #[.pointer (some ⟨b, 0, none⟩), .agg #[.int .i64 row, .int .i64 col], .agg #[.int .i64 n, .int .i64 pa, .int .i64 k, .int .i64 un], .int .i64 times] w fun e w' =>
      e = .returned (.tuple #[]) ∧ Mod (fun k => k = b) w w' ∧
        Has w' b (fcf p m (if row ≤ p.front then upd fa n (fa n + times) else fa) (if row ≤ p.front then fb else upd fb n (fb n + times)) (bumpS n k times fs) fe) 154 := by
  obtain ⟨ga, gb, gs⟩ := fcf_at p m fa fb fs fe n hn
  have gk := (fcf_at p m fa fb fs fe k hk).2.2
  by_cases hr : row ≤ p.front
  · refine (tally_core b n k 8 _ row col pa un p.front (fa n) (fs k) times w h rfl (.inl ⟨hr, rfl⟩) hn hk ga gk (ha n hn) (hs k hk) bt).mono ?_
    rintro e w' ⟨rfl, hm, hh⟩
    refine ⟨rfl, hm, ?_⟩
    rw [if_pos hr, if_pos hr]
    unfold tallied at hh
    unfold bumpS
    split at hh
    · rename_i h1
      rw [fcf_a _ _ _ _ _ _ _ hn, fcf_s _ _ _ _ _ _ _ hk] at hh
      rw [if_pos h1]
      exact hh
    · rename_i h1
      rw [fcf_a _ _ _ _ _ _ _ hn] at hh
      rw [if_neg h1]
      exact hh
  · refine (tally_core b n k 12 _ row col pa un p.front (fb n) (fs k) times w h rfl (.inr ⟨hr, rfl⟩) hn hk gb gk (hb n hn) (hs k hk) bt).mono ?_
    rintro e w' ⟨rfl, hm, hh⟩
    refine ⟨rfl, hm, ?_⟩
    rw [if_neg hr, if_neg hr]
    unfold tallied at hh
    unfold bumpS
    split at hh
    · rename_i h1
      rw [fcf_b _ _ _ _ _ _ _ hn, fcf_s _ _ _ _ _ _ _ hk] at hh
      rw [if_pos h1]
      exact hh
    · rename_i h1
      rw [fcf_b _ _ _ _ _ _ _ hn] at hh
      rw [if_neg h1]
      exact hh

/-- The counts of a list of seats. -/
def cA (p : Pla) (l : List Sea) : Nat → Int := fun j => nAt p true j l
def cB (p : Pla) (l : List Sea) : Nat → Int := fun j => nAt p false j l
def cS (l : List Sea) : Nat → Int := fun j => nSold j l
def cE (p : Pla) (l : List Sea) : Nat → Int := fun j => M.leftOf p l j
def fcells (p : Pla) (m : Value) (l : List Sea) : Array Value := fcf p m (cA p l) (cB p l) (cS l) (cE p l)

/-- The entries are those of the seats that are not free. -/
structure MapRel (es : List MEnt) (p : Pla) (l : List Sea) : Prop where
  ent : ∀ e ∈ es, p.has e.r e.c = true ∧ e.s ≠ 0
  seat : ∀ i (h : i < l.length), lookE es l[i].row l[i].col = (l[i].st, l[i].pa, l[i].cl, l[i].un)
  size : es.length = l.countP fun s => s.st != 0

/-- A flight in memory. -/
def FlH (w : World) (S : Nat → Prop) (b : Nat) (p : Pla) (l : List Sea) : Prop :=
  ∃ m es clock, Has w b (fcells p (.map (some m)) l) 154 ∧ w.heap[m]? = some (mapObj es clock) ∧ MapOk es clock ∧ MapRel es p l ∧ S b ∧ S m

theorem Mod.map {S : Nat → Prop} {w w' : World} (h : Mod S w w') {m : Nat} {es : List MEnt} {clock : Nat} (hm : w.heap[m]? = some (mapObj es clock)) (hs : ¬ S m) : w'.heap[m]? = some (mapObj es clock) := by
  rw [h.block m (Array.getElem?_eq_some_iff.1 hm).1 hs]; exact hm
theorem FlH.mod {w w' : World} {S S' : Nat → Prop} {b : Nat} {p : Pla} {l : List Sea} (h : FlH w S b p l) (hm : Mod S' w w') (hs : ∀ k, S k → ¬ S' k) : FlH w' S b p l := by
  obtain ⟨m, es, clock, h1, h2, h3, h4, h5, h6⟩ := h
  exact ⟨m, es, clock, hm.has h1 (hs b h5), hm.map h2 (hs m h6), h3, h4, h5, h6⟩
theorem FlH.mod0 {w w' : World} {S : Nat → Prop} {b : Nat} {p : Pla} {l : List Sea} (h : FlH w S b p l) (hm : Mod No w w') : FlH w' S b p l := h.mod hm (fun _ _ x => x)

theorem small_count (l : List Sea) (hl : l.length ≤ 1000) (q : Sea → Bool) : 0 ≤ ((l.countP q : Nat) : Int) ∧ ((l.countP q : Nat) : Int) ≤ 1000 := by
  have := List.countP_le_length (p := q) (l := l)
  omega

theorem Has.map_ne {w : World} {b m : Nat} {cs : Array Value} {T : TypeId} {es : List MEnt} {clock : Nat} (h : Has w b cs T) (hm : w.heap[m]? = some (mapObj es clock)) : m ≠ b := by
  rintro rfl
  unfold Has at h
  rw [h] at hm
  simp [mapObj] at hm

theorem setBlock_has {w : World} {b m : Nat} {cs : Array Value} {T : TypeId} (h : Has w b cs T) (hne : m ≠ b) (o : Obj) : Has (setBlock w m o) b cs T := by
  unfold Has at h ⊢
  simp [setBlock, Array.getElem?_setIfInBounds, hne, h]
theorem setBlock_at {w : World} {m : Nat} (h : m < w.heap.size) (o' : Obj) : (setBlock w m o').heap[m]? = some o' := by
  simp [setBlock, Array.getElem?_setIfInBounds, h]
theorem Mod.setBlock {S : Nat → Prop} {a w : World} (h : Mod S a w) {m : Nat} (hm : S m ∨ a.heap.size ≤ m) (o : Obj) : Mod S a (setBlock w m o) := by
  refine h.trans' (S' := fun k => k = m) ⟨rfl, rfl, rfl, by simp [ChangeMaps.setBlock], fun k hk hne => ?_⟩ (fun i hi hl => by subst hi; rcases hm with h | h; exact h; omega)
  simp [ChangeMaps.setBlock, Array.getElem?_setIfInBounds]
  intro e
  exact absurd e.symm hne

set_option maxHeartbeats 4000000 in
theorem put_walk (b m n k n' k' : Nat) (p : Pla) (fa fb fs fe fa1 fb1 fs1 fa2 fb2 fs2 fe2 : Nat → Int) (r c pa un pa' un' : Int) (w : World) (es es' : List MEnt) (clock clock' : Nat) (h : Has w b (fcf p (.map (some m)) fa fb fs fe) 154)
    (hmap : w.heap[m]? = some (mapObj es clock))
    (hL : ∀ W : World, W.heap[m]? = some (mapObj es clock) → (Instr.lookup 152 (.map (some m)) (.agg #[.int .i64 r, .int .i64 c]) false).run Tryz.prog W = .ok (.agg #[.int .i64 n, .int .i64 pa, .int .i64 k, .int .i64 un]) W)
    (hD : n' = 0 → ∀ (W : World) ty, W.heap[m]? = some (mapObj es clock) → (Builtin.delete_ #[152, 36] ty #[.map (some m), .agg #[.int .i64 r, .int .i64 c]]).run Tryz.prog W = .ok (.tuple #[]) (setBlock W m (mapObj es' clock')))
    (hU : n' ≠ 0 → ∀ W : World, W.heap[m]? = some (mapObj es clock) → (Instr.mapUpdate 152 (.map (some m)) (.agg #[.int .i64 r, .int .i64 c]) (.agg #[.int .i64 n', .int .i64 pa', .int .i64 k', .int .i64 un'])).run Tryz.prog W = .ok () (setBlock W m (mapObj es' clock')))
    (hT1 : ∀ W, Has W b (fcf p (.map (some m)) fa fb fs fe) 154 → Calls Tryz.prog 104 #[.pointer (some ⟨b, 0, none⟩), .agg #[.int .i64 r, .int .i64 c], .agg #[.int .i64 n, .int .i64 pa, .int .i64 k, .int .i64 un], .int .i64 (-1)] W fun e w' => e = .returned (.tuple #[]) ∧ Mod (fun k => k = b) W w' ∧ Has w' b (fcf p (.map (some m)) fa1 fb1 fs1 fe) 154)
    (hT2 : ∀ W, Has W b (fcf p (.map (some m)) fa1 fb1 fs1 fe) 154 → Calls Tryz.prog 104 #[.pointer (some ⟨b, 0, none⟩), .agg #[.int .i64 r, .int .i64 c], .agg #[.int .i64 n', .int .i64 pa', .int .i64 k', .int .i64 un'], .int .i64 1] W fun e w' => e = .returned (.tuple #[]) ∧ Mod (fun k => k = b) W w' ∧ Has w' b (fcf p (.map (some m)) fa2 fb2 fs2 fe) 154)
    (hR : ∀ W, Has W b (fcf p (.map (some m)) fa2 fb2 fs2 fe) 154 → Calls Tryz.prog 105 #[.pointer (some ⟨b, 0, none⟩)] W fun e w' => e = .returned (.tuple #[]) ∧ Mod (fun k => k = b) W w' ∧ Has w' b (fcf p (.map (some m)) fa2 fb2 fs2 fe2) 154) :
    Calls Tryz.prog 101 #[.pointer (some ⟨b, 0, none⟩), .agg #[.int .i64 r, .int .i64 c], .agg #[.int .i64 n', .int .i64 pa', .int .i64 k', .int .i64 un']] w fun e w' =>
      e = .returned (.tuple #[]) ∧ Mod (fun k => k = b ∨ k = m) w w' ∧ Has w' b (fcf p (.map (some m)) fa2 fb2 fs2 fe2) 154 ∧ w'.heap[m]? = some (mapObj es' clock') := by
  have hmb := h.map_ne hmap
  have hlt := h.lt
  have c7 := h.cell 7
  rw [show (fcf p (.map (some m)) fa fb fs fe)[7]? = some (.map (some m)) from rfl] at c7
  have hL' := hL (((w.alloc (.cells #[.int .i64 r, .int .i64 c] 36)).alloc (.cells #[.int .i64 n', .int .i64 pa', .int .i64 k', .int .i64 un'] 179))).drew (by
    have := Mod.map (Mod.refl No w |>.alloc (.cells #[.int .i64 r, .int .i64 c] 36) |>.alloc (.cells #[.int .i64 n', .int .i64 pa', .int .i64 k', .int .i64 un'] 179) |>.drew) hmap (fun x => x)
    exact this)
  have H := hide h
  have HM := hide hmap
  have HD := hide hD
  have HU := hide hU
  have HT1 := hide hT1
  have HT2 := hide hT2
  have HR := hide hR
  have HMB := hide hmb
  clear h hmap hL hD hU hT1 hT2 hR hmb
  go_enter Tryz.func101, Tryz.ntmps101
  go_wp2_with fail
  go_cut [] (fun wx => Hid (Has wx b (fcf p (.map (some m)) fa1 fb1 fs1 fe) 154) ∧ Hid (Mod (fun k => k = b) ((w.alloc (.cells #[.int .i64 r, .int .i64 c] 36)).alloc (.cells #[.int .i64 n', .int .i64 pa', .int .i64 k', .int .i64 un'] 179)) wx))
  case first =>
    go_region_with (go_at_call 104; refine ((unhide HT1) _ ?_).mono ?_; exact (((unhide H).alloc _).alloc _).drew; rintro e w3 ⟨rfl, hm3, hh3⟩)
    all_goals go_wp2
    all_goals go_meet
    all_goals exact ⟨hh3, (Mod.refl _ _).drew.trans hm3⟩
  case rest =>
    obtain ⟨h3, m3⟩ := hcut
    have hmap := unhide HM
    have hmb := unhide HMB
    have hml := (Array.getElem?_eq_some_iff.1 hmap).1
    have mw : Mod No w ((w.alloc (.cells #[.int .i64 r, .int .i64 c] 36)).alloc (.cells #[.int .i64 n', .int .i64 pa', .int .i64 k', .int .i64 un'] 179)) := ((Mod.refl _ w).alloc _).alloc _
    have B1 : Has ((w.alloc (.cells #[.int .i64 r, .int .i64 c] 36)).alloc (.cells #[.int .i64 n', .int .i64 pa', .int .i64 k', .int .i64 un'] 179)) w.heap.size #[.int .i64 r, .int .i64 c] 36 := (Has.new w _ _).alloc _
    have B2 : Has ((w.alloc (.cells #[.int .i64 r, .int .i64 c] 36)).alloc (.cells #[.int .i64 n', .int .i64 pa', .int .i64 k', .int .i64 un'] 179)) (w.heap.size + 1) #[.int .i64 n', .int .i64 pa', .int .i64 k', .int .i64 un'] 179 := by
      have := Has.new (w.alloc (.cells #[.int .i64 r, .int .i64 c] 36)) #[.int .i64 n', .int .i64 pa', .int .i64 k', .int .i64 un'] 179
      rwa [World.size_alloc] at this
    have nb1 : ∀ k, k = b → k ≠ w.heap.size ∧ k ≠ w.heap.size + 1 := fun k hk => by omega
    have b1 := (unhide m3).has B1 (fun e => by have := (nb1 _ e).1; omega)
    have b2 := (unhide m3).has B2 (fun e => by have := (nb1 _ e).2; omega)
    have hm3 := (unhide m3).map (mw.map hmap (fun x => x)) (fun e => hmb e)
    have M0 : Mod (fun k => k = b) w wc := (mw.mono (fun _ _ x => x.elim)).trans (unhide m3)
    generalize hg1 : w.heap.size = g1 at *
    generalize hg2 : g1 + 1 = g2 at *
    have c1 := b1.cell
    have c2 := b2.cell
    have MW := hide M0
    have BB1 := hide b1
    have BB2 := hide b2
    have HM3 := hide hm3
    have NB := hide nb1
    have HG1 := hide hg1
    have HG2 := hide hg2
    clear B1 B2 b1 b2 mw hm3 hmap hmb nb1 M0 m3 hg1 hg2 c7 hL' hlt
    go_wp2_with fail
    refine ((unhide HT2) _ (unhide h3)).mono ?_
    rintro e w4 ⟨rfl, m4, h4⟩
    have b1 := m4.has (unhide BB1) (fun e => by have := ((unhide NB) _ e).1; omega)
    have b2 := m4.has (unhide BB2) (fun e => by have := ((unhide NB) _ e).2; omega)
    have hm4 := m4.map (unhide HM3) (fun e => (unhide HMB) e)
    have MW4 := hide ((unhide MW).trans m4)
    have H4 := hide h4
    have HM4 := hide hm4
    have hml4 := (Array.getElem?_eq_some_iff.1 hm4).1
    have c7 := h4.cell 7
    rw [show (fcf p (.map (some m)) fa2 fb2 fs2 fe)[7]? = some (.map (some m)) from rfl] at c7
    clear c1 c2
    have c1 := b1.cell
    have c2 := b2.cell
    clear h4 b1 b2 m4 hm4 MW BB1 BB2 HM3 h3
    by_cases hn0 : n' = 0
    · subst hn0
      have hD := (unhide HD) rfl w4.drew
      have HDD := fun ty => hD ty (unhide HM4)
      clear hD
      rw [show (((0 : Nat) : Int)) = 0 from rfl] at *
      go_wp2_with fail
      go_region
      all_goals
        go_wp2_with fail
        refine ((unhide HR) _ ?_).mono ?_
        · exact setBlock_has (Has.drew (unhide H4)) (unhide HMB) _
        rintro e w5 ⟨rfl, m5, h5⟩
        go_wp2
        go_end0
        have ml : m < w4.drew.heap.size := hml4
        refine ⟨rfl, (((unhide MW4).drew.mono (fun _ _ x => .inl x)).setBlock (.inl (.inr rfl)) _).trans (m5.mono (fun _ _ x => .inl x)), h5, m5.map (setBlock_at ml _) (fun e => (unhide HMB) e)⟩
    · have hn0' : ((n' : Int) == 0) = false := by simp; omega
      have hU := (unhide HU) hn0 w4.drew (unhide HM4)
      have HN0 := hide hn0
      clear hn0
      go_wp2_with fail
      go_region
      all_goals
        go_wp2_with fail
        refine ((unhide HR) _ ?_).mono ?_
        · exact setBlock_has (Has.drew (unhide H4)) (unhide HMB) _
        rintro e w5 ⟨rfl, m5, h5⟩
        go_wp2
        go_end0
        have ml : m < w4.drew.heap.size := hml4
        refine ⟨rfl, (((unhide MW4).drew.mono (fun _ _ x => .inl x)).setBlock (.inl (.inr rfl)) _).trans (m5.mono (fun _ _ x => .inl x)), h5, m5.map (setBlock_at ml _) (fun e => (unhide HMB) e)⟩
end Go.Proofs.YtlcbemcamdafjaaGreat
