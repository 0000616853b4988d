import Derived.Test.YthhibagcpjeihaaGFol5ToFol7
import Derived.Test.YthhibagcpjeihaaGLeastToDoes1
import Derived.Test.YthhibagcpjeihaaGFitsToBack1
import Derived.Test.YthhibagcpjeihaaGPaged3ToBulkL
/- A command is done, and the limits are kept in mind: the followers stand. A keeper is begun: it has told nothing. -/
namespace Go.Proofs.Ythhibagcpjeihaa
open Go.RowKit
open Go.ChangeMaps (setBlock)
open M
set_option linter.unusedVariables false
set_option linter.unusedSimpArgs false
set_option maxRecDepth 100000
set_option maxHeartbeats 2000000

/-- What has become of a keeper behind a command, its followers too. -/
structure DoesF (w w' : World) (ow om : Nat → Nat) (kb lb : Nat) (tl : Nat → Option (List FEnt)) (now : Int) (fl : Nat → Option (Pla × List Sea)) (m : Nat) : Prop where
  keep : ∃ ow', KeepM w' ow' kb now fl m ∧ FolX w' ow' om kb tl ∧ ∀ k, k < w.heap.size → ow' k = ow k
  lim : ∃ cs, cs.size = 84 ∧ Has w' lb cs 104
  mod : Mod (fun k => ow k ≠ 0 ∨ k = lb) w w'

theorem doesF_any {w : World} {ow om : Nat → Nat} {tl : Nat → Option (List FEnt)} {kb lb : Nat} {now : Int} {fl : Nat → Option (Pla × List Sea)} {m : Nat} (h : KeepM w ow kb now fl (m + 1)) (hf : FolX w ow om kb tl) (hn : 0 ≤ now ∧ now ≤ 4611686018427387000) (c : Cmd) (cs : Array Value) (hs : cs.size = 84) (hb : Has w lb cs 104) (hol : ow lb = 0) (hom : om lb = 0) :
    Calls Try.prog 18 #[.pointer (some ⟨kb, 0, none⟩), .agg (cmdCells c), .pointer (some ⟨lb, 0, none⟩)] w fun e w' =>
      e = .returned (.int .i64 (doK now fl c).1) ∧ DoesF w w' ow om kb lb tl (doK now fl c).2.1 (doK now fl c).2.2 m := by
  have hlb := hb.lt
  have HD := hide (do_m (h.mod ((Mod.refl No w).alloc (.cells (cmdCells c) 37)) (fun _ _ x => x)) hn c)
  have HB := hide (hb.alloc (.cells (cmdCells c) 37))
  have HC := hide (Has.new w (cmdCells c) 37)
  have M0 := hide ((Mod.refl No w).alloc (.cells (cmdCells c) 37))
  have HO := hide (show ow w.heap.size = 0 from by
    by_cases e : ow w.heap.size = 0
    · exact e
    · have := h.old _ e; omega)
  have HA := hide fun (q : (doK now fl c).1 = 0) (r : c.kind = 1) => doK_add q r
  generalize doK now fl c = D at *
  obtain ⟨r, now', fl'⟩ := D
  simp only at *
  have HFA := hide (hf.still ((Mod.refl No w).alloc (.cells (cmdCells c) 37)))
  clear h hb hf
  unfold cmdCells at *
  go_enter Try.func18, Try.ntmps18
  go_wp2_with fail
  refine (unhide HD).mono ?_
  rintro e w2 ⟨rfl, hkept⟩
  obtain ⟨ow', k2, f2, ho, m2⟩ := (unhide HFA).kept hkept
  have F2 := hide f2
  clear f2 hkept HFA
  have b2 := m2.has (unhide HB) (by simp [hol])
  have c2 := m2.has (unhide HC) (by simp [unhide HO])
  have cc := c2.cell
  have M2 := hide (((unhide M0).mono (S' := fun k => ow k ≠ 0) (fun _ _ x => x.elim)).trans m2)
  have K2 := hide k2
  have HO2 := hide (fun k hk => ho k hk)
  have B2 := hide b2
  have lc2 := c2.lt
  have lb2 := b2.lt
  clear k2 ho m2 b2 c2 HD HB HC M0
  have R0 : ¬ (r = 0 ∧ c.kind = 1) → DoesF w w2 ow om kb lb tl now' fl' m := fun hne => ⟨⟨ow', unhide K2, unhide F2, fun k hk => (unhide HO2) k (by simp; omega)⟩, ⟨cs, hs, unhide B2⟩, (unhide M2).mono (fun _ _ x => .inl x)⟩
  have R0 := hide R0
  by_cases h0 : r = 0
  case neg =>
    have RZ := hide ((unhide R0) (fun x => h0 x.1))
    clear K2 HO2 B2 M2 HA R0
    have e0 : (r == 0) = false := by simp [h0]
    go_wp2
    go_ret
    exact ⟨rfl, unhide RZ⟩
  by_cases h1 : c.kind = 1
  case neg =>
    have RZ := hide ((unhide R0) (fun x => h1 x.2))
    clear K2 HO2 B2 M2 HA R0
    have e1 : (c.kind == 1) = false := by simp [h1]
    subst h0
    go_wp2
    go_ret
    exact ⟨rfl, unhide RZ⟩
  obtain ⟨f1, f2⟩ := (unhide HA) h0 h1
  obtain ⟨n, hfn⟩ : ∃ n : Nat, c.flight = (n : Int) := ⟨c.flight.toNat, by omega⟩
  subst h0
  have e1 : (c.kind == 1) = true := by simp [h1]
  rw [hfn] at cc f1 f2
  have i21 : (n : Int) < 21 := by omega
  have i0 : (0 : Int) ≤ n := by omega
  have fz := (unhide B2).frozen
  obtain ⟨v0, g0⟩ : ∃ v, w2.cell? ⟨lb, n * 4, none⟩ = some v := ⟨_, by rw [(unhide B2).cell, Array.getElem?_eq_getElem (by omega)]⟩
  obtain ⟨v1, g1⟩ : ∃ v, w2.cell? ⟨lb, n * 4 + 1, none⟩ = some v := ⟨_, by rw [(unhide B2).cell, Array.getElem?_eq_getElem (by omega)]⟩
  obtain ⟨v2, g2⟩ : ∃ v, w2.cell? ⟨lb, n * 4 + 2, none⟩ = some v := ⟨_, by rw [(unhide B2).cell, Array.getElem?_eq_getElem (by omega)]⟩
  obtain ⟨v3, g3⟩ : ∃ v, w2.cell? ⟨lb, n * 4 + 3, none⟩ = some v := ⟨_, by rw [(unhide B2).cell, Array.getElem?_eq_getElem (by omega)]⟩
  have hp : ∀ o, (fun k => ow k ≠ 0 ∨ k = lb) (⟨lb, o, none⟩ : Addr).block ∨ w.heap.size ≤ (⟨lb, o, none⟩ : Addr).block := fun o => .inl (.inr rfl)
  have hq : ∀ o, (fun k => k = lb) (⟨lb, o, none⟩ : Addr).block ∨ w2.heap.size ≤ (⟨lb, o, none⟩ : Addr).block := fun o => .inl rfl
  have okb : ow' kb ≠ 0 := by rw [(unhide K2).mine]; omega
  have ol : ow' lb = 0 := by rw [(unhide HO2) lb (by simp; omega)]; exact hol
  have R1 := hide (show DoesF w ((((w2.setCell ⟨lb, n * 4, none⟩ (.int .i64 c.pla.l0)).setCell ⟨lb, n * 4 + 1, none⟩ (.int .i64 c.pla.l1)).setCell ⟨lb, n * 4 + 2, none⟩ (.int .i64 c.pla.l2)).setCell ⟨lb, n * 4 + 3, none⟩ (.int .i64 c.pla.l3)).drew ow om kb lb tl now' fl' m from
    ⟨⟨ow', (unhide K2).mod (((((Mod.refl (fun k => k = lb) w2).setCell (hq _) _).setCell (hq _) _).setCell (hq _) _).setCell (hq _) _).drew (fun k hk e => by subst e; exact hk ol), (unhide F2).mod (((((Mod.refl (fun k => k = lb) w2).setCell (hq _) _).setCell (hq _) _).setCell (hq _) _).setCell (hq _) _).drew (fun e => okb (by have e' : kb = lb := e; rw [e']; exact ol)) (fun k hk e => by subst e; exact hk hom), fun k hk => (unhide HO2) k (by simp; omega)⟩,
     ⟨set4 cs n c.pla, by unfold set4; simpa using hs, ((((((unhide B2).set (n * 4) _).set (n * 4 + 1) _).set (n * 4 + 2) _).set (n * 4 + 3) _)).drew⟩,
     (((((((unhide M2).mono (fun _ _ x => .inl x)).setCell (hp _) _).setCell (hp _) _).setCell (hp _) _).setCell (hp _) _)).drew⟩)
  clear K2 HO2 B2 M2 HA R0
  go_wp2_with fail
  go_region
  all_goals go_wp2
  all_goals go_ret
  all_goals exact ⟨rfl, unhide R1⟩

theorem begunF_any (w : World) :
    Calls Try.prog 14 #[.pointer (some ⟨w.heap.size, 0, none⟩)] (w.alloc (.cells tape0 103)) fun e w' => ∃ kb, e = .returned (.tuple #[.pointer (some ⟨kb, 0, none⟩), .bool true]) ∧
      (∃ ow, KeepM w' ow kb 0 fl0 (lft 0) ∧ FolX w' ow (fun _ => 0) kb (fun _ => none) ∧ ∀ k, k < w.heap.size → ow k = 0) ∧ Mod No w w' ∧ w.heap.size ≤ kb :=
  (begun_any w).mono fun e w' ⟨kb, h1, ⟨ow, h2, h3⟩, h4, h5, h6⟩ => ⟨kb, h1, ⟨ow, h2, ⟨fun i hi _ => h6 i hi, fun i hi es h => (by cases h), fun k hk => absurd rfl hk⟩, h3⟩, h4, h5⟩
end Go.Proofs.Ythhibagcpjeihaa
/- Who folds all bulletins: the model. -/
namespace Go.Proofs.Ythhibagcpjeihaa
open Go.RowKit
open M
set_option linter.unusedVariables false
set_option linter.unusedSimpArgs false

/-- The entries behind some news. -/
def puts (es : List FEnt) (clock : Nat) (l : List Nw) : List FEnt × Nat := l.foldl (fun s x => putF s.1 s.2 x.n x.c x.l) (es, clock)
theorem puts_snoc (es : List FEnt) (clock : Nat) (l : List Nw) (x : Nw) : puts es clock (l ++ [x]) = putF (puts es clock l).1 (puts es clock l).2 x.n x.c x.l := by
  unfold puts
  rw [List.foldl_append]
  rfl
theorem puts_ok {es : List FEnt} {clock : Nat} (h : FolOk es) : ∀ (l : List Nw), (∀ x ∈ l, x.ok) → FolOk (puts es clock l).1 := by
  intro l
  induction l generalizing es clock with
  | nil => intro _; exact h
  | cons x l ih =>
    intro hx
    have h1 := hx x (by simp)
    exact ih (h.put clock x.n x.c x.l ⟨h1.1, by have := h1.2.1; omega⟩ ⟨h1.2.2.1, by have := h1.2.2.2; omega⟩) (fun y hy => hx y (by simp [hy]))
theorem puts_tb {es : List FEnt} {clock : Nat} (h : FolOk es) {l : List Nw} (hl : ∀ x ∈ l, x.ok) (x : Nw) (n c : Int) : tb (puts es clock (l ++ [x])).1 n c = if n = x.n ∧ c = x.c then x.l else tb (puts es clock l).1 n c := by
  rw [puts_snoc]
  unfold tb
  rw [lookF_put _ (puts_ok h l hl)]
  by_cases e : n = x.n ∧ c = x.c
  · rw [if_pos e, if_pos e]; rfl
  · rw [if_neg e, if_neg e]

/-- What holds of a bulletin at every moment of its making. -/
structure TelQ (most : Int) (es : List FEnt) (clock : Nat) (L : List Nw) (s : Tel) : Prop where
  isp : (s.es, s.clock) = puts es clock s.news
  new : ∀ j (hj : j < s.news.length), s.news[j].l ≠ tb (puts es clock (s.news.take j)).1 s.news[j].n s.news[j].c
  mem : ∀ x ∈ s.news, x ∈ L
  more : s.more = true → (s.news.length : Int) = most

theorem TelQ.step {most : Int} {es : List FEnt} {clock : Nat} {L : List Nw} {s : Tel} (h : TelQ most es clock L s) (x : Nw) (hx : x ∈ L) (hl : (s.news.length : Int) ≤ most) : TelQ most es clock L (tellStep most s x) := by
  unfold tellStep
  by_cases h1 : x.l = tb s.es x.n x.c
  · rw [if_pos h1]; exact h
  rw [if_neg h1]
  by_cases h2 : (s.news.length : Int) = most
  · rw [if_pos h2]; exact ⟨h.isp, h.new, h.mem, fun _ => h2⟩
  rw [if_neg h2]
  have he := h.isp
  have e1 : s.es = (puts es clock s.news).1 := by rw [← he]
  have e2 : s.clock = (puts es clock s.news).2 := by rw [← he]
  refine ⟨?_, fun j hj => ?_, fun y hy => ?_, fun hm => ?_⟩
  · simp only
    rw [puts_snoc, ← e1, ← e2]
  · simp only at hj ⊢
    by_cases e : j < s.news.length
    · have g : (s.news ++ [x])[j] = s.news[j] := List.getElem_append_left e
      rw [g, List.take_append_of_le_length (by omega)]
      exact h.new j e
    · have : j = s.news.length := by simp at hj; omega
      subst this
      have g : (s.news ++ [x])[s.news.length]'(by simp) = x := by simp
      rw [g, List.take_left', ← e1]
      · exact h1
      · rfl
  · rcases List.mem_append.1 hy with hy | hy
    · exact h.mem y hy
    · simp at hy; subst hy; exact hx
  · have := h.more hm
    exact absurd this h2

theorem telQ_all {most : Int} {es : List FEnt} {clock : Nat} {L : List Nw} : ∀ (l : List Nw) (s : Tel), TelQ most es clock L s → (s.news.length : Int) ≤ most → (∀ x ∈ l, x ∈ L) → TelQ most es clock L (tells most s l)
  | [], s, h, _, _ => h
  | x :: l, s, h, hl, hm => telQ_all l (tellStep most s x) (h.step x (hm x (by simp)) hl) (tellStep_len hl) (fun y hy => hm y (by simp [hy]))

theorem more_step {most : Int} {s : Tel} {x : Nw} (h : s.more = true) : (tellStep most s x).more = true := by
  unfold tellStep
  split
  · exact h
  · split
    · rfl
    · exact h
theorem more_tells {most : Int} : ∀ (l : List Nw) (s : Tel), s.more = true → (tells most s l).more = true
  | [], s, h => h
  | x :: l, s, h => more_tells l (tellStep most s x) (more_step h)

def Apart (x y : Nw) : Prop := ¬ (x.n = y.n ∧ x.c = y.c)

/-- When there are no more all is known. -/
theorem tells_all {most : Int} : ∀ (l : List Nw) (s : Tel), FolOk s.es → (∀ x ∈ l, x.ok) → l.Pairwise Apart → (tells most s l).more = false → ∀ x ∈ l, tb (tells most s l).es x.n x.c = x.l
  | [], s, _, _, _, _, x, hx => by simp at hx
  | y :: l, s, hs, hl, hp, hm, x, hx => by
    have hp2 := List.pairwise_cons.1 hp
    have hs' : FolOk (tellStep most s y).es := tellStep_ok hs (hl y (by simp))
    have hm' : (tells most (tellStep most s y) l).more = false := hm
    rcases List.mem_cons.1 hx with rfl | hx
    · show tb (tells most (tellStep most s x) l).es x.n x.c = x.l
      rw [tells_tb x.n x.c l _ hs' (fun z hz => hl z (by simp [hz])) (fun z hz => hp2.1 z hz)]
      unfold tellStep at hm' ⊢
      by_cases h1 : x.l = tb s.es x.n x.c
      · rw [if_pos h1]; exact h1.symm
      rw [if_neg h1] at hm' ⊢
      by_cases h2 : (s.news.length : Int) = most
      · rw [if_pos h2] at hm'
        rw [more_tells l _ rfl] at hm'
        cases hm'
      · rw [if_neg h2]
        simp only [tb]
        rw [lookF_put _ hs, if_pos ⟨rfl, rfl⟩]
        rfl
    · exact tells_all l (tellStep most s y) hs' (fun z hz => hl z (by simp [hz])) hp2.2 hm' x hx

/-- How many news there are. -/
def diffs (es : List FEnt) (L : List Nw) : Nat := L.countP fun x => decide (x.l ≠ tb es x.n x.c)

theorem countP_less {α : Type} {p q : α → Bool} : ∀ (l : List α), (∀ y ∈ l, q y = true → p y = true) → (∃ x ∈ l, p x = true ∧ q x = false) → l.countP q < l.countP p
  | [], _, ⟨x, hx, _⟩ => by simp at hx
  | y :: l, h, ⟨x, hx, h1, h2⟩ => by
    have hle : l.countP q ≤ l.countP p := List.countP_mono_left (fun z hz => h z (by simp [hz]))
    rw [List.countP_cons, List.countP_cons]
    rcases List.mem_cons.1 hx with rfl | hx
    · rw [h1, h2]
      simp
      omega
    · have := countP_less l (fun z hz => h z (by simp [hz])) ⟨x, hx, h1, h2⟩
      by_cases hq : q y = true
      · rw [hq, h y (by simp) hq]; simp; omega
      · simp [hq]; omega

theorem diffs_step {most : Int} {s : Tel} {L : List Nw} (hs : FolOk s.es) (hp : L.Pairwise Apart) {x : Nw} (hx : x ∈ L) :
    diffs (tellStep most s x).es L + (tellStep most s x).news.length ≤ diffs s.es L + s.news.length := by
  unfold tellStep
  by_cases h1 : x.l = tb s.es x.n x.c
  · rw [if_pos h1]; exact Nat.le_refl _
  rw [if_neg h1]
  by_cases h2 : (s.news.length : Int) = most
  · rw [if_pos h2]; exact Nat.le_refl _
  rw [if_neg h2]
  simp only [List.length_append, List.length_cons, List.length_nil]
  have : diffs (putF s.es s.clock x.n x.c x.l).1 L < diffs s.es L := by
    unfold diffs
    have ht : ∀ y : Nw, tb (putF s.es s.clock x.n x.c x.l).1 y.n y.c = if y.n = x.n ∧ y.c = x.c then x.l else tb s.es y.n y.c := fun y => by
      unfold tb
      rw [lookF_put _ hs]
      by_cases e : y.n = x.n ∧ y.c = x.c
      · rw [if_pos e, if_pos e]; rfl
      · rw [if_neg e, if_neg e]
    refine countP_less L (fun y hy hq => ?_) ⟨x, hx, by simpa using h1, by simp [ht]⟩
    rw [ht] at hq
    by_cases e : y.n = x.n ∧ y.c = x.c
    · rw [if_pos e] at hq
      have hyx : y = x := by
        by_cases e2 : y = x
        · exact e2
        · exfalso
          obtain ⟨i, hi, rfl⟩ := List.getElem_of_mem hy
          obtain ⟨j, hj, rfl⟩ := List.getElem_of_mem hx
          have hpg := List.pairwise_iff_getElem.1 hp
          rcases Nat.lt_trichotomy i j with h | h | h
          · exact hpg i j hi hj h e
          · subst h; exact e2 rfl
          · exact hpg j i hj hi h ⟨e.1.symm, e.2.symm⟩
      rw [hyx] at hq
      simp at hq
    · rw [if_neg e] at hq; exact hq
  omega
theorem diffs_tells {most : Int} {L : List Nw} (hp : L.Pairwise Apart) (hok : ∀ x ∈ L, x.ok) : ∀ (l : List Nw) (s : Tel), FolOk s.es → (∀ x ∈ l, x ∈ L) → diffs (tells most s l).es L + (tells most s l).news.length ≤ diffs s.es L + s.news.length
  | [], s, _, _ => Nat.le_refl _
  | x :: l, s, hs, hl => by
    have h1 := diffs_step (most := most) hs hp (hl x (by simp))
    have h2 := diffs_tells (most := most) hp hok l (tellStep most s x) (tellStep_ok hs (hok x (hl x (by simp)))) (fun y hy => hl y (by simp [hy]))
    have h3 : tells most s (x :: l) = tells most (tellStep most s x) l := rfl
    rw [h3]
    omega

theorem mem_itemsF {fl : Nat → Option (Pla × List Sea)} {n : Nat} {x : Nw} (h : x ∈ itemsF fl n) : ∃ y c, fl n = some y ∧ c < 4 ∧ x = ⟨n, (c : Nat), lv y c⟩ := by
  unfold itemsF at h
  cases hf : fl n with
  | none => rw [hf] at h; simp at h
  | some y =>
    rw [hf] at h
    simp only [items] at h
    obtain ⟨c, hc, rfl⟩ := List.mem_map.1 h
    have := List.mem_range.1 hc
    refine ⟨y, c, rfl, this, ?_⟩
    have : c = 0 ∨ c = 1 ∨ c = 2 ∨ c = 3 := by omega
    rcases this with rfl | rfl | rfl | rfl <;> rfl
theorem mem_itemsF_of {fl : Nat → Option (Pla × List Sea)} {n c : Nat} {y : Pla × List Sea} (hf : fl n = some y) (hc : c < 4) : (⟨n, (c : Nat), lv y c⟩ : Nw) ∈ itemsF fl n := by
  unfold itemsF
  rw [hf]
  simp only [items]
  refine List.mem_map.2 ⟨c, List.mem_range.2 hc, ?_⟩
  have : c = 0 ∨ c = 1 ∨ c = 2 ∨ c = 3 := by omega
  rcases this with rfl | rfl | rfl | rfl <;> rfl
theorem itemsF_apart (fl : Nat → Option (Pla × List Sea)) (n : Nat) : (itemsF fl n).Pairwise Apart := by
  unfold itemsF
  cases fl n with
  | none => exact List.Pairwise.nil
  | some y =>
    show (items n _ _ _ _ 4).Pairwise Apart
    unfold items
    refine List.pairwise_map.2 (List.Pairwise.imp (fun {a b} (h : a < b) => ?_) List.pairwise_lt_range)
    unfold Apart
    simp only
    omega
theorem itemsK_apart (fl : Nat → Option (Pla × List Sea)) : ∀ k, (itemsK fl k).Pairwise Apart
  | 0 => List.Pairwise.nil
  | k + 1 => by
    rw [itemsK_succ]
    refine List.pairwise_append.2 ⟨itemsK_apart fl k, itemsF_apart fl k, fun x hx y hy => ?_⟩
    unfold itemsK at hx
    obtain ⟨j, hj, hx⟩ := List.mem_flatMap.1 hx
    have := List.mem_range.1 hj
    obtain ⟨_, _, _, _, rfl⟩ := mem_itemsF hx
    obtain ⟨_, _, _, _, rfl⟩ := mem_itemsF hy
    unfold Apart
    simp only
    omega
theorem mem_itemsK {fl : Nat → Option (Pla × List Sea)} {k : Nat} {x : Nw} (h : x ∈ itemsK fl k) : ∃ n : Nat, ∃ y, ∃ c : Nat, n < k ∧ fl n = some y ∧ c < 4 ∧ x = ⟨n, c, lv y c⟩ := by
  unfold itemsK at h
  obtain ⟨n, hn, h⟩ := List.mem_flatMap.1 h
  obtain ⟨y, c, h1, h2, h3⟩ := mem_itemsF h
  exact ⟨n, y, c, List.mem_range.1 hn, h1, h2, h3⟩
theorem mem_itemsK_of {fl : Nat → Option (Pla × List Sea)} {k n c : Nat} {y : Pla × List Sea} (hn : n < k) (hf : fl n = some y) (hc : c < 4) : (⟨n, (c : Nat), lv y c⟩ : Nw) ∈ itemsK fl k :=
  List.mem_flatMap.2 ⟨n, List.mem_range.2 hn, mem_itemsF_of hf hc⟩
theorem itemsK_ok (fl : Nat → Option (Pla × List Sea)) : ∀ x ∈ itemsK fl 21, x.ok := fun x hx => by
  obtain ⟨n, y, c, h1, _, h2, rfl⟩ := mem_itemsK hx
  refine ⟨?_, ?_, ?_, ?_⟩ <;> (simp only; omega)

/-- Of flights that there are not nothing is told. -/
theorem tells_absent {most : Int} {fl : Nat → Option (Pla × List Sea)} {s : Tel} (hs : FolOk s.es) (n : Nat) (hf : fl n = none) (c : Int) : tb (tells most s (itemsK fl 21)).es n c = tb s.es n c :=
  tells_tb n c _ s hs (itemsK_ok fl) (fun x hx h => by
    obtain ⟨m, y, d, _, h1, _, rfl⟩ := mem_itemsK hx
    simp only at h
    have : m = n := by omega
    rw [this, hf] at h1
    cases h1)

/-- When there are no more, and nothing was told of flights that there are not, what was told is what is left. -/
theorem tells_left {most : Int} {fl : Nat → Option (Pla × List Sea)} {s : Tel} (hs : FolOk s.es) (h0 : fl 0 = none) (habs : ∀ n, n < 21 → fl n = none → ∀ c : Nat, c < 4 → tb s.es n c = -1) (hm : (tells most s (itemsK fl 21)).more = false) (j : Nat) (hj : j < 84) :
    tb (tells most s (itemsK fl 21)).es (j / 4 : Nat) (j % 4 : Nat) = leftT fl j := by
  unfold leftT
  cases hf : fl (j / 4) with
  | none =>
    rw [tells_absent hs _ hf, habs _ (by omega) hf _ (by omega)]
    have : leftK fl (j / 4 : Nat) (j % 4 : Nat) = (0, 2) := by
      unfold leftK
      split
      · rfl
      · rw [Int.toNat_natCast, hf]
    rw [this]
    rfl
  | some y =>
    have hne : j / 4 ≠ 0 := fun e => by rw [e, h0] at hf; cases hf
    have h1 := tells_all (most := most) (itemsK fl 21) s hs (itemsK_ok fl) (itemsK_apart fl 21) hm _ (mem_itemsK_of (n := j / 4) (c := j % 4) (by omega) hf (by omega))
    simp only at h1
    rw [h1]
    have : leftK fl (j / 4 : Nat) (j % 4 : Nat) = (lv y (j % 4), 0) := by
      unfold leftK
      rw [if_neg (by omega), Int.toNat_natCast, hf]
      simp only
      rw [if_neg (by omega), Int.toNat_natCast]
      have : j % 4 = 0 ∨ j % 4 = 1 ∨ j % 4 = 2 ∨ j % 4 = 3 := by omega
      rcases this with e | e | e | e <;> rw [e] <;> rfl
    rw [this]
    rfl
end Go.Proofs.Ythhibagcpjeihaa
/- Who folds all bulletins: what holds at every moment. -/
namespace Go.Proofs.Ythhibagcpjeihaa
open Go.RowKit
open Go.ChangeMaps (setBlock)
open M
set_option linter.unusedVariables false
set_option linter.unusedSimpArgs false
set_option maxRecDepth 100000

def tabB (g : Nat → Bool) : Array Value := #[.bool (g 0), .bool (g 1), .bool (g 2), .bool (g 3), .bool (g 4), .bool (g 5), .bool (g 6), .bool (g 7)]
theorem tabB_get (g : Nat → Bool) (v : Nat) (hv : v < 8) : (tabB g)[v]? = some (.bool (g v)) := by
  have : v = 0 ∨ v = 1 ∨ v = 2 ∨ v = 3 ∨ v = 4 ∨ v = 5 ∨ v = 6 ∨ v = 7 := by omega
  rcases this with h | h | h | h | h | h | h | h <;> (subst h; rfl)
theorem tabB_set (g : Nat → Bool) (v : Nat) (x : Bool) (hv : v < 8) : (tabB g).setIfInBounds v (.bool x) = tabB (fun j => if j = v then x else g j) := by
  have : v = 0 ∨ v = 1 ∨ v = 2 ∨ v = 3 ∨ v = 4 ∨ v = 5 ∨ v = 6 ∨ v = 7 := by omega
  rcases this with h | h | h | h | h | h | h | h <;> (subst h; rfl)

theorem doK_zero {fl : Nat → Option (Pla × List Sea)} (now : Int) (c : Cmd) (n : Nat) (h : (doK now fl c).2.2 n = none) : fl n = none := by
  unfold doK at h
  by_cases k0 : c.kind < 1 ∨ c.kind > 9
  · rw [if_pos k0] at h; exact h
  rw [if_neg k0] at h
  by_cases k8 : c.kind = 8
  · rw [if_pos k8] at h
    by_cases ht : 1 ≤ c.time ∧ c.time ≤ 100
    · rw [if_pos ht] at h; simpa using h
    · rw [if_neg ht] at h; exact h
  rw [if_neg k8] at h
  by_cases hfl : ¬ (1 ≤ c.flight ∧ c.flight ≤ 20)
  · rw [if_pos hfl] at h; exact h
  rw [if_neg hfl] at h
  cases hc : fl c.flight.toNat with
  | none =>
    rw [hc] at h
    simp only at h
    by_cases k1 : c.kind = 1
    · rw [if_pos k1] at h
      by_cases hq : c.pla.sized = true ∧ c.pla.limited = true
      · rw [if_pos hq] at h
        simp only at h
        by_cases e : n = c.flight.toNat
        · rw [if_pos e] at h; cases h
        · rw [if_neg e] at h; exact h
      · rw [if_neg hq] at h; exact h
    · rw [if_neg k1] at h; exact h
  | some x =>
    rw [hc] at h
    simp only at h
    by_cases k1 : c.kind = 1
    · rw [if_pos k1] at h; exact h
    rw [if_neg k1] at h
    by_cases he : seatErr x.1 x.2 c now = 0
    · rw [if_pos he] at h
      simp only at h
      by_cases e : n = c.flight.toNat
      · rw [if_pos e] at h; cases h
      · rw [if_neg e] at h; exact h
    · rw [if_neg he] at h; exact h
theorem doK_zero' {fl : Nat → Option (Pla × List Sea)} (now : Int) (c : Cmd) (h : fl 0 = none) : (doK now fl c).2.2 0 = none := by
  unfold doK
  by_cases k0 : c.kind < 1 ∨ c.kind > 9
  · rw [if_pos k0]; exact h
  rw [if_neg k0]
  by_cases k8 : c.kind = 8
  · rw [if_pos k8]
    by_cases ht : 1 ≤ c.time ∧ c.time ≤ 100
    · rw [if_pos ht]; simp [h]
    · rw [if_neg ht]; exact h
  rw [if_neg k8]
  by_cases hfl : ¬ (1 ≤ c.flight ∧ c.flight ≤ 20)
  · rw [if_pos hfl]; exact h
  rw [if_neg hfl]
  have h0 : (0 : Nat) ≠ c.flight.toNat := by omega
  cases hc : fl c.flight.toNat with
  | none =>
    simp only
    by_cases k1 : c.kind = 1
    · rw [if_pos k1]
      by_cases hq : c.pla.sized = true ∧ c.pla.limited = true
      · rw [if_pos hq]; simp only; rw [if_neg h0]; exact h
      · rw [if_neg hq]; exact h
    · rw [if_neg k1]; exact h
  | some x =>
    simp only
    by_cases k1 : c.kind = 1
    · rw [if_pos k1]; exact h
    rw [if_neg k1]
    by_cases he : seatErr x.1 x.2 c now = 0
    · rw [if_pos he]; simp only; rw [if_neg h0]; exact h
    · rw [if_neg he]; exact h

/-- What holds at every moment: the keeper and its followers; what was told, and what is known of it. -/
structure FldG (w wr : World) (ow om : Nat → Nat) (kb lb nb gb : Nat) (i : Nat) (now : Int) (fl : Nat → Option (Pla × List Sea)) (tl : Nat → Option (List FEnt)) (kt : Nat → List FEnt) (bt : Nat → Bool) : Prop where
  keep : KeepM wr ow kb now fl (lft i)
  fol : FolX wr ow om kb tl
  own : ∀ b, (b = lb ∨ b = nb ∨ b = gb ∨ b < w.heap.size) → ow b = 0 ∧ om b = 0
  apart : lb ≠ nb ∧ lb ≠ gb ∧ nb ≠ gb
  lim : ∃ cs : Array Value, cs.size = 84 ∧ Has wr lb cs 104
  kno : ∃ K, Has wr nb (tab K 672) 70 ∧ ∀ v, v < 8 → ∀ j, j < 84 → K (v * 84 + j) = tb (kt v) (j / 4 : Nat) (j % 4 : Nat)
  beg : Has wr gb (tabB bt) 71
  zero : fl 0 = none
  one : ∃ p l, fl 1 = some (p, l)
  abs : ∀ v, v < 8 → ∀ n : Nat, n < 21 → fl n = none → ∀ c : Nat, c < 4 → tb ((tl v).getD []) n c = -1
  now0 : 0 ≤ now
  now1 : now ≤ 100 * (i : Int)
  mod : Mod No w wr
  new : w.heap.size ≤ lb ∧ w.heap.size ≤ nb ∧ w.heap.size ≤ gb

theorem FldG.still {w wr w2 : World} {ow om : Nat → Nat} {kb lb nb gb i : Nat} {now : Int} {fl : Nat → Option (Pla × List Sea)} {tl : Nat → Option (List FEnt)} {kt : Nat → List FEnt} {bt : Nat → Bool} (h : FldG w wr ow om kb lb nb gb i now fl tl kt bt) (hm : Mod No wr w2) : FldG w w2 ow om kb lb nb gb i now fl tl kt bt := by
  obtain ⟨cs, s1, s2⟩ := h.lim
  obtain ⟨K, k1, k2⟩ := h.kno
  exact ⟨h.keep.mod hm (fun _ _ x => x), h.fol.still hm, h.own, h.apart, ⟨cs, s1, hm.has s2 (fun x => x)⟩, ⟨K, hm.has k1 (fun x => x), k2⟩, hm.has h.beg (fun x => x), h.zero, h.one, h.abs, h.now0, h.now1, h.mod.trans hm, h.new⟩

theorem FldG.lts {w wr : World} {ow om : Nat → Nat} {kb lb nb gb i : Nat} {now : Int} {fl : Nat → Option (Pla × List Sea)} {tl : Nat → Option (List FEnt)} {kt : Nat → List FEnt} {bt : Nat → Bool} (h : FldG w wr ow om kb lb nb gb i now fl tl kt bt) :
    lb < wr.heap.size ∧ nb < wr.heap.size ∧ gb < wr.heap.size ∧ kb < wr.heap.size ∧ ow kb = 1 := by
  obtain ⟨cs, s1, s2⟩ := h.lim
  obtain ⟨K, k1, k2⟩ := h.kno
  obtain ⟨pt, hx⟩ := h.keep.toH
  exact ⟨s2.lt, k1.lt, h.beg.lt, hx.has.lt, hx.mine⟩

theorem FldG.step {w W : World} {ow om : Nat → Nat} {kb lb nb gb i : Nat} {now : Int} {fl : Nat → Option (Pla × List Sea)} {tl : Nat → Option (List FEnt)} {kt : Nat → List FEnt} {bt : Nat → Bool} (h : FldG w W ow om kb lb nb gb i now fl tl kt bt) (hi : i ≤ 2000000) (c : Cmd) :
    Calls Try.prog 18 #[.pointer (some ⟨kb, 0, none⟩), .agg (cmdCells c), .pointer (some ⟨lb, 0, none⟩)] W fun e w' => e = .returned (.int .i64 (doK now fl c).1) ∧
      ∃ ow', FldG w w' ow' om kb lb nb gb (i + 1) (doK now fl c).2.1 (doK now fl c).2.2 tl kt bt := by
  obtain ⟨cs, s1, s2⟩ := h.lim
  obtain ⟨K, q1, q2⟩ := h.kno
  have k3 := h.now0
  have k4 := h.now1
  obtain ⟨l1, l2, l3, l4, l5⟩ := h.lts
  have hkp := h.keep
  rw [lft_succ (by omega)] at hkp
  refine (doesF_any hkp h.fol ⟨k3, by omega⟩ c cs s1 s2 (h.own lb (.inl rfl)).1 (h.own lb (.inl rfl)).2).mono ?_
  rintro e w' ⟨rfl, ⟨ow', r1, r2, r3⟩, ⟨cs', t1, t2⟩, hm⟩
  obtain ⟨p, l, h1⟩ := h.one
  obtain ⟨⟨p', l', e1⟩, e2, e3⟩ := doK_keeps (now := now) h1 c
  have sz : w.heap.size ≤ W.heap.size := h.mod.size
  have out : ∀ b, (b = nb ∨ b = gb ∨ b < w.heap.size) → ¬ (ow b ≠ 0 ∨ b = lb) := fun b hb e => by
    rcases e with e | e
    · exact e (h.own b (.inr hb)).1
    · subst e
      have := h.apart
      have := h.new
      rcases hb with hb | hb | hb <;> omega
  refine ⟨rfl, ow', r1, r2, fun b hb => ⟨?_, (h.own b hb).2⟩, h.apart, ⟨cs', t1, t2⟩, ⟨K, hm.has q1 (out nb (.inl rfl)), q2⟩, hm.has h.beg (out gb (.inr (.inl rfl))), doK_zero' now c h.zero, ⟨p', l', e1⟩, fun v hv n hn hf => h.abs v hv n hn (doK_zero now c n hf), by omega, by omega, ?_, h.new⟩
  · rw [r3 b (by rcases hb with hb | hb | hb | hb <;> omega)]
    exact (h.own b hb).1
  · exact h.mod.trans' hm (fun k hk hl => absurd hk (out k (.inr (.inr hl))))

/-- A follower has asked: what he is told now. -/
theorem FldG.follow {w W : World} {ow om : Nat → Nat} {kb lb nb gb i : Nat} {now : Int} {fl : Nat → Option (Pla × List Sea)} {tl : Nat → Option (List FEnt)} {kt : Nat → List FEnt} {bt : Nat → Bool} (h : FldG w W ow om kb lb nb gb i now fl tl kt bt) (v : Nat) (hv : v < 8) (most : Int) (hmost : 1 ≤ most ∧ most ≤ 50) :
    Calls Try.prog 28 #[.pointer (some ⟨kb, 0, none⟩), .int .i64 v, .int .i64 most] W fun e w' => ∃ vv clock om',
      e = .returned (.tuple #[bullV (tl v).isNone vv (tells most ⟨[], false, (tl v).getD [], clock⟩ (itemsK fl 21)).more, .int .i64 0]) ∧
      FldG w w' ow om' kb lb nb gb i now fl (fun j => if j = v then some (tells most ⟨[], false, (tl v).getD [], clock⟩ (itemsK fl 21)).es else tl j) kt bt ∧
      w'.ownsRow 0 78 3 vv (tells most ⟨[], false, (tl v).getD [], clock⟩ (itemsK fl 21)).news.length ((tells most ⟨[], false, (tl v).getD [], clock⟩ (itemsK fl 21)).news.flatMap nwL) ∧
      (∀ k, vv.ownBlock = some k → W.heap.size ≤ k) ∧ FolOk ((tl v).getD []) := by
  obtain ⟨cs, s1, s2⟩ := h.lim
  obtain ⟨K, q1, q2⟩ := h.kno
  obtain ⟨l1, l2, l3, l4, l5⟩ := h.lts
  refine (follow_m h.keep h.fol v hv most hmost).mono ?_
  rintro e w' ⟨vv, clock, rfl, hx⟩
  have hok : FolOk ((tl v).getD []) := by
    cases ht : tl v with
    | none => exact FolOk.nil
    | some es => obtain ⟨m, ck, _, _, _, a⟩ := h.fol.is v hv es ht; exact a
  obtain ⟨om', f1, f2⟩ := hx.fol
  have sz : w.heap.size ≤ W.heap.size := h.mod.size
  have out : ∀ b, (b = lb ∨ b = nb ∨ b = gb ∨ b < w.heap.size) → ¬ (b = kb ∨ om b ≠ 0) := fun b hb e => by
    rcases e with e | e
    · subst e; have := (h.own b hb).1; omega
    · exact e (h.own b hb).2
  refine ⟨vv, clock, om', rfl, ⟨hx.keep, f1, fun b hb => ⟨(h.own b hb).1, ?_⟩, h.apart, ⟨cs, s1, hx.mod.has s2 (out lb (.inl rfl))⟩, ⟨K, hx.mod.has q1 (out nb (.inr (.inl rfl))), q2⟩, hx.mod.has h.beg (out gb (.inr (.inr (.inl rfl)))), h.zero, h.one, fun u hu n hn hf c hc => ?_, h.now0, h.now1, h.mod.trans' hx.mod (fun k hk hl => absurd hk (out k (.inr (.inr (.inr hl))))), h.new⟩, hx.row, hx.own, hok⟩
  · rw [f2 b (by rcases hb with hb | hb | hb | hb <;> omega)]
    exact (h.own b hb).2
  · by_cases e : u = v
    · simp only [if_pos e, Option.getD_some]
      rw [tells_absent hok n hf]
      exact h.abs v hv n hn hf c hc
    · simp only [if_neg e]
      exact h.abs u hu n hn hf c hc
end Go.Proofs.Ythhibagcpjeihaa
/- What holds of a bulletin; what is known when its news are laid over what was known. -/
namespace Go.Proofs.Ythhibagcpjeihaa
open Go.RowKit
open Go.ChangeMaps (setBlock)
open M
set_option linter.unusedVariables false
set_option linter.unusedSimpArgs false
set_option maxRecDepth 100000

structure TelF (most : Int) (es0 : List FEnt) (clock : Nat) (fl : Nat → Option (Pla × List Sea)) (T : Tel) : Prop where
  isp : (T.es, T.clock) = puts es0 clock T.news
  new : ∀ j (hj : j < T.news.length), T.news[j].l ≠ tb (puts es0 clock (T.news.take j)).1 T.news[j].n T.news[j].c
  key : ∀ x ∈ T.news, 1 ≤ x.n ∧ x.n ≤ 20 ∧ 0 ≤ x.c ∧ x.c < 4
  len : (T.news.length : Int) ≤ most
  more : T.more = true → (T.news.length : Int) = most
  dec : diffs T.es (itemsK fl 21) + T.news.length ≤ diffs es0 (itemsK fl 21)
  all : T.more = false → ∀ j, j < 84 → tb T.es (j / 4 : Nat) (j % 4 : Nat) = leftT fl j
  ok : FolOk es0

theorem telF_of {most : Int} {es0 : List FEnt} {fl : Nat → Option (Pla × List Sea)} (clock : Nat) (hm : 1 ≤ most) (hok : FolOk es0) (h0 : fl 0 = none) (habs : ∀ n : Nat, n < 21 → fl n = none → ∀ c : Nat, c < 4 → tb es0 n c = -1) :
    TelF most es0 clock fl (tells most ⟨[], false, es0, clock⟩ (itemsK fl 21)) := by
  have hq : TelQ most es0 clock (itemsK fl 21) (tells most ⟨[], false, es0, clock⟩ (itemsK fl 21)) :=
    telQ_all _ _ ⟨rfl, fun j hj => absurd hj (Nat.not_lt_zero _), fun x hx => by simp at hx, fun h => by cases h⟩ (by simp; omega) (fun x hx => hx)
  refine ⟨hq.isp, hq.new, fun x hx => ?_, tells_len _ _ (by simp; omega), hq.more, ?_, fun hmo j hj => tells_left (s := ⟨[], false, es0, clock⟩) hok h0 habs hmo j hj, hok⟩
  · obtain ⟨n, y, c, h1, h2, h3, rfl⟩ := mem_itemsK (hq.mem x hx)
    have hn : n ≠ 0 := fun e => by rw [e, h0] at h2; cases h2
    simp only
    omega
  · have := diffs_tells (most := most) (itemsK_apart fl 21) (itemsK_ok fl) (itemsK fl 21) ⟨[], false, es0, clock⟩ hok (fun x hx => hx)
    simpa using this

theorem FldG.began {w wr : World} {ow om : Nat → Nat} {kb lb nb gb i : Nat} {now : Int} {fl : Nat → Option (Pla × List Sea)} {tl : Nat → Option (List FEnt)} {kt : Nat → List FEnt} {bt : Nat → Bool} (h : FldG w wr ow om kb lb nb gb i now fl tl kt bt) (u : Nat) (hu : u < 8) :
    FldG w (wr.setCell ⟨gb, u, none⟩ (.bool true)) ow om kb lb nb gb i now fl tl kt (fun v => if v = u then true else bt v) := by
  obtain ⟨cs, s1, s2⟩ := h.lim
  obtain ⟨K, k1, k2⟩ := h.kno
  obtain ⟨l1, l2, l3, l4, l5⟩ := h.lts
  have ho := h.own gb (.inr (.inr (.inl rfl)))
  have ha := h.apart
  have hm : Mod (fun k => k = gb) wr (wr.setCell ⟨gb, u, none⟩ (.bool true)) := (Mod.refl _ wr).at u _
  have hb := h.beg.set u (.bool true)
  rw [tabB_set _ _ _ hu] at hb
  exact ⟨h.keep.mod hm (fun k hk e => by subst e; exact hk ho.1), h.fol.mod hm (fun e => by have e' : kb = gb := e; rw [e'] at l5; omega) (fun k hk e => by subst e; exact hk ho.2), h.own, h.apart, ⟨cs, s1, hm.has s2 (by omega)⟩, ⟨K, hm.has k1 (by omega), k2⟩, hb, h.zero, h.one, h.abs, h.now0, h.now1,
    h.mod.trans' hm (fun k hk hl => by have := h.new; omega), h.new⟩

theorem FldG.know {w wr : World} {ow om : Nat → Nat} {kb lb nb gb i : Nat} {now : Int} {fl : Nat → Option (Pla × List Sea)} {tl : Nat → Option (List FEnt)} {kt : Nat → List FEnt} {bt : Nat → Bool} (h : FldG w wr ow om kb lb nb gb i now fl tl kt bt) (u : Nat) (hu : u < 8) (n c : Nat) (hn : n < 21) (hc : c < 4) (l : Int) (kt' : Nat → List FEnt)
    (h1 : ∀ v, v ≠ u → kt' v = kt v) (h2 : ∀ (a b : Nat), tb (kt' u) a b = if a = n ∧ b = c then l else tb (kt u) a b) :
    FldG w (wr.setCell ⟨nb, u * 84 + n * 4 + c, none⟩ (.int .i64 l)) ow om kb lb nb gb i now fl tl kt' bt := by
  obtain ⟨cs, s1, s2⟩ := h.lim
  obtain ⟨K, k1, k2⟩ := h.kno
  obtain ⟨l1, l2, l3, l4, l5⟩ := h.lts
  have ho := h.own nb (.inr (.inl rfl))
  have ha := h.apart
  have hm : Mod (fun k => k = nb) wr (wr.setCell ⟨nb, u * 84 + n * 4 + c, none⟩ (.int .i64 l)) := (Mod.refl _ wr).at _ _
  have hb := k1.set (u * 84 + n * 4 + c) (.int .i64 l)
  rw [tab_set] at hb
  refine ⟨h.keep.mod hm (fun k hk e => by subst e; exact hk ho.1), h.fol.mod hm (fun e => by have e' : kb = nb := e; rw [e'] at l5; omega) (fun k hk e => by subst e; exact hk ho.2), h.own, h.apart, ⟨cs, s1, hm.has s2 (by omega)⟩, ⟨_, hb, fun v hv j hj => ?_⟩, hm.has h.beg (by omega), h.zero, h.one, h.abs, h.now0, h.now1,
    h.mod.trans' hm (fun k hk hl => by have := h.new; omega), h.new⟩
  by_cases e : v = u
  · subst e
    rw [h2, k2 v hv j hj]
    by_cases e2 : j / 4 = n ∧ j % 4 = c
    · rw [if_pos e2, if_pos (by omega)]
    · rw [if_neg e2, if_neg (by omega)]
  · rw [if_neg (by omega), h1 v e, k2 v hv j hj]

/-- What is known of a class of a flight. -/
theorem FldG.cell {w wr : World} {ow om : Nat → Nat} {kb lb nb gb i : Nat} {now : Int} {fl : Nat → Option (Pla × List Sea)} {tl : Nat → Option (List FEnt)} {kt : Nat → List FEnt} {bt : Nat → Bool} (h : FldG w wr ow om kb lb nb gb i now fl tl kt bt) (u : Nat) (hu : u < 8) (n c : Nat) (hn : n < 21) (hc : c < 4) :
    wr.cell? ⟨nb, u * 84 + n * 4 + c, none⟩ = some (.int .i64 (tb (kt u) n c)) := by
  obtain ⟨K, k1, k2⟩ := h.kno
  have := k2 u hu (n * 4 + c) (by omega)
  rw [show (n * 4 + c) / 4 = n by omega, show (n * 4 + c) % 4 = c by omega] at this
  rw [k1.cell, tab_get _ _ _ (by omega), Nat.add_assoc, this]
theorem FldG.froz {w wr : World} {ow om : Nat → Nat} {kb lb nb gb i : Nat} {now : Int} {fl : Nat → Option (Pla × List Sea)} {tl : Nat → Option (List FEnt)} {kt : Nat → List FEnt} {bt : Nat → Bool} (h : FldG w wr ow om kb lb nb gb i now fl tl kt bt) :
    (∀ o, wr.frozen? ⟨nb, o, none⟩ = false) ∧ (∀ o, wr.frozen? ⟨gb, o, none⟩ = false) ∧ nb < wr.heap.size ∧ gb < wr.heap.size := by
  obtain ⟨K, k1, k2⟩ := h.kno
  exact ⟨k1.frozen, h.beg.frozen, k1.lt, h.beg.lt⟩
/-- All that is known of what one follower was told, as one value. -/
theorem FldG.part {w wr : World} {ow om : Nat → Nat} {kb lb nb gb i : Nat} {now : Int} {fl : Nat → Option (Pla × List Sea)} {tl : Nat → Option (List FEnt)} {kt : Nat → List FEnt} {bt : Nat → Bool} (h : FldG w wr ow om kb lb nb gb i now fl tl kt bt) (u : Nat) (hu : u < 8) (hk : ∀ j, j < 84 → tb (kt u) (j / 4 : Nat) (j % 4 : Nat) = leftT fl j) :
    wr.rangeAt nb (u * 84) (tab (leftT fl) 84).toList := by
  obtain ⟨K, k1, k2⟩ := h.kno
  refine k1.range _ _ (fun j v hv => ?_)
  have hj : j < 84 := by
    have := (List.getElem?_eq_some_iff.1 hv).1
    simpa [tab_size] using this
  rw [Array.getElem?_toList, tab_get _ _ _ hj] at hv
  rw [tab_get _ _ _ (by omega), k2 u hu j hj, hk j hj]
  exact hv

theorem flat3 : ∀ (l : List Nw) (j t : Nat) (hj : j < l.length) (ht : t < 3), (l.flatMap nwL)[j * 3 + t]? = (nwL l[j])[t]?
  | x :: l, 0, t, _, ht => by
    rw [List.flatMap_cons, Nat.zero_mul, Nat.zero_add, List.getElem?_append_left (by simpa [nwL] using ht)]
    rfl
  | x :: l, j + 1, t, hj, ht => by
    rw [List.flatMap_cons, List.getElem?_append_right (by simp [nwL]; omega)]
    have := flat3 l j t (by simpa using hj) ht
    rw [show (j + 1) * 3 + t - (nwL x).length = j * 3 + t by simp [nwL]; omega, this]
    rfl

/-- One news, as it lies in memory. -/
theorem news_cells {w : World} {a : Option Addr} {len cap : Nat} {l : List Nw} (h : w.ownsRow 0 78 3 (.slice a len cap) l.length (l.flatMap nwL)) (j : Nat) (hj : j < l.length) :
    ∃ g, a = some ⟨g, 0, none⟩ ∧ w.cell? ⟨g, j * 3, none⟩ = some (.int .i64 l[j].n) ∧ w.cell? ⟨g, j * 3 + 1, none⟩ = some (.int .i64 l[j].c) ∧ w.cell? ⟨g, j * 3 + 2, none⟩ = some (.int .i64 l[j].l) := by
  rcases h.2 with ⟨h1, h2⟩ | ⟨g, cp, cur, hv, hr⟩
  · omega
  · injection hv with e1 e2 e3
    have hc := fun t (ht : t < 3) v (hv : (nwL l[j])[t]? = some v) => h.cells (by rw [e1]; rfl) (j * 3 + t) v (by rw [flat3 l j t hj ht]; exact hv)
    refine ⟨g, e1, ?_, ?_, ?_⟩
    · have := hc 0 (by omega) _ rfl
      rw [Addr.add_mid] at this
      simpa using this
    · have := hc 1 (by omega) _ rfl
      rw [Addr.add_mid, Nat.zero_add] at this
      exact this
    · have := hc 2 (by omega) _ rfl
      rw [Addr.add_mid, Nat.zero_add] at this
      exact this

/-- What is known behind the first j news. -/
def ktj (u : Nat) (es0 : List FEnt) (clock : Nat) (news : List Nw) (kt : Nat → List FEnt) (j : Nat) : Nat → List FEnt := fun v => if v = u then (puts es0 clock (news.take j)).1 else kt v
theorem ktj_zero {u : Nat} {es0 : List FEnt} {clock : Nat} {news : List Nw} {kt : Nat → List FEnt} (h : kt u = es0) : ktj u es0 clock news kt 0 = kt := by
  funext v
  unfold ktj
  by_cases e : v = u
  · rw [if_pos e, e, h]; rfl
  · rw [if_neg e]
theorem take_more {α : Type} (l : List α) (j : Nat) (hj : j < l.length) : l.take (j + 1) = l.take j ++ [l[j]] := by
  rw [List.take_add_one, List.getElem?_eq_getElem hj]
  rfl

theorem FldG.learn {w wr : World} {ow om : Nat → Nat} {kb lb nb gb i clock : Nat} {now most : Int} {es0 : List FEnt} {T : Tel} {fl : Nat → Option (Pla × List Sea)} {tl : Nat → Option (List FEnt)} {kt : Nat → List FEnt} {bt : Nat → Bool} (u j n c : Nat) (hT : TelF most es0 clock fl T)
    (h : FldG w wr ow om kb lb nb gb i now fl tl (ktj u es0 clock T.news kt j) bt) (hu : u < 8) (hj : j < T.news.length) (hn : T.news[j].n = n) (hc : T.news[j].c = c) :
    FldG w (wr.setCell ⟨nb, u * 84 + n * 4 + c, none⟩ (.int .i64 T.news[j].l)) ow om kb lb nb gb i now fl tl (ktj u es0 clock T.news kt (j + 1)) bt ∧
      tb ((ktj u es0 clock T.news kt j) u) n c ≠ T.news[j].l ∧ n < 21 ∧ c < 4 ∧ 1 ≤ n := by
  have hk := hT.key T.news[j] (List.getElem_mem hj)
  rw [hn, hc] at hk
  refine ⟨h.know u hu n c (by omega) (by omega) _ _ (fun v hv => by simp only [ktj, if_neg hv]) (fun a b => ?_), ?_, by omega, by omega, by omega⟩
  · simp only [ktj, if_pos]
    rw [take_more _ _ hj, puts_tb hT.ok (fun x hx => ?_), hn, hc]
    · by_cases e : (a : Int) = n ∧ (b : Int) = c
      · rw [if_pos e, if_pos (by omega)]
      · rw [if_neg e, if_neg (by omega)]
    · have := hT.key x (List.mem_of_mem_take hx)
      exact ⟨by omega, by omega, by omega, by omega⟩
  · simp only [ktj, if_pos]
    have := hT.new j hj
    rw [hn, hc] at this
    exact fun e => this e.symm

/-- Behind all news all that was told is known. -/
theorem ktj_all {u clock : Nat} {most : Int} {es0 : List FEnt} {T : Tel} {fl : Nat → Option (Pla × List Sea)} {tl : Nat → Option (List FEnt)} (hT : TelF most es0 clock fl T) :
    ktj u es0 clock T.news (fun v => (tl v).getD []) T.news.length = fun v => ((fun j => if j = u then some T.es else tl j) v).getD [] := by
  funext v
  unfold ktj
  by_cases e : v = u
  · simp only [if_pos e, List.take_length, Option.getD_some]
    have := hT.isp
    rw [← this]
  · simp only [if_neg e]
theorem bt_all {u : Nat} {es : List FEnt} {tl : Nat → Option (List FEnt)} : (fun v => if v = u then true else (tl v).isSome) = fun v => ((fun j => if j = u then some es else tl j) v).isSome := by
  funext v
  by_cases e : v = u
  · simp only [if_pos e, Option.isSome_some]
  · simp only [if_neg e]
end Go.Proofs.Ythhibagcpjeihaa
