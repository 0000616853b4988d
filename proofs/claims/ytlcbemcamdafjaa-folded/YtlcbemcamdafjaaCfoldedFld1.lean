import Derived.Test.YtlcbemcamdafjaaCfoldedDoes2Fol8
/- Who folds all bulletins: the model. -/
namespace Go.Proofs.Ytlcbemcamdafjaa
open Go.RowKit
open M
set_option linter.unusedVariables false
set_option linter.unusedSimpArgs false

/-- The entries behind some news. -/
def puts (es : List FEnt) (clock : Nat) (l : List Nw) : List FEnt × Nat := l.foldl (fun s x => putF s.1 s.2 x.n x.c x.l) (es, clock)
theorem puts_snoc (es : List FEnt) (clock : Nat) (l : List Nw) (x : Nw) : puts es clock (l ++ [x]) = putF (puts es clock l).1 (puts es clock l).2 x.n x.c x.l := by
  unfold puts
  rw [List.foldl_append]
  rfl
theorem puts_ok {es : List FEnt} {clock : Nat} (h : FolOk es) : ∀ (l : List Nw), (∀ x ∈ l, x.ok) → FolOk (puts es clock l).1 := by
  intro l
  induction l generalizing es clock with
  | nil => intro _; exact h
  | cons x l ih =>
    intro hx
    have h1 := hx x (by simp)
    exact ih (h.put clock x.n x.c x.l ⟨h1.1, by have := h1.2.1; omega⟩ ⟨h1.2.2.1, by have := h1.2.2.2; omega⟩) (fun y hy => hx y (by simp [hy]))
theorem puts_tb {es : List FEnt} {clock : Nat} (h : FolOk es) {l : List Nw} (hl : ∀ x ∈ l, x.ok) (x : Nw) (n c : Int) : tb (puts es clock (l ++ [x])).1 n c = if n = x.n ∧ c = x.c then x.l else tb (puts es clock l).1 n c := by
  rw [puts_snoc]
  unfold tb
  rw [lookF_put _ (puts_ok h l hl)]
  by_cases e : n = x.n ∧ c = x.c
  · rw [if_pos e, if_pos e]; rfl
  · rw [if_neg e, if_neg e]

/-- What holds of a bulletin at every moment of its making. -/
structure TelQ (most : Int) (es : List FEnt) (clock : Nat) (L : List Nw) (s : Tel) : Prop where
  isp : (s.es, s.clock) = puts es clock s.news
  new : ∀ j (hj : j < s.news.length), s.news[j].l ≠ tb (puts es clock (s.news.take j)).1 s.news[j].n s.news[j].c
  mem : ∀ x ∈ s.news, x ∈ L
  more : s.more = true → (s.news.length : Int) = most

theorem TelQ.step {most : Int} {es : List FEnt} {clock : Nat} {L : List Nw} {s : Tel} (h : TelQ most es clock L s) (x : Nw) (hx : x ∈ L) (hl : (s.news.length : Int) ≤ most) : TelQ most es clock L (tellStep most s x) := by
  unfold tellStep
  by_cases h1 : x.l = tb s.es x.n x.c
  · rw [if_pos h1]; exact h
  rw [if_neg h1]
  by_cases h2 : (s.news.length : Int) = most
  · rw [if_pos h2]; exact ⟨h.isp, h.new, h.mem, fun _ => h2⟩
  rw [if_neg h2]
  have he := h.isp
  have e1 : s.es = (puts es clock s.news).1 := by rw [← he]
  have e2 : s.clock = (puts es clock s.news).2 := by rw [← he]
  refine ⟨?_, fun j hj => ?_, fun y hy => ?_, fun hm => ?_⟩
  · simp only
    rw [puts_snoc, ← e1, ← e2]
  · simp only at hj ⊢
    by_cases e : j < s.news.length
    · have g : (s.news ++ [x])[j] = s.news[j] := List.getElem_append_left e
      rw [g, List.take_append_of_le_length (by omega)]
      exact h.new j e
    · have : j = s.news.length := by simp at hj; omega
      subst this
      have g : (s.news ++ [x])[s.news.length]'(by simp) = x := by simp
      rw [g, List.take_left', ← e1]
      · exact h1
      · rfl
  · rcases List.mem_append.1 hy with hy | hy
    · exact h.mem y hy
    · simp at hy; subst hy; exact hx
  · have := h.more hm
    exact absurd this h2

theorem telQ_all {most : Int} {es : List FEnt} {clock : Nat} {L : List Nw} : ∀ (l : List Nw) (s : Tel), TelQ most es clock L s → (s.news.length : Int) ≤ most → (∀ x ∈ l, x ∈ L) → TelQ most es clock L (tells most s l)
  | [], s, h, _, _ => h
  | x :: l, s, h, hl, hm => telQ_all l (tellStep most s x) (h.step x (hm x (by simp)) hl) (tellStep_len hl) (fun y hy => hm y (by simp [hy]))

theorem more_step {most : Int} {s : Tel} {x : Nw} (h : s.more = true) : (tellStep most s x).more = true := by
  unfold tellStep
  split
  · exact h
  · split
    · rfl
    · exact h
theorem more_tells {most : Int} : ∀ (l : List Nw) (s : Tel), s.more = true → (tells most s l).more = true
  | [], s, h => h
  | x :: l, s, h => more_tells l (tellStep most s x) (more_step h)

def Apart (x y : Nw) : Prop := ¬ (x.n = y.n ∧ x.c = y.c)

/-- When there are no more all is known. -/
theorem tells_all {most : Int} : ∀ (l : List Nw) (s : Tel), FolOk s.es → (∀ x ∈ l, x.ok) → l.Pairwise Apart → (tells most s l).more = false → ∀ x ∈ l, tb (tells most s l).es x.n x.c = x.l
  | [], s, _, _, _, _, x, hx => by simp at hx
  | y :: l, s, hs, hl, hp, hm, x, hx => by
    have hp2 := List.pairwise_cons.1 hp
    have hs' : FolOk (tellStep most s y).es := tellStep_ok hs (hl y (by simp))
    have hm' : (tells most (tellStep most s y) l).more = false := hm
    rcases List.mem_cons.1 hx with rfl | hx
    · show tb (tells most (tellStep most s x) l).es x.n x.c = x.l
      rw [tells_tb x.n x.c l _ hs' (fun z hz => hl z (by simp [hz])) (fun z hz => hp2.1 z hz)]
      unfold tellStep at hm' ⊢
      by_cases h1 : x.l = tb s.es x.n x.c
      · rw [if_pos h1]; exact h1.symm
      rw [if_neg h1] at hm' ⊢
      by_cases h2 : (s.news.length : Int) = most
      · rw [if_pos h2] at hm'
        rw [more_tells l _ rfl] at hm'
        cases hm'
      · rw [if_neg h2]
        simp only [tb]
        rw [lookF_put _ hs, if_pos ⟨rfl, rfl⟩]
        rfl
    · exact tells_all l (tellStep most s y) hs' (fun z hz => hl z (by simp [hz])) hp2.2 hm' x hx

/-- How many news there are. -/
def diffs (es : List FEnt) (L : List Nw) : Nat := L.countP fun x => decide (x.l ≠ tb es x.n x.c)

theorem countP_less {α : Type} {p q : α → Bool} : ∀ (l : List α), (∀ y ∈ l, q y = true → p y = true) → (∃ x ∈ l, p x = true ∧ q x = false) → l.countP q < l.countP p
  | [], _, ⟨x, hx, _⟩ => by simp at hx
  | y :: l, h, ⟨x, hx, h1, h2⟩ => by
    have hle : l.countP q ≤ l.countP p := List.countP_mono_left (fun z hz => h z (by simp [hz]))
    rw [List.countP_cons, List.countP_cons]
    rcases List.mem_cons.1 hx with rfl | hx
    · rw [h1, h2]
      simp
      omega
    · have := countP_less l (fun z hz => h z (by simp [hz])) ⟨x, hx, h1, h2⟩
      by_cases hq : q y = true
      · rw [hq, h y (by simp) hq]; simp; omega
      · simp [hq]; omega

theorem diffs_step {most : Int} {s : Tel} {L : List Nw} (hs : FolOk s.es) (hp : L.Pairwise Apart) {x : Nw} (hx : x ∈ L) :
    diffs (tellStep most s x).es L + (tellStep most s x).news.length ≤ diffs s.es L + s.news.length := by
  unfold tellStep
  by_cases h1 : x.l = tb s.es x.n x.c
  · rw [if_pos h1]; exact Nat.le_refl _
  rw [if_neg h1]
  by_cases h2 : (s.news.length : Int) = most
  · rw [if_pos h2]; exact Nat.le_refl _
  rw [if_neg h2]
  simp only [List.length_append, List.length_cons, List.length_nil]
  have : diffs (putF s.es s.clock x.n x.c x.l).1 L < diffs s.es L := by
    unfold diffs
    have ht : ∀ y : Nw, tb (putF s.es s.clock x.n x.c x.l).1 y.n y.c = if y.n = x.n ∧ y.c = x.c then x.l else tb s.es y.n y.c := fun y => by
      unfold tb
      rw [lookF_put _ hs]
      by_cases e : y.n = x.n ∧ y.c = x.c
      · rw [if_pos e, if_pos e]; rfl
      · rw [if_neg e, if_neg e]
    refine countP_less L (fun y hy hq => ?_) ⟨x, hx, by simpa using h1, by simp [ht]⟩
    rw [ht] at hq
    by_cases e : y.n = x.n ∧ y.c = x.c
    · rw [if_pos e] at hq
      have hyx : y = x := by
        by_cases e2 : y = x
        · exact e2
        · exfalso
          obtain ⟨i, hi, rfl⟩ := List.getElem_of_mem hy
          obtain ⟨j, hj, rfl⟩ := List.getElem_of_mem hx
          have hpg := List.pairwise_iff_getElem.1 hp
          rcases Nat.lt_trichotomy i j with h | h | h
          · exact hpg i j hi hj h e
          · subst h; exact e2 rfl
          · exact hpg j i hj hi h ⟨e.1.symm, e.2.symm⟩
      rw [hyx] at hq
      simp at hq
    · rw [if_neg e] at hq; exact hq
  omega
theorem diffs_tells {most : Int} {L : List Nw} (hp : L.Pairwise Apart) (hok : ∀ x ∈ L, x.ok) : ∀ (l : List Nw) (s : Tel), FolOk s.es → (∀ x ∈ l, x ∈ L) → diffs (tells most s l).es L + (tells most s l).news.length ≤ diffs s.es L + s.news.length
  | [], s, _, _ => Nat.le_refl _
  | x :: l, s, hs, hl => by
    have h1 := diffs_step (most := most) hs hp (hl x (by simp))
    have h2 := diffs_tells (most := most) hp hok l (tellStep most s x) (tellStep_ok hs (hok x (hl x (by simp)))) (fun y hy => hl y (by simp [hy]))
    have h3 : tells most s (x :: l) = tells most (tellStep most s x) l := rfl
    rw [h3]
    omega

theorem mem_itemsF {fl : Nat → Option (Pla × List Sea)} {n : Nat} {x : Nw} (h : x ∈ itemsF fl n) : ∃ y c, fl n = some y ∧ c < 4 ∧ x = ⟨n, (c : Nat), lv y c⟩ := by
  unfold itemsF at h
  cases hf : fl n with
  | none => rw [hf] at h; simp at h
  | some y =>
    rw [hf] at h
    simp only [items] at h
    obtain ⟨c, hc, rfl⟩ := List.mem_map.1 h
    have := List.mem_range.1 hc
    refine ⟨y, c, rfl, this, ?_⟩
    have : c = 0 ∨ c = 1 ∨ c = 2 ∨ c = 3 := by omega
    rcases this with rfl | rfl | rfl | rfl <;> rfl
theorem mem_itemsF_of {fl : Nat → Option (Pla × List Sea)} {n c : Nat} {y : Pla × List Sea} (hf : fl n = some y) (hc : c < 4) : (⟨n, (c : Nat), lv y c⟩ : Nw) ∈ itemsF fl n := by
  unfold itemsF
  rw [hf]
  simp only [items]
  refine List.mem_map.2 ⟨c, List.mem_range.2 hc, ?_⟩
  have : c = 0 ∨ c = 1 ∨ c = 2 ∨ c = 3 := by omega
  rcases this with rfl | rfl | rfl | rfl <;> rfl
theorem itemsF_apart (fl : Nat → Option (Pla × List Sea)) (n : Nat) : (itemsF fl n).Pairwise Apart := by
  unfold itemsF
  cases fl n with
  | none => exact List.Pairwise.nil
  | some y =>
    show (items n _ _ _ _ 4).Pairwise Apart
    unfold items
    refine List.pairwise_map.2 (List.Pairwise.imp (fun {a b} (h : a < b) => ?_) List.pairwise_lt_range)
    unfold Apart
    simp only
    omega
theorem itemsK_apart (fl : Nat → Option (Pla × List Sea)) : ∀ k, (itemsK fl k).Pairwise Apart
  | 0 => List.Pairwise.nil
  | k + 1 => by
    rw [itemsK_succ]
    refine List.pairwise_append.2 ⟨itemsK_apart fl k, itemsF_apart fl k, fun x hx y hy => ?_⟩
    unfold itemsK at hx
    obtain ⟨j, hj, hx⟩ := List.mem_flatMap.1 hx
    have := List.mem_range.1 hj
    obtain ⟨_, _, _, _, rfl⟩ := mem_itemsF hx
    obtain ⟨_, _, _, _, rfl⟩ := mem_itemsF hy
    unfold Apart
    simp only
    omega
theorem mem_itemsK {fl : Nat → Option (Pla × List Sea)} {k : Nat} {x : Nw} (h : x ∈ itemsK fl k) : ∃ n : Nat, ∃ y, ∃ c : Nat, n < k ∧ fl n = some y ∧ c < 4 ∧ x = ⟨n, c, lv y c⟩ := by
  unfold itemsK at h
  obtain ⟨n, hn, h⟩ := List.mem_flatMap.1 h
  obtain ⟨y, c, h1, h2, h3⟩ := mem_itemsF h
  exact ⟨n, y, c, List.mem_range.1 hn, h1, h2, h3⟩
theorem mem_itemsK_of {fl : Nat → Option (Pla × List Sea)} {k n c : Nat} {y : Pla × List Sea} (hn : n < k) (hf : fl n = some y) (hc : c < 4) : (⟨n, (c : Nat), lv y c⟩ : Nw) ∈ itemsK fl k :=
  List.mem_flatMap.2 ⟨n, List.mem_range.2 hn, mem_itemsF_of hf hc⟩
theorem itemsK_ok (fl : Nat → Option (Pla × List Sea)) : ∀ x ∈ itemsK fl 21, x.ok := fun x hx => by
  obtain ⟨n, y, c, h1, _, h2, rfl⟩ := mem_itemsK hx
  refine ⟨?_, ?_, ?_, ?_⟩ <;> (simp only; omega)

/-- Of flights that there are not nothing is told. -/
theorem tells_absent {most : Int} {fl : Nat → Option (Pla × List Sea)} {s : Tel} (hs : FolOk s.es) (n : Nat) (hf : fl n = none) (c : Int) : tb (tells most s (itemsK fl 21)).es n c = tb s.es n c :=
  tells_tb n c _ s hs (itemsK_ok fl) (fun x hx h => by
    obtain ⟨m, y, d, _, h1, _, rfl⟩ := mem_itemsK hx
    simp only at h
    have : m = n := by omega
    rw [this, hf] at h1
    cases h1)

/-- When there are no more, and nothing was told of flights that there are not, what was told is what is left. -/
theorem tells_left {most : Int} {fl : Nat → Option (Pla × List Sea)} {s : Tel} (hs : FolOk s.es) (h0 : fl 0 = none) (habs : ∀ n, n < 21 → fl n = none → ∀ c : Nat, c < 4 → tb s.es n c = -1) (hm : (tells most s (itemsK fl 21)).more = false) (j : Nat) (hj : j < 84) :
    tb (tells most s (itemsK fl 21)).es (j / 4 : Nat) (j % 4 : Nat) = leftT fl j := by
  unfold leftT
  cases hf : fl (j / 4) with
  | none =>
    rw [tells_absent hs _ hf, habs _ (by omega) hf _ (by omega)]
    have : leftK fl (j / 4 : Nat) (j % 4 : Nat) = (0, 2) := by
      unfold leftK
      split
      · rfl
      · rw [Int.toNat_natCast, hf]
    rw [this]
    rfl
  | some y =>
    have hne : j / 4 ≠ 0 := fun e => by rw [e, h0] at hf; cases hf
    have h1 := tells_all (most := most) (itemsK fl 21) s hs (itemsK_ok fl) (itemsK_apart fl 21) hm _ (mem_itemsK_of (n := j / 4) (c := j % 4) (by omega) hf (by omega))
    simp only at h1
    rw [h1]
    have : leftK fl (j / 4 : Nat) (j % 4 : Nat) = (lv y (j % 4), 0) := by
      unfold leftK
      rw [if_neg (by omega), Int.toNat_natCast, hf]
      simp only
      rw [if_neg (by omega), Int.toNat_natCast]
      have : j % 4 = 0 ∨ j % 4 = 1 ∨ j % 4 = 2 ∨ j % 4 = 3 := by omega
      rcases this with e | e | e | e <;> rw [e] <;> rfl
    rw [this]
    rfl
end Go.Proofs.Ytlcbemcamdafjaa
