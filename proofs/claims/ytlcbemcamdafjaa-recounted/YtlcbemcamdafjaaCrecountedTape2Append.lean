import Derived.Test.YtlcbemcamdafjaaCrecountedCellsTape
import Derived.Test.YtlcbemcamdafjaaCrecountedBaseModel
/- The tape's methods, continued: a new tape, its room, its fuse, burning, syncing. -/
namespace Go.Proofs.Ytlcbemcamdafjaa
open Go.RowKit
set_option linter.unusedVariables false
set_option linter.unusedSimpArgs false

/-- What burning leaves of a fuse. -/
def burnt (f : Int) : Int := if 0 < f then f - 1 else f

theorem cells_fuse (t : TTape) (n : Int) : t.cells.setIfInBounds 9 (.int .i64 n) = ({ t with fuse := n } : TTape).cells := rfl

theorem TTape.ok.fuse {S : Nat → Prop} {w : World} {b : Nat} {t : TTape} (h : t.ok S w b) (n : Int) : ({ t with fuse := n } : TTape).ok S (w.setCell ⟨b, 9, none⟩ (.int .i64 n)) b := by
  have ne : ∀ (f : TFile), f.ok S w → f.v.ownBlock ≠ some b := fun f hf e => by
    rcases hf.owns.2 with ⟨hv, _⟩ | ⟨g, cap, cur, hv, _, hg, _⟩
    · rw [hv] at e; simp [Value.ownBlock] at e
    · rw [hv] at e; simp [Value.ownBlock] at e; subst e
      exact h.has.ne (T' := 5) hg (by decide) rfl
  have k : ∀ (f : TFile), f.ok S w → f.ok S (w.setCell ⟨b, 9, none⟩ (.int .i64 n)) := fun f hf =>
    ⟨owns_setCell_ne hf.owns (by simpa using ne f hf) _, hf.last, hf.len, hf.bytes, hf.inn⟩
  exact ⟨by have := h.has.set 9 (.int .i64 n); rwa [cells_fuse] at this, h.inn, k _ h.k0, k _ h.k1, k _ h.k2, k _ h.k3, h.a01, h.a02, h.a03, h.a12, h.a13, h.a23⟩

theorem burn_any {S : Nat → Prop} (b : Nat) (t : TTape) (w : World) (h : t.ok S w b) (hf : -4611686018427387904 ≤ t.fuse ∧ t.fuse ≤ 4611686018427387904) :
    Calls Try.prog 48 #[.pointer (some ⟨b, 0, none⟩)] w fun e w' => e = .returned (.bool (decide (t.fuse ≠ 0))) ∧ ({ t with fuse := burnt t.fuse } : TTape).ok S w' b ∧ Mod (· = b) w w' := by
  have hc := h.has.cell
  have hz := h.has.frozen
  have H := hide h
  have e9 : t.cells[9]? = some (.int .i64 t.fuse) := rfl
  have hc9 := hc 9
  rw [e9] at hc9
  clear hc h e9
  obtain ⟨f0, f1, f2, f3, room, f⟩ := t
  simp only at hc9 hf
  simp only
  rcases Int.lt_trichotomy f 0 with hlt | heq | hgt
  · go_enter Try.func48, Try.ntmps48
    go_wp2
    all_goals go_ret
    all_goals exact ⟨by simp; omega, by simpa [burnt, Int.not_lt.2 (Int.le_of_lt hlt)] using unhide H, Mod.refl _ _⟩
  · subst heq
    go_enter Try.func48, Try.ntmps48
    go_wp2
    all_goals go_ret
    all_goals exact ⟨by simp, by simpa [burnt] using unhide H, Mod.refl _ _⟩
  · have hw := wrap_id (f - 1) (by omega) (by omega)
    go_enter Try.func48, Try.ntmps48
    go_wp2
    all_goals go_ret
    all_goals exact ⟨by simp; omega, by simpa [burnt, hgt] using (unhide H).fuse (f - 1), Mod.setCell (S := fun k => k = b) (Mod.refl _ w) (p := ⟨b, 9, none⟩) (.inl rfl) _⟩


def TTape.get (t : TTape) : Nat → TFile
  | 0 => t.f0
  | 1 => t.f1
  | 2 => t.f2
  | _ => t.f3
def TTape.put (t : TTape) (f : TFile) : Nat → TTape
  | 0 => { t with f0 := f }
  | 1 => { t with f1 := f }
  | 2 => { t with f2 := f }
  | _ => { t with f3 := f }

/-- The tape's block, or a file's row: what one file's own work may turn. -/
def Touch (b : Nat) (f : TFile) : Nat → Prop := fun k => k = b ∨ f.v.ownBlock = some k

theorem TFile.ok.ne {S : Nat → Prop} {w : World} {f : TFile} (hf : f.ok S w) {b : Nat} {cs : Array Value} (h : Has w b cs 96) : f.v.ownBlock ≠ some b := fun e => by
  rcases hf.owns.2 with ⟨hv, _⟩ | ⟨g, cap, cur, hv, _, hg, _⟩
  · rw [hv] at e; simp [Value.ownBlock] at e
  · rw [hv] at e; simp [Value.ownBlock] at e; subst e
    exact h.ne (T' := 5) hg (by decide) rfl

/-- Another file's work leaves a file as it is. -/
theorem TFile.ok.other {S : Nat → Prop} {w w' : World} {b : Nat} {f g : TFile} {cs : Array Value} (hf : f.ok S w) (hb : Has w b cs 96) (ha : f.apart g) (hm : Mod (Touch b g) w w') : f.ok S w' :=
  hf.mod hm (fun k hk => by
    rintro (rfl | h)
    · exact hf.ne hb hk
    · exact ha k hk h)

/-- A file is written anew: its row, its bytes, its last. -/
theorem TTape.ok.put {S S' : Nat → Prop} {w w' : World} {b : Nat} {t : TTape} (h : t.ok S w b) (i : Nat) (hi : i < 4) (f : TFile)
    (hm : Mod (Touch b (t.get i)) w w') (hhas : Has w' b (t.put f i).cells 96) (hf : f.ok S' w') (hS : ∀ k, S k → S' k)
    (hst : ∀ k, f.v.ownBlock = some k → (t.get i).v.ownBlock = some k ∨ w.heap.size ≤ k) : (t.put f i).ok S' w' b := by
  have lt : ∀ (g : TFile), g.ok S w → ∀ k, g.v.ownBlock = some k → k < w.heap.size := fun g hg k hk => (hg.owns.lt k hk).2
  have ap : ∀ (g : TFile), g.ok S w → (t.get i).apart g → f.apart g := fun g hg ha k hk hgk => by
    rcases hst k hk with h1 | h1
    · exact ha k h1 hgk
    · have := lt g hg k hgk; omega
  match i, hi with
  | 0, _ =>
    exact ⟨hhas, hS _ h.inn, hf, (h.k1.other h.has h.a01.symm hm).wide hS, (h.k2.other h.has h.a02.symm hm).wide hS, (h.k3.other h.has h.a03.symm hm).wide hS,
      ap _ h.k1 h.a01, ap _ h.k2 h.a02, ap _ h.k3 h.a03, h.a12, h.a13, h.a23⟩
  | 1, _ =>
    exact ⟨hhas, hS _ h.inn, (h.k0.other h.has h.a01 hm).wide hS, hf, (h.k2.other h.has h.a12.symm hm).wide hS, (h.k3.other h.has h.a13.symm hm).wide hS,
      (ap _ h.k0 h.a01.symm).symm, h.a02, h.a03, ap _ h.k2 h.a12, ap _ h.k3 h.a13, h.a23⟩
  | 2, _ =>
    exact ⟨hhas, hS _ h.inn, (h.k0.other h.has h.a02 hm).wide hS, (h.k1.other h.has h.a12 hm).wide hS, hf, (h.k3.other h.has h.a23.symm hm).wide hS,
      h.a01, (ap _ h.k0 h.a02.symm).symm, h.a03, (ap _ h.k1 h.a12.symm).symm, h.a13, ap _ h.k3 h.a23⟩
  | 3, _ =>
    exact ⟨hhas, hS _ h.inn, (h.k0.other h.has h.a03 hm).wide hS, (h.k1.other h.has h.a13 hm).wide hS, (h.k2.other h.has h.a23 hm).wide hS, hf,
      h.a01, h.a02, (ap _ h.k0 h.a03.symm).symm, h.a12, (ap _ h.k1 h.a13.symm).symm, (ap _ h.k2 h.a23.symm).symm⟩
theorem TTape.ok.get {S : Nat → Prop} {w : World} {b : Nat} {t : TTape} (h : t.ok S w b) (i : Nat) (hi : i < 4) : (t.get i).ok S w := by
  match i, hi with
  | 0, _ => exact h.k0
  | 1, _ => exact h.k1
  | 2, _ => exact h.k2
  | 3, _ => exact h.k3

theorem cells_v (t : TTape) (i : Nat) (hi : i < 4) : t.cells[i * 2]? = some (t.get i).v ∧ t.cells[i * 2 + 1]? = some (.int .i64 (t.get i).last) := by
  match i, hi with
  | 0, _ => exact ⟨rfl, rfl⟩
  | 1, _ => exact ⟨rfl, rfl⟩
  | 2, _ => exact ⟨rfl, rfl⟩
  | 3, _ => exact ⟨rfl, rfl⟩
theorem cells_put (t : TTape) (v : Value) (xs : List Value) (l : Nat) (i : Nat) (hi : i < 4) : (t.cells.setIfInBounds (i * 2) v).setIfInBounds (i * 2 + 1) (.int .i64 l) = (t.put ⟨v, xs, l⟩ i).cells := by
  match i, hi with
  | 0, _ => rfl
  | 1, _ => rfl
  | 2, _ => rfl
  | 3, _ => rfl
theorem cells_put_v (t : TTape) (v : Value) (xs : List Value) (i : Nat) (hi : i < 4) : t.cells.setIfInBounds (i * 2) v = (t.put ⟨v, xs, (t.get i).last⟩ i).cells := by
  match i, hi with
  | 0, _ => rfl
  | 1, _ => rfl
  | 2, _ => rfl
  | 3, _ => rfl
theorem cells_put_l (t : TTape) (xs : List Value) (l : Nat) (i : Nat) (hi : i < 4) : t.cells.setIfInBounds (i * 2 + 1) (.int .i64 l) = (t.put ⟨(t.get i).v, xs, l⟩ i).cells := by
  match i, hi with
  | 0, _ => rfl
  | 1, _ => rfl
  | 2, _ => rfl
  | 3, _ => rfl

theorem new_any (n : Int) (w : World) :
    Calls Try.prog 13 #[.int .i64 n] w fun e w' => e = .returned (.pointer (some ⟨w.heap.size, 0, none⟩)) ∧
      w' = w.alloc (.cells (⟨⟨.slice none 0 0, [], 0⟩, ⟨.slice none 0 0, [], 0⟩, ⟨.slice none 0 0, [], 0⟩, ⟨.slice none 0 0, [], 0⟩, n, -1⟩ : TTape).cells 96) := by
  go_enter Try.func13, Try.ntmps13
  go_wp2
  go_ret
  exact ⟨rfl, rfl⟩
theorem fuse_any (b : Nat) (n : Int) (w : World) (cs : Array Value) (h : Has w b cs 96) (h9 : 9 < cs.size) :
    Calls Try.prog 35 #[.pointer (some ⟨b, 0, none⟩), .int .i64 n] w fun e w' => e = .returned (.tuple #[]) ∧ w' = w.setCell ⟨b, 9, none⟩ (.int .i64 n) := by
  have hc := h.cell 9
  have hz := h.frozen 9
  rw [Array.getElem?_eq_getElem h9] at hc
  clear h
  generalize cs[9] = x at hc
  go_enter Try.func35, Try.ntmps35
  go_wp2
  go_end0
  exact ⟨rfl, rfl⟩
theorem room_any (b : Nat) (n : Int) (w : World) (cs : Array Value) (h : Has w b cs 96) (h8 : cs[8]? = some (.int .i64 n)) :
    Calls Try.prog 37 #[.pointer (some ⟨b, 0, none⟩)] w fun e w' => e = .returned (.int .i64 n) ∧ w' = w := by
  have hc := h.cell 8
  rw [h8] at hc
  clear h
  go_enter Try.func37, Try.ntmps37
  go_wp2
  go_ret
  exact ⟨rfl, rfl⟩
end Go.Proofs.Ytlcbemcamdafjaa
/- append, whatever the source, with the word that the new row is the old one or a new one. -/
namespace Go.Proofs.Ytlcbemcamdafjaa
open Go.RowKit
set_option linter.unusedVariables false
set_option linter.unusedSimpArgs false

/-- A slice of m elements whose cells read so. -/
def Reads (w : World) (x : Value) (m : Nat) (news : List Value) : Prop :=
  (x = .slice none 0 0 ∧ m = 0) ∨ ∃ ad c, x = .slice (some ad) m c ∧ ∀ j u, news[j]? = some u → w.cell? (ad.add j) = some u

theorem reads_of_owns {w : World} {base : Nat} {e : TypeId} {size : Nat} {v : Value} {n : Nat} {xs : List Value} (h : w.ownsRow base e size v n xs) : Reads w v n xs := by
  rcases h.2 with ⟨h1, h2⟩ | ⟨g, cap, cur, hv, _, _⟩
  · exact .inl ⟨h1, h2⟩
  · refine .inr ⟨⟨g, 0, none⟩, cap, hv, fun j u hu => ?_⟩
    exact h.cells (by rw [hv]; rfl) j u hu

theorem Reads.mod {S : Nat → Prop} {w w' : World} {x : Value} {m : Nat} {news : List Value} (h : Reads w x m news) (hm : Mod S w w') (hs : ∀ k, x.ownBlock = some k → ¬ S k) : Reads w' x m news := by
  rcases h with h | ⟨ad, c, rfl, hc⟩
  · exact .inl h
  · refine .inr ⟨ad, c, rfl, fun j u hu => ?_⟩
    have h1 := hc j u hu
    have hb : (ad.add j).block = ad.block := by unfold Addr.add; split <;> rfl
    have hlt := World.block_lt_of_cell? w _ h1
    rw [World.cell?_of_block (w := w) (hm.block _ hlt (by rw [hb]; exact hs _ rfl))]
    exact h1

/-- The block of a new row: the old row's, or a new one. -/
def Stays (w : World) (v v' : Value) : Prop := ∀ k, v'.ownBlock = some k → v.ownBlock = some k ∨ w.heap.size ≤ k

theorem run_append_row {P : Program} (w : World) (t ty e : TypeId) (i : TypeInfo) (z : Value) (size bytes : Nat) (ht : P.underlying t = some (.slice e)) (hi : P.info? e = some i) (hz : i.zero = some z)
    (hsize : i.size = size) (hby : i.bytes = bytes) (hzs : z.cells.size = size) (hsz : 0 < size)
    (v : Value) (n : Nat) (xs : List Value) (hown : w.ownsRow 0 e size v n xs)
    (x : Value) (m : Nat) (news : List Value) (hx : Reads w x m news) (hl : news.length = m * size) (h1 : ∀ u ∈ news, u.oneCell' = true)
    (h63 : n + m ≤ maxLen) (hbytes : (n + m) * bytes ≤ 140737488355328) :
    ∃ v' w', (Builtin.append_ #[t, t] ty #[v, x]).run P w = .ok v' w' ∧ w'.ownsRow 0 e size v' (n + m) (xs ++ news) ∧ w.grownBy w' v.ownBlock ∧ Stays w v v' := by
  have hsame : w.grownBy w v.ownBlock := ⟨rfl, rfl, rfl, Nat.le_refl _, fun _ _ _ => rfl⟩
  rcases hx with ⟨rfl, rfl⟩ | ⟨ad, c, rfl, hc⟩
  · obtain rfl : news = [] := List.eq_nil_of_length_eq_zero (by simpa using hl)
    refine ⟨v, w, ?_, by simpa using hown, hsame, fun k hk => .inl hk⟩
    rcases hown.2 with ⟨rfl, rfl⟩ | ⟨g, cap, cur, rfl, _, _, hnc, _⟩
    · simp [Builtin.append_, run_underlying ht, sizeOf, typeInfo, hi, Builtin.lenOf, Builtin.firstCells, loadCells, loadCellsFrom]
    · simp [Builtin.append_, run_underlying ht, sizeOf, typeInfo, hi, Builtin.lenOf, Builtin.firstCells, loadCells, loadCellsFrom, hnc, storeCells]
  · have hown' := hown
    rcases hown.2 with ⟨rfl, rfl⟩ | ⟨g, cap, cur, rfl, _, hg, hnc, hcm, hcs, htake⟩
    · obtain rfl : xs = [] := List.eq_nil_of_length_eq_zero (by simpa using hown.1)
      obtain ⟨v', w', hr, h2, h3, h4⟩ := run_append_own (P := P) w w.heap.size t ty e i z size bytes ht hi hz hsize hby hzs hsz (.slice none 0 0) 0 [] (World.ownsRow_nil _ _ _ _) ad m c news hl hc h1 h63 hbytes (Nat.le_refl _)
      refine ⟨v', w', hr, ⟨h2.1, ?_⟩, h3, fun k hk => .inr (h2.lt k hk).1⟩
      rcases h2.2 with h | ⟨g, cap, cur, hv, _, r⟩
      · exact .inl h
      · exact .inr ⟨g, cap, cur, hv, Nat.zero_le _, r⟩
    · by_cases hroom : n + m ≤ cap
      · subst hsize
        have hfit : n * i.size + news.length ≤ cur.size := by rw [hl, hcs, ← Nat.add_mul]; exact Nat.mul_le_mul_right _ hroom
        have hr := run_append_room (P := P) w t ty e i ht hi g n cap cur hg ad m c news hl hc h1 hroom hfit
        obtain ⟨v', w', hr2, h2, h3, _⟩ := run_append_own (P := P) w 0 t ty e i z i.size bytes ht hi hz rfl hby hzs hsz _ n xs hown ad m c news hl hc h1 h63 hbytes (Nat.zero_le _)
        rw [hr] at hr2
        injection hr2 with e1 e2
        subst e1
        subst e2
        exact ⟨_, _, hr, h2, h3, fun k hk => .inl hk⟩
      · obtain ⟨v', w', hr, h2, h3⟩ := run_append_arg_grows (P := P) w t ty e i z size bytes ht hi hz hsize hby hzs hsz ⟨g, 0, none⟩ n cap xs hown.1 (hown.cells rfl) ad m c news hl hc (by omega) h63 hbytes
        refine ⟨v', w', hr, ⟨h2.1, ?_⟩, ⟨h3.os, h3.tape, h3.output, h3.size, fun k hk _ => h3.block k hk (by simp)⟩, fun k hk => .inr (h2.lt k hk).1⟩
        rcases h2.2 with h | ⟨g, cap, cur, hv, _, r⟩
        · exact .inl h
        · exact .inr ⟨g, cap, cur, hv, Nat.zero_le _, r⟩

section
variable {P : Program} {w : World}
theorem wp_append_row {o : Oper} {a : Act} {K : Act → World → Prop} {Q : Exit → Act → World → Prop} (s y : Operand) (t : TypeId)
    (ho : o.op = .call { callee := .builtin .append, args := #[s, y], argTypes := #[t, t] })
    (e : TypeId) (i : TypeInfo) (z : Value) (size bytes : Nat) (ht : P.underlying t = some (.slice e)) (hi : P.info? e = some i) (hz : i.zero = some z)
    (hsize : i.size = size) (hby : i.bytes = bytes) (hzs : z.cells.size = size) (hsz : 0 < size)
    (v : Value) (n : Nat) (xs : List Value) (hs : a.eval s = v) (hown : w.ownsRow 0 e size v n xs)
    (x : Value) (m : Nat) (news : List Value) (hx : a.eval y = x) (hr : Reads w x m news) (hl : news.length = m * size) (h1 : ∀ u ∈ news, u.oneCell' = true)
    (h63 : n + m ≤ maxLen) (hbytes : (n + m) * bytes ≤ 140737488355328)
    (h : ∀ v' w', w'.ownsRow 0 e size v' (n + m) (xs ++ news) → w.grownBy w' v.ownBlock → Stays w v v' → K (a.put o.dst v') w') : o.wp P a w K Q := by
  obtain ⟨v', w', hr, h2, h3, h4⟩ := run_append_row (P := P) w t o.type e i z size bytes ht hi hz hsize hby hzs hsz v n xs hown x m news hr hl h1 h63 hbytes
  unfold Oper.wp execOp
  simp only [ho, resolve, invoke, builtin, Sem.run_bind, Sem.run_pure, Result.andThen_ok, List.map_toArray, List.map_cons, List.map_nil, hs, hx, hr]
  exact h v' w' h2 h3 h4

theorem wpList_append_row {ops : Array Oper} {rest : List Oper} {o : Oper} {a : Act} {Q : Exit → Act → World → Prop} (hgd : o.guard = none) (s y : Operand) (t : TypeId)
    (ho : o.op = .call { callee := .builtin .append, args := #[s, y], argTypes := #[t, t] })
    (e : TypeId) (i : TypeInfo) (z : Value) (size bytes : Nat) (ht : P.underlying t = some (.slice e)) (hi : P.info? e = some i) (hz : i.zero = some z)
    (hsize : i.size = size) (hby : i.bytes = bytes) (hzs : z.cells.size = size) (hsz : 0 < size)
    (v : Value) (n : Nat) (xs : List Value) (hs : a.eval s = v) (hown : w.ownsRow 0 e size v n xs)
    (x : Value) (m : Nat) (news : List Value) (hx : a.eval y = x) (hr : Reads w x m news) (hl : news.length = m * size) (h1 : ∀ u ∈ news, u.oneCell' = true)
    (h63 : n + m ≤ maxLen) (hbytes : (n + m) * bytes ≤ 140737488355328)
    (h : ∀ v' w', w'.ownsRow 0 e size v' (n + m) (xs ++ news) → w.grownBy w' v.ownBlock → Stays w v v' → wpList P ops Q rest (a.put o.dst v') w') : wpList P ops Q (o :: rest) a w :=
  wpList_plain hgd fun _ hK => wp_append_row s y t ho e i z size bytes ht hi hz hsize hby hzs hsz v n xs hs hown x m news hx hr hl h1 h63 hbytes fun v' w' h2 h3 h4 => hK _ _ (h v' w' h2 h3 h4)

theorem step_append_row {ops : Array Oper} {o : Oper} {a : Act} {K : Act → World → Prop} {Q : Exit → Act → World → Prop} {E : Prop} (hgd : o.guard = none) (s y : Operand) (t : TypeId)
    (ho : o.op = .call { callee := .builtin .append, args := #[s, y], argTypes := #[t, t] })
    (e : TypeId) (i : TypeInfo) (z : Value) (size bytes : Nat) (ht : P.underlying t = some (.slice e)) (hi : P.info? e = some i) (hz : i.zero = some z)
    (hsize : i.size = size) (hby : i.bytes = bytes) (hzs : z.cells.size = size) (hsz : 0 < size)
    (v : Value) (n : Nat) (xs : List Value) (hs : a.eval s = v) (hown : w.ownsRow 0 e size v n xs)
    (x : Value) (m : Nat) (news : List Value) (hx : a.eval y = x) (hr : Reads w x m news) (hl : news.length = m * size) (h1 : ∀ u ∈ news, u.oneCell' = true)
    (h63 : n + m ≤ maxLen) (hbytes : (n + m) * bytes ≤ 140737488355328)
    (h : ∀ v' w', w'.ownsRow 0 e size v' (n + m) (xs ++ news) → w.grownBy w' v.ownBlock → Stays w v v' → K (a.put o.dst v') w') :
    if Region.wanted o (yielded ops a.tmps) = true then Oper.wp P o a w K Q else E := by
  have hw : Region.wanted o (yielded ops a.tmps) = true := by simp [Region.wanted, hgd]
  rw [if_pos hw]
  exact wp_append_row s y t ho e i z size bytes ht hi hz hsize hby hzs hsz v n xs hs hown x m news hx hr hl h1 h63 hbytes h
end
end Go.Proofs.Ytlcbemcamdafjaa
