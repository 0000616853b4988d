import Derived.Test.YtlcbemcamdafjaaCfoldedFMapSeat
import Derived.Test.YtlcbemcamdafjaaCfoldedReckonPut
import Derived.Handy
import Derived.Test.YtlcbemcamdafjaaCfoldedBaseMaps
/- What a follower was told of a flight. -/
namespace Go.Proofs.Ytlcbemcamdafjaa
open Go.RowKit
open Go.ChangeMaps (setBlock)
open M
set_option linter.unusedVariables false
set_option linter.unusedSimpArgs false
set_option maxRecDepth 100000
set_option maxHeartbeats 2000000
attribute [local go_sem] idx40_0 idx40_1 idx40_2 idx40_3

theorem mod_cell {w w' : World} (h : Mod No w w') {a : Addr} {v : Value} (hc : w.cell? a = some v) : w'.cell? a = some v := by
  have hlt := World.block_lt_of_cell? w _ hc
  rw [World.cell?_of_block (w := w) (h.block _ hlt (fun x => x))]
  exact hc
theorem mod_fol {S : Nat → Prop} {w w' : World} (h : Mod S w w') {m : Nat} {es : List FEnt} {clock : Nat} (hm : w.heap[m]? = some (folObj es clock)) (hs : ¬ S m) : w'.heap[m]? = some (folObj es clock) := by
  rw [h.block m (Array.getElem?_eq_some_iff.1 hm).1 hs]; exact hm

/-- What was told last; -1: nothing. -/
def tb (es : List FEnt) (n c : Int) : Int := (lookF es n c).getD (-1)

theorem wasTold_walk (fb fo m n clock : Nat) (es : List FEnt) (w : World) (hn : n ≤ 20) (hc : w.cell? ⟨fb, fo, none⟩ = some (.map (some m))) (hm : w.heap[m]? = some (folObj es clock)) (hl : FolOk es) :
    Calls Try.prog 71 #[.pointer (some ⟨fb, fo, none⟩), .int .i64 n] w fun e w' => e = .returned (.agg #[.int .i64 (tb es n 0), .int .i64 (tb es n 1), .int .i64 (tb es n 2), .int .i64 (tb es n 3)]) ∧ Mod No w w' := by
  have HL := hide fun (W : World) (hW : Mod No w W) (k : Int) (hk : 0 ≤ k ∧ k < 4) => (show (Instr.lookup 103 (.map (some m)) (.agg #[.int .i64 n, .int .i64 k]) true).run Try.prog W = .ok (toldV (lookF es n k)) W from run_lookupF W m es clock (mod_fol hW hm (fun x => x)) hl n k (by omega) (by omega))
  have HC := hide hc
  clear hc hm
  go_enter Try.func71, Try.ntmps71
  go_wp2_with fail
  go_loopw [9] (fun i wr => Hid (Mod No w wr) ∧ Hid (Has wr w.heap.size #[.int .i64 0, .int .i64 0, .int .i64 0, .int .i64 0] 33) ∧
      ((i = .int .i64 0 ∧ Hid (Has wr (w.heap.size + 1) #[.int .i64 0, .int .i64 0, .int .i64 0, .int .i64 0] 33)) ∨
       (i = .int .i64 1 ∧ Hid (Has wr (w.heap.size + 1) #[.int .i64 (tb es n 0), .int .i64 0, .int .i64 0, .int .i64 0] 33)) ∨
       (i = .int .i64 2 ∧ Hid (Has wr (w.heap.size + 1) #[.int .i64 (tb es n 0), .int .i64 (tb es n 1), .int .i64 0, .int .i64 0] 33)) ∨
       (i = .int .i64 3 ∧ Hid (Has wr (w.heap.size + 1) #[.int .i64 (tb es n 0), .int .i64 (tb es n 1), .int .i64 (tb es n 2), .int .i64 0] 33)) ∨
       (i = .int .i64 4 ∧ Hid (Has wr (w.heap.size + 1) #[.int .i64 (tb es n 0), .int .i64 (tb es n 1), .int .i64 (tb es n 2), .int .i64 (tb es n 3)] 33)))) (fun i _ => 4 - (intOf i).toNat)
  case atStart =>
    refine ⟨((Mod.refl No w).alloc _).alloc _, (Has.new w _ _).alloc _, .inl ⟨rfl, hide ?_⟩⟩
    have := Has.new (w.alloc (.cells #[.int .i64 0, .int .i64 0, .int .i64 0, .int .i64 0] 33)) #[.int .i64 0, .int .i64 0, .int .i64 0, .int .i64 0] 33
    simpa using this
  case round =>
    obtain ⟨hm, h0, hr⟩ := hrel
    have hz0 := (unhide h0).frozen
    have hc0 := (unhide h0).cell
    have hl0 := (unhide h0).lt
    have hcf := mod_cell (unhide hm) (unhide HC)
    have L0 := (unhide HL) wr (unhide hm) 0 (by omega)
    have L1 := (unhide HL) wr (unhide hm) 1 (by omega)
    have L2 := (unhide HL) wr (unhide hm) 2 (by omega)
    have L3 := (unhide HL) wr (unhide hm) 3 (by omega)
    have E0 : tb es n 0 = (lookF es n 0).getD (-1) := rfl
    have E1 : tb es n 1 = (lookF es n 1).getD (-1) := rfl
    have E2 : tb es n 2 = (lookF es n 2).getD (-1) := rfl
    have E3 : tb es n 3 = (lookF es n 3).getD (-1) := rfl
    generalize tb es n 0 = t0 at *
    generalize tb es n 1 = t1 at *
    generalize tb es n 2 = t2 at *
    generalize tb es n 3 = t3 at *
    rcases hr with ⟨rfl, hr⟩ | ⟨rfl, hr⟩ | ⟨rfl, hr⟩ | ⟨rfl, hr⟩ | ⟨rfl, hr⟩
    case inr.inr.inr.inr =>
      have hc1 := (unhide hr).cell
      have hl1 := (unhide hr).lt
      have d0 : wr.cell? ⟨w.heap.size, 0, none⟩ = some (.int .i64 0) := hc0 0
      have d1 : wr.cell? ⟨w.heap.size, 1, none⟩ = some (.int .i64 0) := hc0 1
      have d2 : wr.cell? ⟨w.heap.size, 2, none⟩ = some (.int .i64 0) := hc0 2
      have d3 : wr.cell? ⟨w.heap.size, 3, none⟩ = some (.int .i64 0) := hc0 3
      go_wp2
      refine bodyPost_ret (by simp [results, Try.results71, go_sem, d0, d1, d2, d3]; try rfl) rfl ?_
      exact ⟨rfl, by repeat' (first | with_reducible exact unhide hm | refine Mod.setCell ?_ (Or.inr (Nat.le_refl _)) _)⟩
    case' inl => cases hx : lookF es n 0
    case' inr.inl => cases hx : lookF es n 1
    case' inr.inr.inl => cases hx : lookF es n 2
    case' inr.inr.inr.inl => cases hx : lookF es n 3
    all_goals
      have hc1 := (unhide hr).cell
      have hl1 := (unhide hr).lt
      have hz1 := (unhide hr).frozen
      simp only [hx, toldV, Option.getD_none, Option.getD_some] at L0 L1 L2 L3 E0 E1 E2 E3
      go_wp2
      go_roundw
      · have s0 := (unhide hr).set 0 (.int .i64 t0)
        have s1 := (unhide hr).set 1 (.int .i64 t1)
        have s2 := (unhide hr).set 2 (.int .i64 t2)
        have s3 := (unhide hr).set 3 (.int .i64 t3)
        refine ⟨(unhide hm).setCell (.inr (Nat.le_succ _)) _, (unhide h0).set_ne (by simp) _, ?_⟩
        first
          | (refine .inr (.inl ⟨rfl, ?_⟩); rw [← E0]; exact s0)
          | (refine .inr (.inr (.inl ⟨rfl, ?_⟩)); rw [← E1]; exact s1)
          | (refine .inr (.inr (.inr (.inl ⟨rfl, ?_⟩))); rw [← E2]; exact s2)
          | (refine .inr (.inr (.inr (.inr ⟨rfl, ?_⟩))); rw [← E3]; exact s3)
      · simp [intOf]
end Go.Proofs.Ytlcbemcamdafjaa
/- append, whatever the source, with the word that the new row is the old one or a new one. -/
namespace Go.Proofs.Ytlcbemcamdafjaa
open Go.RowKit
set_option linter.unusedVariables false
set_option linter.unusedSimpArgs false

/-- A slice of m elements whose cells read so. -/
def Reads (w : World) (x : Value) (m : Nat) (news : List Value) : Prop :=
  (x = .slice none 0 0 ∧ m = 0) ∨ ∃ ad c, x = .slice (some ad) m c ∧ ∀ j u, news[j]? = some u → w.cell? (ad.add j) = some u

theorem reads_of_owns {w : World} {base : Nat} {e : TypeId} {size : Nat} {v : Value} {n : Nat} {xs : List Value} (h : w.ownsRow base e size v n xs) : Reads w v n xs := by
  rcases h.2 with ⟨h1, h2⟩ | ⟨g, cap, cur, hv, _, _⟩
  · exact .inl ⟨h1, h2⟩
  · refine .inr ⟨⟨g, 0, none⟩, cap, hv, fun j u hu => ?_⟩
    exact h.cells (by rw [hv]; rfl) j u hu

theorem Reads.mod {S : Nat → Prop} {w w' : World} {x : Value} {m : Nat} {news : List Value} (h : Reads w x m news) (hm : Mod S w w') (hs : ∀ k, x.ownBlock = some k → ¬ S k) : Reads w' x m news := by
  rcases h with h | ⟨ad, c, rfl, hc⟩
  · exact .inl h
  · refine .inr ⟨ad, c, rfl, fun j u hu => ?_⟩
    have h1 := hc j u hu
    have hb : (ad.add j).block = ad.block := by unfold Addr.add; split <;> rfl
    have hlt := World.block_lt_of_cell? w _ h1
    rw [World.cell?_of_block (w := w) (hm.block _ hlt (by rw [hb]; exact hs _ rfl))]
    exact h1

/-- The block of a new row: the old row's, or a new one. -/
def Stays (w : World) (v v' : Value) : Prop := ∀ k, v'.ownBlock = some k → v.ownBlock = some k ∨ w.heap.size ≤ k

theorem run_append_row {P : Program} (w : World) (t ty e : TypeId) (i : TypeInfo) (z : Value) (size bytes : Nat) (ht : P.underlying t = some (.slice e)) (hi : P.info? e = some i) (hz : i.zero = some z)
    (hsize : i.size = size) (hby : i.bytes = bytes) (hzs : z.cells.size = size) (hsz : 0 < size)
    (v : Value) (n : Nat) (xs : List Value) (hown : w.ownsRow 0 e size v n xs)
    (x : Value) (m : Nat) (news : List Value) (hx : Reads w x m news) (hl : news.length = m * size) (h1 : ∀ u ∈ news, u.oneCell' = true)
    (h63 : n + m ≤ maxLen) (hbytes : (n + m) * bytes ≤ 140737488355328) :
    ∃ v' w', (Builtin.append_ #[t, t] ty #[v, x]).run P w = .ok v' w' ∧ w'.ownsRow 0 e size v' (n + m) (xs ++ news) ∧ w.grownBy w' v.ownBlock ∧ Stays w v v' := by
  have hsame : w.grownBy w v.ownBlock := ⟨rfl, rfl, rfl, Nat.le_refl _, fun _ _ _ => rfl⟩
  rcases hx with ⟨rfl, rfl⟩ | ⟨ad, c, rfl, hc⟩
  · obtain rfl : news = [] := List.eq_nil_of_length_eq_zero (by simpa using hl)
    refine ⟨v, w, ?_, by simpa using hown, hsame, fun k hk => .inl hk⟩
    rcases hown.2 with ⟨rfl, rfl⟩ | ⟨g, cap, cur, rfl, _, _, hnc, _⟩
    · simp [Builtin.append_, run_underlying ht, sizeOf, typeInfo, hi, Builtin.lenOf, Builtin.firstCells, loadCells, loadCellsFrom]
    · simp [Builtin.append_, run_underlying ht, sizeOf, typeInfo, hi, Builtin.lenOf, Builtin.firstCells, loadCells, loadCellsFrom, hnc, storeCells]
  · have hown' := hown
    rcases hown.2 with ⟨rfl, rfl⟩ | ⟨g, cap, cur, rfl, _, hg, hnc, hcm, hcs, htake⟩
    · obtain rfl : xs = [] := List.eq_nil_of_length_eq_zero (by simpa using hown.1)
      obtain ⟨v', w', hr, h2, h3, h4⟩ := run_append_own (P := P) w w.heap.size t ty e i z size bytes ht hi hz hsize hby hzs hsz (.slice none 0 0) 0 [] (World.ownsRow_nil _ _ _ _) ad m c news hl hc h1 h63 hbytes (Nat.le_refl _)
      refine ⟨v', w', hr, ⟨h2.1, ?_⟩, h3, fun k hk => .inr (h2.lt k hk).1⟩
      rcases h2.2 with h | ⟨g, cap, cur, hv, _, r⟩
      · exact .inl h
      · exact .inr ⟨g, cap, cur, hv, Nat.zero_le _, r⟩
    · by_cases hroom : n + m ≤ cap
      · subst hsize
        have hfit : n * i.size + news.length ≤ cur.size := by rw [hl, hcs, ← Nat.add_mul]; exact Nat.mul_le_mul_right _ hroom
        have hr := run_append_room (P := P) w t ty e i ht hi g n cap cur hg ad m c news hl hc h1 hroom hfit
        obtain ⟨v', w', hr2, h2, h3, _⟩ := run_append_own (P := P) w 0 t ty e i z i.size bytes ht hi hz rfl hby hzs hsz _ n xs hown ad m c news hl hc h1 h63 hbytes (Nat.zero_le _)
        rw [hr] at hr2
        injection hr2 with e1 e2
        subst e1
        subst e2
        exact ⟨_, _, hr, h2, h3, fun k hk => .inl hk⟩
      · obtain ⟨v', w', hr, h2, h3⟩ := run_append_arg_grows (P := P) w t ty e i z size bytes ht hi hz hsize hby hzs hsz ⟨g, 0, none⟩ n cap xs hown.1 (hown.cells rfl) ad m c news hl hc (by omega) h63 hbytes
        refine ⟨v', w', hr, ⟨h2.1, ?_⟩, ⟨h3.os, h3.tape, h3.output, h3.size, fun k hk _ => h3.block k hk (by simp)⟩, fun k hk => .inr (h2.lt k hk).1⟩
        rcases h2.2 with h | ⟨g, cap, cur, hv, _, r⟩
        · exact .inl h
        · exact .inr ⟨g, cap, cur, hv, Nat.zero_le _, r⟩

section
variable {P : Program} {w : World}
theorem wp_append_row {o : Oper} {a : Act} {K : Act → World → Prop} {Q : Exit → Act → World → Prop} (s y : Operand) (t : TypeId)
    (ho : o.op = .call { callee := .builtin .append, args := #[s, y], argTypes := #[t, t] })
    (e : TypeId) (i : TypeInfo) (z : Value) (size bytes : Nat) (ht : P.underlying t = some (.slice e)) (hi : P.info? e = some i) (hz : i.zero = some z)
    (hsize : i.size = size) (hby : i.bytes = bytes) (hzs : z.cells.size = size) (hsz : 0 < size)
    (v : Value) (n : Nat) (xs : List Value) (hs : a.eval s = v) (hown : w.ownsRow 0 e size v n xs)
    (x : Value) (m : Nat) (news : List Value) (hx : a.eval y = x) (hr : Reads w x m news) (hl : news.length = m * size) (h1 : ∀ u ∈ news, u.oneCell' = true)
    (h63 : n + m ≤ maxLen) (hbytes : (n + m) * bytes ≤ 140737488355328)
    (h : ∀ v' w', w'.ownsRow 0 e size v' (n + m) (xs ++ news) → w.grownBy w' v.ownBlock → Stays w v v' → K (a.put o.dst v') w') : o.wp P a w K Q := by
  obtain ⟨v', w', hr, h2, h3, h4⟩ := run_append_row (P := P) w t o.type e i z size bytes ht hi hz hsize hby hzs hsz v n xs hown x m news hr hl h1 h63 hbytes
  unfold Oper.wp execOp
  simp only [ho, resolve, invoke, builtin, Sem.run_bind, Sem.run_pure, Result.andThen_ok, List.map_toArray, List.map_cons, List.map_nil, hs, hx, hr]
  exact h v' w' h2 h3 h4

theorem wpList_append_row {ops : Array Oper} {rest : List Oper} {o : Oper} {a : Act} {Q : Exit → Act → World → Prop} (hgd : o.guard = none) (s y : Operand) (t : TypeId)
    (ho : o.op = .call { callee := .builtin .append, args := #[s, y], argTypes := #[t, t] })
    (e : TypeId) (i : TypeInfo) (z : Value) (size bytes : Nat) (ht : P.underlying t = some (.slice e)) (hi : P.info? e = some i) (hz : i.zero = some z)
    (hsize : i.size = size) (hby : i.bytes = bytes) (hzs : z.cells.size = size) (hsz : 0 < size)
    (v : Value) (n : Nat) (xs : List Value) (hs : a.eval s = v) (hown : w.ownsRow 0 e size v n xs)
    (x : Value) (m : Nat) (news : List Value) (hx : a.eval y = x) (hr : Reads w x m news) (hl : news.length = m * size) (h1 : ∀ u ∈ news, u.oneCell' = true)
    (h63 : n + m ≤ maxLen) (hbytes : (n + m) * bytes ≤ 140737488355328)
    (h : ∀ v' w', w'.ownsRow 0 e size v' (n + m) (xs ++ news) → w.grownBy w' v.ownBlock → Stays w v v' → wpList P ops Q rest (a.put o.dst v') w') : wpList P ops Q (o :: rest) a w :=
  wpList_plain hgd fun _ hK => wp_append_row s y t ho e i z size bytes ht hi hz hsize hby hzs hsz v n xs hs hown x m news hx hr hl h1 h63 hbytes fun v' w' h2 h3 h4 => hK _ _ (h v' w' h2 h3 h4)

theorem step_append_row {ops : Array Oper} {o : Oper} {a : Act} {K : Act → World → Prop} {Q : Exit → Act → World → Prop} {E : Prop} (hgd : o.guard = none) (s y : Operand) (t : TypeId)
    (ho : o.op = .call { callee := .builtin .append, args := #[s, y], argTypes := #[t, t] })
    (e : TypeId) (i : TypeInfo) (z : Value) (size bytes : Nat) (ht : P.underlying t = some (.slice e)) (hi : P.info? e = some i) (hz : i.zero = some z)
    (hsize : i.size = size) (hby : i.bytes = bytes) (hzs : z.cells.size = size) (hsz : 0 < size)
    (v : Value) (n : Nat) (xs : List Value) (hs : a.eval s = v) (hown : w.ownsRow 0 e size v n xs)
    (x : Value) (m : Nat) (news : List Value) (hx : a.eval y = x) (hr : Reads w x m news) (hl : news.length = m * size) (h1 : ∀ u ∈ news, u.oneCell' = true)
    (h63 : n + m ≤ maxLen) (hbytes : (n + m) * bytes ≤ 140737488355328)
    (h : ∀ v' w', w'.ownsRow 0 e size v' (n + m) (xs ++ news) → w.grownBy w' v.ownBlock → Stays w v v' → K (a.put o.dst v') w') :
    if Region.wanted o (yielded ops a.tmps) = true then Oper.wp P o a w K Q else E := by
  have hw : Region.wanted o (yielded ops a.tmps) = true := by simp [Region.wanted, hgd]
  rw [if_pos hw]
  exact wp_append_row s y t ho e i z size bytes ht hi hz hsize hby hzs hsz v n xs hs hown x m news hx hr hl h1 h63 hbytes h
end
end Go.Proofs.Ytlcbemcamdafjaa
