import Derived.Test.YtlcbemcamdafjaaCfoldedFol1Append
import Derived.OwnWalk
import Derived.Deep.MidRow
/- What is news of a flight: the model; a bulletin in memory. -/
namespace Go.Proofs.Ytlcbemcamdafjaa
open Go.RowKit
open Go.ChangeMaps (setBlock)
open M
set_option linter.unusedVariables false
set_option linter.unusedSimpArgs false
set_option maxRecDepth 100000

/-- One news: flight, class, what is left. -/
structure Nw where
  n : Int
  c : Int
  l : Int

def nwV (x : Nw) : Value := .agg #[.int .i64 x.n, .int .i64 x.c, .int .i64 x.l]
def nwL (x : Nw) : List Value := [.int .i64 x.n, .int .i64 x.c, .int .i64 x.l]

/-- A bulletin as it grows, and what the follower was told. -/
structure Tel where
  news : List Nw
  more : Bool
  es : List FEnt
  clock : Nat

def tellStep (most : Int) (s : Tel) (x : Nw) : Tel :=
  if x.l = tb s.es x.n x.c then s
  else if (s.news.length : Int) = most then ⟨s.news, true, s.es, s.clock⟩
  else ⟨s.news ++ [x], s.more, (putF s.es s.clock x.n x.c x.l).1, (putF s.es s.clock x.n x.c x.l).2⟩

def Nw.ok (x : Nw) : Prop := 0 ≤ x.n ∧ x.n ≤ 20 ∧ 0 ≤ x.c ∧ x.c < 4

theorem tellStep_ok {most : Int} {s : Tel} {x : Nw} (h : FolOk s.es) (hx : x.ok) : FolOk (tellStep most s x).es := by
  unfold tellStep
  split
  · exact h
  · split
    · exact h
    · exact h.put _ _ _ _ ⟨hx.1, by have := hx.2.1; omega⟩ ⟨hx.2.2.1, by have := hx.2.2.2; omega⟩

theorem tellStep_tb {most : Int} {s : Tel} {x : Nw} (h : FolOk s.es) (n c : Int) (hne : ¬ (n = x.n ∧ c = x.c)) : tb (tellStep most s x).es n c = tb s.es n c := by
  unfold tellStep
  split
  · rfl
  · split
    · rfl
    · unfold tb
      rw [lookF_put _ h, if_neg hne]

def at4 (e0 e1 e2 e3 : Int) (k : Nat) : Int := if k = 0 then e0 else if k = 1 then e1 else if k = 2 then e2 else e3
/-- The news that there may be of a flight: of its first k classes. -/
def items (n e0 e1 e2 e3 : Int) (k : Nat) : List Nw := (List.range k).map fun (j : Nat) => (⟨n, (j : Int), at4 e0 e1 e2 e3 j⟩ : Nw)
theorem items_succ (n e0 e1 e2 e3 : Int) (k : Nat) : items n e0 e1 e2 e3 (k + 1) = items n e0 e1 e2 e3 k ++ [⟨n, k, at4 e0 e1 e2 e3 k⟩] := by
  unfold items
  rw [List.range_succ, List.map_append]
  rfl

def tells (most : Int) (s : Tel) (l : List Nw) : Tel := l.foldl (tellStep most) s
theorem tells_snoc (most : Int) (s : Tel) (l : List Nw) (x : Nw) : tells most s (l ++ [x]) = tellStep most (tells most s l) x := by
  unfold tells
  rw [List.foldl_append]
  rfl
theorem tells_append (most : Int) (s : Tel) (l l' : List Nw) : tells most s (l ++ l') = tells most (tells most s l) l' := by
  unfold tells
  rw [List.foldl_append]

theorem tells_ok {most : Int} : ∀ (l : List Nw) (s : Tel), FolOk s.es → (∀ x ∈ l, x.ok) → FolOk (tells most s l).es
  | [], s, h, _ => h
  | x :: l, s, h, hx => tells_ok l (tellStep most s x) (tellStep_ok h (hx x (by simp))) (fun y hy => hx y (by simp [hy]))

theorem tells_tb {most : Int} (n c : Int) : ∀ (l : List Nw) (s : Tel), FolOk s.es → (∀ x ∈ l, x.ok) → (∀ x ∈ l, ¬ (n = x.n ∧ c = x.c)) → tb (tells most s l).es n c = tb s.es n c
  | [], s, h, _, _ => rfl
  | x :: l, s, h, hx, hne => by
    have := tells_tb (most := most) n c l (tellStep most s x) (tellStep_ok h (hx x (by simp))) (fun y hy => hx y (by simp [hy])) (fun y hy => hne y (by simp [hy]))
    rw [show tells most s (x :: l) = tells most (tellStep most s x) l from rfl, this, tellStep_tb h n c (hne x (by simp))]

theorem items_ok {n e0 e1 e2 e3 : Int} (hn : 0 ≤ n ∧ n ≤ 20) {k : Nat} (hk : k ≤ 4) : ∀ x ∈ items n e0 e1 e2 e3 k, x.ok := by
  intro x hx
  obtain ⟨j, hj, rfl⟩ := List.mem_map.1 hx
  have := List.mem_range.1 hj
  exact ⟨hn.1, hn.2, by simp only; omega, by simp only; omega⟩
theorem items_tb {most : Int} {s : Tel} (h : FolOk s.es) {n e0 e1 e2 e3 : Int} (hn : 0 ≤ n ∧ n ≤ 20) (k : Nat) (hk : k ≤ 4) : tb (tells most s (items n e0 e1 e2 e3 k)).es n k = tb s.es n k :=
  tells_tb n k _ s h (items_ok hn hk) (fun x hx => by
    obtain ⟨j, hj, rfl⟩ := List.mem_map.1 hx
    have := List.mem_range.1 hj
    simp only
    omega)

/-- Where nothing is news nothing is told. -/
theorem tells_same {most : Int} {s : Tel} {n e0 e1 e2 e3 : Int} (h0 : e0 = tb s.es n 0) (h1 : e1 = tb s.es n 1) (h2 : e2 = tb s.es n 2) (h3 : e3 = tb s.es n 3) : tells most s (items n e0 e1 e2 e3 4) = s := by
  have : items n e0 e1 e2 e3 4 = [⟨n, 0, e0⟩, ⟨n, 1, e1⟩, ⟨n, 2, e2⟩, ⟨n, 3, e3⟩] := rfl
  rw [this]
  simp only [tells, List.foldl_cons, List.foldl_nil]
  rw [show tellStep most s ⟨n, 0, e0⟩ = s from if_pos h0, show tellStep most s ⟨n, 1, e1⟩ = s from if_pos h1, show tellStep most s ⟨n, 2, e2⟩ = s from if_pos h2, show tellStep most s ⟨n, 3, e3⟩ = s from if_pos h3]

theorem tellStep_len {most : Int} {s : Tel} {x : Nw} (h : (s.news.length : Int) ≤ most) : ((tellStep most s x).news.length : Int) ≤ most := by
  unfold tellStep
  split
  · exact h
  · split
    · exact h
    · simp only [List.length_append, List.length_cons, List.length_nil]; omega
theorem tells_len {most : Int} : ∀ (l : List Nw) (s : Tel), (s.news.length : Int) ≤ most → ((tells most s l).news.length : Int) ≤ most
  | [], s, h => h
  | x :: l, s, h => tells_len l (tellStep most s x) (tellStep_len h)

/-- A bulletin in memory, and the follower's map beside it. -/
structure Bull (w : World) (bb m : Nat) (fresh : Bool) (s : Tel) (v : Value) : Prop where
  has : Has w bb #[.bool fresh, v, .bool s.more] 74
  row : w.ownsRow 0 78 3 v s.news.length (s.news.flatMap nwL)
  own : ∀ k, v.ownBlock = some k → bb < k ∧ k ≠ m
  map : w.heap[m]? = some (folObj s.es s.clock)
  ok : FolOk s.es

theorem Bull.still {w w' : World} {bb m : Nat} {fresh : Bool} {s : Tel} {v : Value} (h : Bull w bb m fresh s v) (hm : Mod No w w') : Bull w' bb m fresh s v :=
  ⟨hm.has h.has (fun x => x), hm.owns h.row (fun _ _ x => x), h.own, mod_fol hm h.map (fun x => x), h.ok⟩
theorem Has.fol_ne {w : World} {b m : Nat} {cs : Array Value} {T : TypeId} {es : List FEnt} {clock : Nat} (h : Has w b cs T) (hm : w.heap[m]? = some (folObj es clock)) : m ≠ b := by
  rintro rfl
  unfold Has at h
  rw [h] at hm
  simp [folObj] at hm

theorem infoNw : (Try.prog.info? 78).map (fun i => (i.zero, i.size, i.bytes)) = some (some (.agg #[.int .i64 0, .int .i64 0, .int .i64 0]), 3, 24) := by kernel_rfl
end Go.Proofs.Ytlcbemcamdafjaa
/- A follower is told what is news of one flight. -/
namespace Go.Proofs.Ytlcbemcamdafjaa
open Go.RowKit
open Go.ChangeMaps (setBlock)
open M
set_option linter.unusedVariables false
set_option linter.unusedSimpArgs false
set_option maxRecDepth 100000
set_option maxHeartbeats 2000000
attribute [local go_sem] eq41 guard40

theorem same4_iff {a0 a1 a2 a3 b0 b1 b2 b3 : Int} : same4 a0 a1 a2 a3 b0 b1 b2 b3 = true ↔ a0 = b0 ∧ a1 = b1 ∧ a2 = b2 ∧ a3 = b3 := by
  simp [same4]
theorem idx4 (e0 e1 e2 e3 : Int) (k : Nat) (hk : k < 4) (w : World) : (Instr.index 33 (.agg #[.int .i64 e0, .int .i64 e1, .int .i64 e2, .int .i64 e3]) (.int .i64 k)).run Try.prog w = .ok (.int .i64 (at4 e0 e1 e2 e3 k)) w := by
  have : k = 0 ∨ k = 1 ∨ k = 2 ∨ k = 3 := by omega
  rcases this with rfl | rfl | rfl | rfl
  · exact idx40_0 ..
  · exact idx40_1 ..
  · exact idx40_2 ..
  · exact idx40_3 ..
theorem cell4 (e0 e1 e2 e3 : Int) (k : Nat) (hk : k < 4) : (#[Value.int .i64 e0, .int .i64 e1, .int .i64 e2, .int .i64 e3] : Array Value)[k]? = some (.int .i64 (at4 e0 e1 e2 e3 k)) := by
  have : k = 0 ∨ k = 1 ∨ k = 2 ∨ k = 3 := by omega
  rcases this with rfl | rfl | rfl | rfl <;> rfl

theorem tellOf_walk (fb fo m n bb : Nat) (e0 e1 e2 e3 most : Int) (fresh : Bool) (s : Tel) (v : Value) (w : World) (hn : n ≤ 20) (hmost : 1 ≤ most ∧ most ≤ 50) (hlen : (s.news.length : Int) ≤ most)
    (hc : w.cell? ⟨fb, fo, none⟩ = some (.map (some m))) (hf : fb < bb) (hb : Bull w bb m fresh s v) :
    Calls Try.prog 58 #[.pointer (some ⟨fb, fo, none⟩), .int .i64 n, .agg #[.int .i64 e0, .int .i64 e1, .int .i64 e2, .int .i64 e3], .int .i64 most, .pointer (some ⟨bb, 0, none⟩)] w fun e w' =>
      e = .returned (.tuple #[]) ∧ ∃ v', Bull w' bb m fresh (tells most s (items n e0 e1 e2 e3 4)) v' ∧ Mod (fun k => bb ≤ k ∨ k = m) w w' := by
  have HW := hide fun (W : World) (hW : Mod No w W) => wasTold_walk fb fo m n s.clock s.es W hn (mod_cell hW hc) (mod_fol hW hb.map (fun x => x)) hb.ok
  have HC := hide hc
  have HB := hide hb
  have hlb := hb.has.lt
  clear hc hb
  go_enter Try.func58, Try.ntmps58
  go_wp2_with fail
  have M1 := hide ((Mod.refl No w).alloc (.cells #[.int .i64 e0, .int .i64 e1, .int .i64 e2, .int .i64 e3] 33))
  have B1 := hide (Has.new w #[.int .i64 e0, .int .i64 e1, .int .i64 e2, .int .i64 e3] 33)
  refine ((unhide HW) _ (unhide M1)).mono ?_
  rintro e w2 ⟨rfl, m2⟩
  have B2 := hide (m2.has (unhide B1) (fun x => x))
  have M2 := hide ((unhide M1).trans m2)
  have s2 : w.heap.size < w2.heap.size := by have := m2.size; simp at this; omega
  clear HW m2 B1 M1
  have bc := (unhide B2).cell
  have bl := (unhide B2).lt
  have I0 := hide (show ∀ k : Nat, k ≤ 4 → at4 (tb s.es n 0) (tb s.es n 1) (tb s.es n 2) (tb s.es n 3) k = tb s.es n k ∨ k = 4 from fun k hk => by
    have : k = 0 ∨ k = 1 ∨ k = 2 ∨ k = 3 ∨ k = 4 := by omega
    rcases this with rfl | rfl | rfl | rfl | rfl
    · exact .inl rfl
    · exact .inl rfl
    · exact .inl rfl
    · exact .inl rfl
    · exact .inr rfl)
  have SM := hide (fun (h : same4 e0 e1 e2 e3 (tb s.es n 0) (tb s.es n 1) (tb s.es n 2) (tb s.es n 3) = true) => (show tells most s (items n e0 e1 e2 e3 4) = s by
    obtain ⟨h0, h1, h2, h3⟩ := same4_iff.1 h
    exact tells_same h0 h1 h2 h3))
  generalize tb s.es n 0 = t0 at *
  generalize tb s.es n 1 = t1 at *
  generalize tb s.es n 2 = t2 at *
  generalize tb s.es n 3 = t3 at *
  by_cases hs : same4 e0 e1 e2 e3 t0 t1 t2 t3 = true
  · go_wp2
    first | go_end0 | refine bodyPost_ret (results_none rfl _ _ _) rfl ?_
    refine ⟨rfl, v, ?_, ?_⟩
    · rw [(unhide SM) hs]
      exact ((unhide HB).still (unhide M2)).still ((Mod.refl No _).alloc _)
    · exact ((unhide M2).alloc _).mono (fun _ _ x => x.elim)
  · have hs' : same4 e0 e1 e2 e3 t0 t1 t2 t3 = false := by simpa using hs
    go_wp2_with fail
    clear bc hs hs' SM
    obtain ⟨iNw, q0, q1, q2, q3⟩ := info_parts infoNw
    have HFRAME := hide (fun (W : World) (hW : Mod (fun k => bb ≤ k ∨ k = m) w W) => (show W.cell? ⟨fb, fo, none⟩ = some (.map (some m)) from by
      have hne : fb ≠ m := by
        intro e
        have h1 := unhide HC
        rw [e] at h1
        have h2 := (unhide HB).map
        simp [World.cell?, h2, folObj] at h1
      have hlt := World.block_lt_of_cell? w _ (unhide HC)
      rw [World.cell?_of_block (w := w) (hW.block _ hlt (fun x => by rcases x with x | x; exact absurd x (by show ¬ bb ≤ fb; omega); exact hne x))]
      exact unhide HC))
    have l0 : (1 : Int) ≤ most ∧ most ≤ 50 := hmost
    go_loopw [20] (fun i wr => ∃ (k : Nat) (v' : Value), i = .int .i64 k ∧ k ≤ 4 ∧ Hid (Bull wr bb m fresh (tells most s (items n e0 e1 e2 e3 k)) v') ∧ Hid (Mod (fun k => bb ≤ k ∨ k = m) w wr) ∧
        Hid (Has wr w2.heap.size #[.int .i64 t0, .int .i64 t1, .int .i64 t2, .int .i64 t3] 33) ∧ Hid (∀ j, v'.ownBlock = some j → j ≠ w2.heap.size)) (fun i _ => 4 - (intOf i).toNat)
    case atStart =>
      refine ⟨0, v, rfl, by omega, ?_, ?_, Has.new w2 _ _, fun j hj => by have := ((unhide HB).row.lt j hj).2; omega⟩
      · exact ((unhide HB).still (unhide M2)).still ((Mod.refl No _).alloc _)
      · exact ((unhide M2).alloc _).mono (fun _ _ x => x.elim)
    case round =>
      obtain ⟨k, v', rfl, hk, hB, hM, hT, hV⟩ := hrel
      by_cases h4 : k = 4
      · subst h4
        go_wp2
        go_end0
        exact ⟨rfl, v', unhide hB, unhide hM⟩
      have hk4 : k < 4 := by omega
      have hk5 : (k : Int) < 4 := by omega
      have hok := (unhide hB).ok
      have hTs := hide (tells_snoc most s (items n e0 e1 e2 e3 k) ⟨n, k, at4 e0 e1 e2 e3 k⟩)
      have htb : tb (tells most s (items n e0 e1 e2 e3 k)).es n k = at4 t0 t1 t2 t3 k := by
        rw [items_tb (unhide HB).ok ⟨by omega, by omega⟩ k hk]
        rcases (unhide I0) k hk with h | h
        · exact h.symm
        · exact absurd h h4
      have hlen' := tells_len (most := most) (items n e0 e1 e2 e3 k) s hlen
      rw [← items_succ] at hTs
      have hi := fun W => idx4 e0 e1 e2 e3 k hk4 W
      have cT : wr.cell? ⟨w2.heap.size, k, none⟩ = some (.int .i64 (at4 t0 t1 t2 t3 k)) := by rw [(unhide hT).cell]; exact cell4 t0 t1 t2 t3 k hk4
      have lT := (unhide hT).lt
      have bc := (unhide hB).has.cell
      have bf := (unhide hB).has.frozen
      have bl2 := (unhide hB).has.lt
      have HTB := hide htb
      have HLEN := hide hlen'
      have HTS := hide hTs
      clear htb hlen' hTs
      generalize tells most s (items n e0 e1 e2 e3 k) = T at *
      generalize at4 e0 e1 e2 e3 k = ek at *
      generalize at4 t0 t1 t2 t3 k = tk at *
      by_cases h1 : ek = tk
      · have h1' : (ek == tk) = true := by simpa using h1
        go_wp2
        go_roundw
        · refine ⟨k + 1, v', by simp, by omega, ?_, hM, hT, hV⟩
          rw [unhide HTS]
          unfold tellStep
          rw [if_pos (by simp only; rw [unhide HTB]; exact h1)]
          exact hB
        · simp [intOf]; omega
      have h1' : (ek == tk) = false := by simpa using h1
      obtain ⟨a, cp, rfl⟩ := slice_of_owns (unhide hB).row
      by_cases h2 : (T.news.length : Int) = most
      · have h2' : ((T.news.length : Int) == most) = true := by simpa using h2
        go_wp2
        go_roundw
        · have hm1 : Mod (fun j => j = bb) wr (wr.setCell ⟨bb, 2, none⟩ (.bool true)) := (Mod.refl _ wr).at 2 _
          refine ⟨k + 1, .slice a T.news.length cp, by simp, by omega, hide ?_, (unhide hM).setCell (.inl (.inl (Nat.le_refl _))) _, hm1.has (unhide hT) (by have := (unhide M2).size; omega), hV⟩
          rw [unhide HTS]
          unfold tellStep
          rw [if_neg (by simp only; rw [unhide HTB]; exact h1), if_pos h2]
          exact ⟨(unhide hB).has.set 2 _, hm1.owns (unhide hB).row (fun j hj e => by have := ((unhide hB).own j hj).1; omega), (unhide hB).own, mod_fol hm1 (unhide hB).map (fun e => (unhide hB).has.fol_ne (unhide hB).map e), (unhide hB).ok⟩
        · simp [intOf]; omega
      have h2' : ((T.news.length : Int) == most) = false := by simpa using h2
      have ml := (Array.getElem?_eq_some_iff.1 (unhide hB).map).1
      have hnm := (unhide hB).has.fol_ne (unhide hB).map
      have HO := hide (((Mod.refl No wr).alloc (.cells #[.int .i64 n, .int .i64 k, .int .i64 ek] 78)).owns (unhide hB).row (fun _ _ x => x))
      have HRD := hide (show Reads (wr.alloc (.cells #[.int .i64 n, .int .i64 k, .int .i64 ek] 78)) (.slice (some ⟨wr.heap.size, 0, none⟩) 1 1) 1 (nwL ⟨n, k, ek⟩) from
        .inr ⟨⟨wr.heap.size, 0, none⟩, 1, rfl, fun j u hu => by
          rw [Addr.add_mid, Nat.zero_add, (Has.new wr #[.int .i64 n, .int .i64 k, .int .i64 ek] 78).cell, ← Array.getElem?_toList]
          exact hu⟩)
      have HM6 := hide (fun (w6 : World) (hg : (wr.alloc (.cells #[.int .i64 n, .int .i64 k, .int .i64 ek] 78)).grownBy w6 (Value.slice a T.news.length cp).ownBlock) => (show Mod (fun k => bb ≤ k ∨ k = m) w w6 from
        ((unhide hM).alloc _).grown hg (fun j hj => .inl (.inl (Nat.le_of_lt ((unhide hB).own j hj).1)))))
      have HB6 := hide (fun (w6 : World) (hg : (wr.alloc (.cells #[.int .i64 n, .int .i64 k, .int .i64 ek] 78)).grownBy w6 (Value.slice a T.news.length cp).ownBlock) => (show Has w6 bb #[.bool fresh, .slice a T.news.length cp, .bool T.more] 74 ∧ w6.heap[m]? = some (folObj T.es T.clock) ∧ Has w6 w2.heap.size #[.int .i64 t0, .int .i64 t1, .int .i64 t2, .int .i64 t3] 33 from by
        have hmr : Mod (fun j => some j = (Value.slice a T.news.length cp).ownBlock) wr w6 := ((Mod.refl _ wr).alloc _).grown hg (fun j hj => .inl hj.symm)
        refine ⟨hmr.has (unhide hB).has (fun e => ?_), mod_fol hmr (unhide hB).map (fun e => ((unhide hB).own m e.symm).2 rfl), hmr.has (unhide hT) (fun e => ?_)⟩
        · have := ((unhide hB).own bb e.symm).1; omega
        · exact (unhide hV) _ e.symm rfl))
      have HU6 := hide (fun (W : World) (hW : W.heap[m]? = some (folObj T.es T.clock)) => (show (Instr.mapUpdate 103 (.map (some m)) (.agg #[.int .i64 n, .int .i64 k]) (.int .i64 ek)).run Try.prog W = .ok () (setBlock W m (folObj (putF T.es T.clock n k ek).1 (putF T.es T.clock n k ek).2)) from
        run_updateF W m T.es T.clock hW hok n k ek (by omega) (by omega)))
      have hfb : fb ≠ bb := by omega
      have hL49 : (T.news.length : Int) < most := by have := unhide HLEN; omega
      go_wp2_with (first | (at_builtin; refine wpList_append_row rfl (.tmp 28) (.tmp 33) 72 rfl 78 iNw _ 3 24 Try.underlying72 q0 q1 q2 q3 rfl (by decide) (.slice a T.news.length cp) T.news.length _ (by simp [Act.eval]) (by exact unhide HO) (.slice (some ⟨wr.heap.size, 0, none⟩) 1 1) 1 (nwL ⟨n, k, ek⟩) (by simp [Act.eval]) (by exact unhide HRD) rfl (by intro u hu; simp [nwL] at hu; rcases hu with rfl | rfl | rfl <;> rfl) (by unfold maxLen; omega) (by omega) ?_; intro v6 w6 ho6 hg6 hs6; obtain ⟨a6, c6, rfl⟩ := slice_of_owns ho6; have M6 := hide ((unhide HM6) _ hg6); have B6 := hide ((unhide HB6) _ hg6); have pc6 := (unhide B6).1.cell; have pf6 := (unhide B6).1.frozen; have pl6 := (unhide B6).1.lt; have fc6 := (unhide HFRAME) _ (unhide M6); have hU6 := (unhide HU6) (w6.setCell ⟨bb, 1, none⟩ (.slice a6 (T.news.length + 1) c6)) (mod_fol ((Mod.refl (fun j => j = bb) w6).at 1 _) (unhide B6).2.1 (fun e => hnm e))))
      go_roundw
      · have h5 := (unhide B6).1.set 1 (.slice a6 (T.news.length + 1) c6)
        have hm5 : Mod (fun j => j = bb) w6 (w6.setCell ⟨bb, 1, none⟩ (.slice a6 (T.news.length + 1) c6)) := (Mod.refl _ w6).at 1 _
        have hmp := mod_fol hm5 (unhide B6).2.1 (fun e => hnm e)
        have hm7 : Mod (fun j => j = m) (w6.setCell ⟨bb, 1, none⟩ (.slice a6 (T.news.length + 1) c6)) (setBlock (w6.setCell ⟨bb, 1, none⟩ (.slice a6 (T.news.length + 1) c6)) m (folObj (putF T.es T.clock n k ek).1 (putF T.es T.clock n k ek).2)) := Mod.setBlock (S := fun j => j = m) (Mod.refl _ _) (.inl rfl) _
        have hsz := hg6.size
        simp only [World.size_alloc] at hsz
        have own6 : ∀ j, (Value.slice a6 (T.news.length + 1) c6).ownBlock = some j → bb < j ∧ j ≠ m ∧ j ≠ w2.heap.size := fun j hj => by
          rcases hs6 j hj with h | h
          · exact ⟨((unhide hB).own j h).1, ((unhide hB).own j h).2, (unhide hV) j h⟩
          · simp only [World.size_alloc] at h
            exact ⟨by omega, by omega, by omega⟩
        refine ⟨k + 1, .slice a6 (T.news.length + 1) c6, by simp, by omega, hide ?_, ((unhide M6).setCell (.inl (.inl (Nat.le_refl _))) _).setBlock (.inl (.inr rfl)) _, hm7.has (hm5.has (unhide B6).2.2 (by have := (unhide M2).size; omega)) (fun e => ?_), fun j hj => (own6 j hj).2.2⟩
        · rw [unhide HTS]
          unfold tellStep
          rw [if_neg (by simp only; rw [unhide HTB]; exact h1), if_neg h2]
          refine ⟨hm7.has h5 (fun e => hnm e.symm), ?_, fun j hj => ⟨(own6 j hj).1, (own6 j hj).2.1⟩, setBlock_at (Array.getElem?_eq_some_iff.1 hmp).1 _, hok.put T.clock n k ek ⟨by omega, by omega⟩ ⟨by omega, by omega⟩⟩
          simp only [List.length_append, List.length_cons, List.length_nil, List.flatMap_append, List.flatMap_cons, List.flatMap_nil, List.append_nil]
          exact hm7.owns (hm5.owns ho6 (fun j hj e => by have := (own6 j hj).1; omega)) (fun j hj e => (own6 j hj).2.1 e)
        · exact (unhide B6).2.2.fol_ne (unhide B6).2.1 e.symm
      · simp [intOf]; omega
end Go.Proofs.Ytlcbemcamdafjaa
