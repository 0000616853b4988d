import Derived.Test.YthhibagcpjeihaaGreatIMaps2ToRef3
import Derived.Test.YthhibagcpjeihaaGreatIReckonToPut2
import Derived.Test.YthhibagcpjeihaaGreatIChangeToEq40
import Derived.Test.YthhibagcpjeihaaGreatIBaseToMaps
import Derived.Handy
import Derived.OwnWalk
import Derived.Deep.MidRow
import Derived.Test.YthhibagcpjeihaaGreatIRelToKeepM
namespace Go.Proofs.YthhibagcpjeihaaGreat
open Go.RowKit Go.WideMaps
open Go.ChangeMaps (setBlock)
set_option linter.unusedVariables false
set_option linter.unusedSimpArgs false
set_option maxRecDepth 100000
theorem lawF : KeyLaw Tryz.prog 206 := deep_law_laid laidOut (m := 2) (by omega) (of_decide_eq_true (by kernel_rfl)) (by kernel_rfl) (by rw [Tryz.underlying206])
theorem keyF (r c : Int) (hr : 0 ≤ r ∧ r ≤ 1000) (hc : 0 ≤ c ∧ c ≤ 1000) : ∃ l, keyOf Tryz.prog 206 (kv r c) = some l := by
 have w1 : (Lit.int .i64 r).wf = true := by simp [Lit.wf, IntKind.min, IntKind.max, IntKind.signed, IntKind.bits]; omega
 have w2 : (Lit.int .i64 c).wf = true := by simp [Lit.wf, IntKind.min, IntKind.max, IntKind.signed, IntKind.bits]; omega
 have hk : Tryz.prog.keyType 206 = true := by kernel_rfl
 have c30 : Tryz.prog.cellsOf 206 = 2 := by kernel_rfl
 have c3 : Tryz.prog.cellsOf 3 = 1 := by kernel_rfl
 have ts : ∃ n, Tryz.prog.types.size + 1 = n + 2 := ⟨Tryz.prog.types.size - 1, by have : 0 < Tryz.prog.types.size := of_decide_eq_true (by kernel_rfl); omega⟩
 obtain ⟨n, hn⟩ := ts
 apply Option.isSome_iff_exists.1
 unfold keyOf
 rw [Tryz.underlying206, hn]
 simp [hk, kv, Value.formed, Tryz.underlying206, c30, c3, Program.keyLits, Tryz.underlying3, w1, w2, Value.cells, List.range_succ]
structure FEnt where
 born : Nat
 r : Int
 c : Int
 n : Int
def FEnt.obj (e : FEnt) : MapEntry := ⟨kv e.r e.c, .int .i64 e.n, e.born⟩
def folObj (l : List FEnt) (clock : Nat) : Obj := .map (l.map FEnt.obj).toArray clock
def FEnt.is (r c : Int) (e : FEnt) : Bool := e.r == r && e.c == c
structure FolOk (l : List FEnt) : Prop where
 keys : ∀ e ∈ l, 0 ≤ e.r ∧ e.r ≤ 1000 ∧ 0 ≤ e.c ∧ e.c ≤ 1000
 apart : l.Pairwise fun a b => ¬ (a.r = b.r ∧ a.c = b.c)
theorem fis_false {r c : Int} {e : FEnt} : FEnt.is r c e = false ↔ ¬ (e.r = r ∧ e.c = c) := by
 simp only [FEnt.is, Bool.and_eq_false_iff, beq_eq_false_iff_ne]
 by_cases h1 : e.r = r
 ·simp [h1]
 ·simp [h1]
theorem fis_true {r c : Int} {e : FEnt} : FEnt.is r c e = true ↔ (e.r = r ∧ e.c = c) := by
 simp [FEnt.is]
theorem ffind_of {l : List FEnt} (hp : l.Pairwise fun a b => ¬ (a.r = b.r ∧ a.c = b.c)) {j : Nat} (hj : j < l.length) {r c : Int} (h : l[j].r = r ∧ l[j].c = c) : l.findIdx? (FEnt.is r c) = some j := by
 rw [List.findIdx?_eq_some_iff_getElem]
 refine ⟨hj, by simp [FEnt.is, h.1, h.2], fun i hi => ?_⟩
 have := (List.pairwise_iff_getElem.1 hp) i j (by omega) hj hi
 simp only [FEnt.is, Bool.and_eq_true, beq_iff_eq]
 rintro ⟨h1, h2⟩
 exact this ⟨by rw [h1, h.1], by rw [h2, h.2]⟩
theorem run_findF (w : World) (l : List FEnt) (hl : FolOk l) (r c : Int) (hr : 0 ≤ r ∧ r ≤ 1000) (hc : 0 ≤ c ∧ c ≤ 1000) :
  (Instr.findKey 206 (kv r c) (l.map FEnt.obj)).run Tryz.prog w = .ok ((l.findIdx? (FEnt.is r c)).map fun j => (j, (l[j]?.map fun e => Value.int .i64 e.n).getD undef)) w := by
 obtain ⟨lx, hx⟩ := keyF r c hr hc
 rcases lawF.find w hx (l.map FEnt.obj) (fun e he => by
  obtain ⟨m, hm, rfl⟩ := List.mem_map.1 he
  obtain ⟨a, b, c', d⟩ := hl.keys m hm
  exact keyF m.r m.c ⟨a, b⟩ ⟨c', d⟩) with ⟨h, hn⟩ | ⟨j, e, h, hj, hk⟩
 ·rw [h]
  have : l.findIdx? (FEnt.is r c) = none := by
   rw [List.findIdx?_eq_none_iff]
   intro e he
   have := hn _ (List.mem_map_of_mem he)
   simp only [FEnt.is, Bool.and_eq_false_iff, beq_eq_false_iff_ne, ne_eq]
   by_cases h1 : e.r = r
   ·right; intro h2
    exact this (kv_inj.2 ⟨h1, h2⟩)
   ·left; exact h1
  rw [this]
  rfl
 ·rw [h]
  rw [List.getElem?_map] at hj
  obtain ⟨m, hm, rfl⟩ := Option.map_eq_some_iff.1 hj
  obtain ⟨hj', rfl⟩ := List.getElem?_eq_some_iff.1 hm
  have hk' := kv_inj.1 hk
  rw [ffind_of hl.apart hj' hk']
  simp [hj', FEnt.obj]
def lookF (l : List FEnt) (r c : Int) : Option Int := (l.find? (FEnt.is r c)).map FEnt.n
theorem ffind?_idx (l : List FEnt) (p : FEnt → Bool) : l.find? p = (l.findIdx? p).bind fun j => l[j]? := by
 induction l with
 | nil => rfl
 | cons e l ih =>
  simp only [List.find?_cons, List.findIdx?_cons]
  cases p e
  ·simp only [Bool.false_eq_true, if_false, ih]
   cases l.findIdx? p <;> simp
  ·simp
theorem zeroInt (w : World) : (zeroValue 3).run Tryz.prog w = .ok (.int .i64 0) w := by kernel_rfl
def toldV : Option Int → Value
 | none => .tuple #[.int .i64 0, .bool false]
 | some n => .tuple #[.int .i64 n, .bool true]
theorem run_lookupF (w : World) (m : Nat) (l : List FEnt) (clock : Nat) (hm : w.heap[m]? = some (folObj l clock)) (hl : FolOk l) (r c : Int) (hr : 0 ≤ r ∧ r ≤ 1000) (hc : 0 ≤ c ∧ c ≤ 1000) :
  (Instr.lookup 116 (.map (some m)) (kv r c) true).run Tryz.prog w = .ok (toldV (lookF l r c)) w := by
 obtain ⟨lx, hx⟩ := keyF r c hr hc
 have h1 := fun em => lawF.check w em hx
 have h2 := run_findF w l hl r c hr hc
 unfold folObj at hm
 have hg : (getObj m).run Tryz.prog w = .ok (.map (l.map FEnt.obj).toArray clock) w := by simp [getObj, Sem.run, hm]
 rw [lookF, ffind?_idx]
 cases hf : l.findIdx? (FEnt.is r c) with
 | none =>
  rw [hf] at h2
  simp [Instr.lookup, run_underlying Tryz.underlying116, hg, h1, h2, zeroInt, toldV]
 | some j =>
  have hj := (List.findIdx?_eq_some_iff_getElem.1 hf).1
  rw [hf] at h2
  simp [hj] at h2
  simp [Instr.lookup, run_underlying Tryz.underlying116, hg, h1, h2, zeroInt, hj, toldV]
def putF (l : List FEnt) (clock : Nat) (r c n : Int) : List FEnt × Nat :=
 match l.findIdx? (FEnt.is r c) with
 | some j => (l.modify j fun e => ⟨e.born, e.r, e.c, n⟩, clock)
 | none => (l ++ [⟨clock, r, c, n⟩], clock + 1)
theorem putF_some {l : List FEnt} {clock : Nat} {r c n : Int} {j : Nat} (h : l.findIdx? (FEnt.is r c) = some j) : putF l clock r c n = (l.modify j fun e => ⟨e.born, e.r, e.c, n⟩, clock) := by
 unfold putF; rw [h]
theorem putF_none {l : List FEnt} {clock : Nat} {r c n : Int} (h : l.findIdx? (FEnt.is r c) = none) : putF l clock r c n = (l ++ [⟨clock, r, c, n⟩], clock + 1) := by
 unfold putF; rw [h]
theorem fmap_modify (g : MapEntry → MapEntry) (g' : FEnt → FEnt) : ∀ (l : List FEnt) (j : Nat) (hj : j < l.length), g l[j].obj = (g' l[j]).obj → (l.map FEnt.obj).modify j g = (l.modify j g').map FEnt.obj
 | e :: l, 0, _, h => by simpa using h
 | e :: l, j + 1, hj, h => by
  have := fmap_modify g g' l j (by simpa using hj) (by simpa using h)
  simp [this]
theorem run_updateF (w : World) (m : Nat) (l : List FEnt) (clock : Nat) (hm : w.heap[m]? = some (folObj l clock)) (hl : FolOk l) (r c n : Int) (hr : 0 ≤ r ∧ r ≤ 1000) (hc : 0 ≤ c ∧ c ≤ 1000) :
  (Instr.mapUpdate 116 (.map (some m)) (kv r c) (.int .i64 n)).run Tryz.prog w = .ok () (setBlock w m (folObj (putF l clock r c n).1 (putF l clock r c n).2)) := by
 obtain ⟨lx, hx⟩ := keyF r c hr hc
 have h1 := fun em => lawF.check w em hx
 have h2 := run_findF w l hl r c hr hc
 have h3 := lawF.stays w hx
 unfold folObj at hm
 have hg : (getObj m).run Tryz.prog w = .ok (.map (l.map FEnt.obj).toArray clock) w := by simp [getObj, Sem.run, hm]
 have hs : ∀ o, (setObj m o).run Tryz.prog w = .ok () (setBlock w m o) := fun o => by simp [setObj, Sem.run, hm, setBlock]
 cases hf : l.findIdx? (FEnt.is r c) with
 | none =>
  rw [hf] at h2
  rw [putF_none hf]
  simp [Instr.mapUpdate, run_underlying Tryz.underlying116, hg, hs, h1, h2, folObj, FEnt.obj]
 | some j =>
  have hj := (List.findIdx?_eq_some_iff_getElem.1 hf)
  obtain ⟨hj, hk, _⟩ := hj
  simp [FEnt.is] at hk
  rw [hf] at h2
  simp [hj] at h2
  have hk' : (l[j]).obj.key = kv r c := by simp [FEnt.obj, hk]
  rw [putF_some hf]
  simp [Instr.mapUpdate, run_underlying Tryz.underlying116, hg, hs, h1, h2, folObj, hj, hk', h3]
  rw [fmap_modify _ (fun e => ⟨e.born, e.r, e.c, n⟩) l j hj (by simp [FEnt.obj, hk])]
theorem FolOk.nil : FolOk [] := ⟨fun _ h => by simp at h, List.Pairwise.nil⟩
theorem FolOk.put {l : List FEnt} (clock : Nat) (h : FolOk l) (r c n : Int) (hr : 0 ≤ r ∧ r ≤ 1000) (hc : 0 ≤ c ∧ c ≤ 1000) : FolOk (putF l clock r c n).1 := by
 cases hf : l.findIdx? (FEnt.is r c) with
 | some j =>
  rw [putF_some hf]
  refine ⟨fun e he => ?_, pairwise_modify (g := fun e : FEnt => ⟨e.born, e.r, e.c, n⟩) (fun a b x => x) (fun a b x => x) h.apart⟩
  rcases mem_modify he with he | ⟨y, hy, rfl⟩
  ·exact h.keys e he
  ·exact h.keys y hy
 | none =>
  rw [putF_none hf]
  rw [List.findIdx?_eq_none_iff] at hf
  refine ⟨fun e he => ?_, ?_⟩
  ·rcases List.mem_append.1 he with he | he
   ·exact h.keys e he
   ·simp at he; subst he; exact ⟨hr.1, hr.2, hc.1, hc.2⟩
  ·refine List.pairwise_append.2 ⟨h.apart, by simp, fun a ha b hb => ?_⟩
   simp at hb; subst hb
   exact fis_false.1 (hf a ha)
theorem ffind?_modify (g : FEnt → FEnt) (q : FEnt → Bool) : ∀ (l : List FEnt) (j : Nat), (∀ h : j < l.length, q l[j] = false ∧ q (g l[j]) = false) → (l.modify j g).find? q = l.find? q
 | [], _, _ => by simp
 | e :: l, 0, h => by
  have := h (by simp)
  simp at this
  simp [this.1, this.2]
 | e :: l, j + 1, h => by
  simp only [List.modify_succ_cons, List.find?_cons]
  rw [ffind?_modify g q l j (fun hj => by have := h (by simpa using hj); rwa [List.getElem_cons_succ] at this)]
theorem lookF_put {l : List FEnt} (clock : Nat) (h : FolOk l) (r c n r' c' : Int) : lookF (putF l clock r c n).1 r' c' = if r' = r ∧ c' = c then some n else lookF l r' c' := by
 cases hf : l.findIdx? (FEnt.is r c) with
 | none =>
  rw [putF_none hf]
  rw [List.findIdx?_eq_none_iff] at hf
  unfold lookF
  simp only [List.find?_append]
  by_cases hne : r' = r ∧ c' = c
  ·rw [if_pos hne, hne.1, hne.2]
   rw [List.find?_eq_none.2 (fun e he => by rw [hf e he]; simp)]
   simp [FEnt.is]
  ·rw [if_neg hne]
   have : FEnt.is r' c' ⟨clock, r, c, n⟩ = false := fis_false.2 (fun e => hne ⟨e.1.symm, e.2.symm⟩)
   simp [this]
 | some j =>
  rw [putF_some hf]
  obtain ⟨hj, hk, _⟩ := List.findIdx?_eq_some_iff_getElem.1 hf
  have hk := fis_true.1 hk
  have hp : (l.modify j fun e => (⟨e.born, e.r, e.c, n⟩ : FEnt)).Pairwise fun a b => ¬ (a.r = b.r ∧ a.c = b.c) := pairwise_modify (g := fun e : FEnt => ⟨e.born, e.r, e.c, n⟩) (fun a b x => x) (fun a b x => x) h.apart
  by_cases hne : r' = r ∧ c' = c
  ·rw [if_pos hne, hne.1, hne.2]
   unfold lookF
   rw [ffind?_idx, ffind_of hp (j := j) (by simpa using hj) (by simpa using hk)]
   simp [hj]
  ·rw [if_neg hne]
   unfold lookF
   rw [ffind?_modify _ _ l j (fun _ => ⟨fis_false.2 (fun e => hne ⟨by rw [← e.1, hk.1], by rw [← e.2, hk.2]⟩), fis_false.2 (fun e => hne ⟨by rw [← e.1]; exact hk.1, by rw [← e.2]; exact hk.2⟩)⟩)]
open Go.RowKit
open M
set_option maxHeartbeats 2000000
attribute [local go_sem] idx40_0 idx40_1 idx40_2 idx40_3
theorem mod_cell {w w' : World} (h : Mod No w w') {a : Addr} {v : Value} (hc : w.cell? a = some v) : w'.cell? a = some v := by
 have hlt := World.block_lt_of_cell? w _ hc
 rw [World.cell?_of_block (w := w) (h.block _ hlt (fun x => x))]
 exact hc
theorem mod_fol {S : Nat → Prop} {w w' : World} (h : Mod S w w') {m : Nat} {es : List FEnt} {clock : Nat} (hm : w.heap[m]? = some (folObj es clock)) (hs : ¬ S m) : w'.heap[m]? = some (folObj es clock) := by
 rw [h.block m (Array.getElem?_eq_some_iff.1 hm).1 hs]; exact hm
def tb (es : List FEnt) (n c : Int) : Int := (lookF es n c).getD (-1)
theorem wasTold_walk (fb fo m n clock : Nat) (es : List FEnt) (w : World) (hn : n ≤ 20) (hc : w.cell? ⟨fb, fo, none⟩ = some (.map (some m))) (hm : w.heap[m]? = some (folObj es clock)) (hl : FolOk es) :
  Calls Tryz.prog 116 #[.pointer (some ⟨fb, fo, none⟩), .int .i64 n] w fun e w' => e = .returned (.agg #[.int .i64 (tb es n 0), .int .i64 (tb es n 1), .int .i64 (tb es n 2), .int .i64 (tb es n 3)]) ∧ Mod No w w' := by
 have HL := hide fun (W : World) (hW : Mod No w W) (k : Int) (hk : 0 ≤ k ∧ k < 4) => (show (Instr.lookup 116 (.map (some m)) (.agg #[.int .i64 n, .int .i64 k]) true).run Tryz.prog W = .ok (toldV (lookF es n k)) W from run_lookupF W m es clock (mod_fol hW hm (fun x => x)) hl n k (by omega) (by omega))
 have HC := hide hc
 clear hc hm
 go_enter Tryz.func116, Tryz.ntmps116
 go_wp2_with fail
 go_loopw [9] (fun i wr => Hid (Mod No w wr) ∧ Hid (Has wr w.heap.size #[.int .i64 0, .int .i64 0, .int .i64 0, .int .i64 0] 37) ∧
   ((i = .int .i64 0 ∧ Hid (Has wr (w.heap.size + 1) #[.int .i64 0, .int .i64 0, .int .i64 0, .int .i64 0] 37)) ∨
    (i = .int .i64 1 ∧ Hid (Has wr (w.heap.size + 1) #[.int .i64 (tb es n 0), .int .i64 0, .int .i64 0, .int .i64 0] 37)) ∨
    (i = .int .i64 2 ∧ Hid (Has wr (w.heap.size + 1) #[.int .i64 (tb es n 0), .int .i64 (tb es n 1), .int .i64 0, .int .i64 0] 37)) ∨
    (i = .int .i64 3 ∧ Hid (Has wr (w.heap.size + 1) #[.int .i64 (tb es n 0), .int .i64 (tb es n 1), .int .i64 (tb es n 2), .int .i64 0] 37)) ∨
    (i = .int .i64 4 ∧ Hid (Has wr (w.heap.size + 1) #[.int .i64 (tb es n 0), .int .i64 (tb es n 1), .int .i64 (tb es n 2), .int .i64 (tb es n 3)] 37)))) (fun i _ => 4 - (intOf i).toNat)
 case atStart =>
  refine ⟨((Mod.refl No w).alloc _).alloc _, (Has.new w _ _).alloc _, .inl ⟨rfl, hide ?_⟩⟩
  have := Has.new (w.alloc (.cells #[.int .i64 0, .int .i64 0, .int .i64 0, .int .i64 0] 37)) #[.int .i64 0, .int .i64 0, .int .i64 0, .int .i64 0] 37
  simpa using this
 case round =>
  obtain ⟨hm, h0, hr⟩ := hrel
  have hz0 := (unhide h0).frozen
  have hc0 := (unhide h0).cell
  have hl0 := (unhide h0).lt
  have hcf := mod_cell (unhide hm) (unhide HC)
  have L0 := (unhide HL) wr (unhide hm) 0 (by omega)
  have L1 := (unhide HL) wr (unhide hm) 1 (by omega)
  have L2 := (unhide HL) wr (unhide hm) 2 (by omega)
  have L3 := (unhide HL) wr (unhide hm) 3 (by omega)
  have E0 : tb es n 0 = (lookF es n 0).getD (-1) := rfl
  have E1 : tb es n 1 = (lookF es n 1).getD (-1) := rfl
  have E2 : tb es n 2 = (lookF es n 2).getD (-1) := rfl
  have E3 : tb es n 3 = (lookF es n 3).getD (-1) := rfl
  generalize tb es n 0 = t0 at *
  generalize tb es n 1 = t1 at *
  generalize tb es n 2 = t2 at *
  generalize tb es n 3 = t3 at *
  rcases hr with ⟨rfl, hr⟩ | ⟨rfl, hr⟩ | ⟨rfl, hr⟩ | ⟨rfl, hr⟩ | ⟨rfl, hr⟩
  case inr.inr.inr.inr =>
   have hc1 := (unhide hr).cell
   have hl1 := (unhide hr).lt
   have d0 : wr.cell? ⟨w.heap.size, 0, none⟩ = some (.int .i64 0) := hc0 0
   have d1 : wr.cell? ⟨w.heap.size, 1, none⟩ = some (.int .i64 0) := hc0 1
   have d2 : wr.cell? ⟨w.heap.size, 2, none⟩ = some (.int .i64 0) := hc0 2
   have d3 : wr.cell? ⟨w.heap.size, 3, none⟩ = some (.int .i64 0) := hc0 3
   go_wp2
   refine bodyPost_ret (by simp [results, Tryz.results116, go_sem, d0, d1, d2, d3]; try rfl) rfl ?_
   exact ⟨rfl, by repeat' (first | with_reducible exact unhide hm | refine Mod.setCell ?_ (Or.inr (Nat.le_refl _)) _)⟩
  case' inl => cases hx : lookF es n 0
  case' inr.inl => cases hx : lookF es n 1
  case' inr.inr.inl => cases hx : lookF es n 2
  case' inr.inr.inr.inl => cases hx : lookF es n 3
  all_goals
   have hc1 := (unhide hr).cell
   have hl1 := (unhide hr).lt
   have hz1 := (unhide hr).frozen
   simp only [hx, toldV, Option.getD_none, Option.getD_some] at L0 L1 L2 L3 E0 E1 E2 E3
   go_wp2
   go_roundw
   ·have s0 := (unhide hr).set 0 (.int .i64 t0)
    have s1 := (unhide hr).set 1 (.int .i64 t1)
    have s2 := (unhide hr).set 2 (.int .i64 t2)
    have s3 := (unhide hr).set 3 (.int .i64 t3)
    refine ⟨(unhide hm).setCell (.inr (Nat.le_succ _)) _, (unhide h0).set_ne (by simp) _, ?_⟩
    first
     |(refine .inr (.inl ⟨rfl, ?_⟩); rw [← E0]; exact s0)
     |(refine .inr (.inr (.inl ⟨rfl, ?_⟩)); rw [← E1]; exact s1)
     |(refine .inr (.inr (.inr (.inl ⟨rfl, ?_⟩))); rw [← E2]; exact s2)
     |(refine .inr (.inr (.inr (.inr ⟨rfl, ?_⟩))); rw [← E3]; exact s3)
   ·simp [intOf]
structure Nw where
 n : Int
 c : Int
 l : Int
def nwL (x : Nw) : List Value := [.int .i64 x.n, .int .i64 x.c, .int .i64 x.l]
structure Tel where
 news : List Nw
 more : Bool
 es : List FEnt
 clock : Nat
def tellStep (most : Int) (s : Tel) (x : Nw) : Tel :=
 if x.l = tb s.es x.n x.c then s
 else if (s.news.length : Int) = most then ⟨s.news, true, s.es, s.clock⟩
 else ⟨s.news ++ [x], s.more, (putF s.es s.clock x.n x.c x.l).1, (putF s.es s.clock x.n x.c x.l).2⟩
def Nw.ok (x : Nw) : Prop := 0 ≤ x.n ∧ x.n ≤ 20 ∧ 0 ≤ x.c ∧ x.c < 4
theorem tellStep_ok {most : Int} {s : Tel} {x : Nw} (h : FolOk s.es) (hx : x.ok) : FolOk (tellStep most s x).es := by
 unfold tellStep
 split
 ·exact h
 ·split
  ·exact h
  ·exact h.put _ _ _ _ ⟨hx.1, by have := hx.2.1; omega⟩ ⟨hx.2.2.1, by have := hx.2.2.2; omega⟩
theorem tellStep_tb {most : Int} {s : Tel} {x : Nw} (h : FolOk s.es) (n c : Int) (hne : ¬ (n = x.n ∧ c = x.c)) : tb (tellStep most s x).es n c = tb s.es n c := by
 unfold tellStep
 split
 ·rfl
 ·split
  ·rfl
  ·unfold tb
   rw [lookF_put _ h, if_neg hne]
def at4 (e0 e1 e2 e3 : Int) (k : Nat) : Int := if k = 0 then e0 else if k = 1 then e1 else if k = 2 then e2 else e3
def items (n e0 e1 e2 e3 : Int) (k : Nat) : List Nw := (List.range k).map fun (j : Nat) => (⟨n, (j : Int), at4 e0 e1 e2 e3 j⟩ : Nw)
theorem items_succ (n e0 e1 e2 e3 : Int) (k : Nat) : items n e0 e1 e2 e3 (k + 1) = items n e0 e1 e2 e3 k ++ [⟨n, k, at4 e0 e1 e2 e3 k⟩] := by
 unfold items
 rw [List.range_succ, List.map_append]
 rfl
def tells (most : Int) (s : Tel) (l : List Nw) : Tel := l.foldl (tellStep most) s
theorem tells_snoc (most : Int) (s : Tel) (l : List Nw) (x : Nw) : tells most s (l ++ [x]) = tellStep most (tells most s l) x := by
 unfold tells
 rw [List.foldl_append]
 rfl
theorem tells_append (most : Int) (s : Tel) (l l' : List Nw) : tells most s (l ++ l') = tells most (tells most s l) l' := by
 unfold tells
 rw [List.foldl_append]
theorem tells_tb {most : Int} (n c : Int) : ∀ (l : List Nw) (s : Tel), FolOk s.es → (∀ x ∈ l, x.ok) → (∀ x ∈ l, ¬ (n = x.n ∧ c = x.c)) → tb (tells most s l).es n c = tb s.es n c
 | [], s, h, _, _ => rfl
 | x :: l, s, h, hx, hne => by
  have := tells_tb (most := most) n c l (tellStep most s x) (tellStep_ok h (hx x (by simp))) (fun y hy => hx y (by simp [hy])) (fun y hy => hne y (by simp [hy]))
  rw [show tells most s (x :: l) = tells most (tellStep most s x) l from rfl, this, tellStep_tb h n c (hne x (by simp))]
theorem items_ok {n e0 e1 e2 e3 : Int} (hn : 0 ≤ n ∧ n ≤ 20) {k : Nat} (hk : k ≤ 4) : ∀ x ∈ items n e0 e1 e2 e3 k, x.ok := by
 intro x hx
 obtain ⟨j, hj, rfl⟩ := List.mem_map.1 hx
 have := List.mem_range.1 hj
 exact ⟨hn.1, hn.2, by simp only; omega, by simp only; omega⟩
theorem items_tb {most : Int} {s : Tel} (h : FolOk s.es) {n e0 e1 e2 e3 : Int} (hn : 0 ≤ n ∧ n ≤ 20) (k : Nat) (hk : k ≤ 4) : tb (tells most s (items n e0 e1 e2 e3 k)).es n k = tb s.es n k :=
 tells_tb n k _ s h (items_ok hn hk) (fun x hx => by
  obtain ⟨j, hj, rfl⟩ := List.mem_map.1 hx
  have := List.mem_range.1 hj
  simp only
  omega)
theorem tells_same {most : Int} {s : Tel} {n e0 e1 e2 e3 : Int} (h0 : e0 = tb s.es n 0) (h1 : e1 = tb s.es n 1) (h2 : e2 = tb s.es n 2) (h3 : e3 = tb s.es n 3) : tells most s (items n e0 e1 e2 e3 4) = s := by
 have : items n e0 e1 e2 e3 4 = [⟨n, 0, e0⟩, ⟨n, 1, e1⟩, ⟨n, 2, e2⟩, ⟨n, 3, e3⟩] := rfl
 rw [this]
 simp only [tells, List.foldl_cons, List.foldl_nil]
 rw [show tellStep most s ⟨n, 0, e0⟩ = s from if_pos h0, show tellStep most s ⟨n, 1, e1⟩ = s from if_pos h1, show tellStep most s ⟨n, 2, e2⟩ = s from if_pos h2, show tellStep most s ⟨n, 3, e3⟩ = s from if_pos h3]
theorem tellStep_len {most : Int} {s : Tel} {x : Nw} (h : (s.news.length : Int) ≤ most) : ((tellStep most s x).news.length : Int) ≤ most := by
 unfold tellStep
 split
 ·exact h
 ·split
  ·exact h
  ·simp only [List.length_append, List.length_cons, List.length_nil]; omega
theorem tells_len {most : Int} : ∀ (l : List Nw) (s : Tel), (s.news.length : Int) ≤ most → ((tells most s l).news.length : Int) ≤ most
 | [], s, h => h
 | x :: l, s, h => tells_len l (tellStep most s x) (tellStep_len h)
structure Bull (w : World) (bb m : Nat) (fresh : Bool) (s : Tel) (v : Value) : Prop where
 has : Has w bb #[.bool fresh, v, .bool s.more] 97
 row : w.ownsRow 0 68 3 v s.news.length (s.news.flatMap nwL)
 own : ∀ k, v.ownBlock = some k → bb < k ∧ k ≠ m
 map : w.heap[m]? = some (folObj s.es s.clock)
 ok : FolOk s.es
theorem Bull.still {w w' : World} {bb m : Nat} {fresh : Bool} {s : Tel} {v : Value} (h : Bull w bb m fresh s v) (hm : Mod No w w') : Bull w' bb m fresh s v :=
 ⟨hm.has h.has (fun x => x), hm.owns h.row (fun _ _ x => x), h.own, mod_fol hm h.map (fun x => x), h.ok⟩
theorem Has.fol_ne {w : World} {b m : Nat} {cs : Array Value} {T : TypeId} {es : List FEnt} {clock : Nat} (h : Has w b cs T) (hm : w.heap[m]? = some (folObj es clock)) : m ≠ b := by
 rintro rfl
 unfold Has at h
 rw [h] at hm
 simp [folObj] at hm
theorem infoNw : (Tryz.prog.info? 68).map (fun i => (i.zero, i.size, i.bytes)) = some (some (.agg #[.int .i64 0, .int .i64 0, .int .i64 0]), 3, 24) := by kernel_rfl
attribute [local go_sem] eq41 guard40
theorem same4_iff {a0 a1 a2 a3 b0 b1 b2 b3 : Int} : same4 a0 a1 a2 a3 b0 b1 b2 b3 = true ↔ a0 = b0 ∧ a1 = b1 ∧ a2 = b2 ∧ a3 = b3 := by
 simp [same4]
theorem idx4 (e0 e1 e2 e3 : Int) (k : Nat) (hk : k < 4) (w : World) : (Instr.index 37 (.agg #[.int .i64 e0, .int .i64 e1, .int .i64 e2, .int .i64 e3]) (.int .i64 k)).run Tryz.prog w = .ok (.int .i64 (at4 e0 e1 e2 e3 k)) w := by
 have : k = 0 ∨ k = 1 ∨ k = 2 ∨ k = 3 := by omega
 rcases this with rfl | rfl | rfl | rfl
 ·exact idx40_0 ..
 ·exact idx40_1 ..
 ·exact idx40_2 ..
 ·exact idx40_3 ..
theorem cell4 (e0 e1 e2 e3 : Int) (k : Nat) (hk : k < 4) : (#[Value.int .i64 e0, .int .i64 e1, .int .i64 e2, .int .i64 e3] : Array Value)[k]? = some (.int .i64 (at4 e0 e1 e2 e3 k)) := by
 have : k = 0 ∨ k = 1 ∨ k = 2 ∨ k = 3 := by omega
 rcases this with rfl | rfl | rfl | rfl <;> rfl
theorem tellOf_walk (fb fo m n bb : Nat) (e0 e1 e2 e3 most : Int) (fresh : Bool) (s : Tel) (v : Value) (w : World) (hn : n ≤ 20) (hmost : 1 ≤ most ∧ most ≤ 50) (hlen : (s.news.length : Int) ≤ most)
  (hc : w.cell? ⟨fb, fo, none⟩ = some (.map (some m))) (hf : fb < bb) (hb : Bull w bb m fresh s v) :
  Calls Tryz.prog 93 #[.pointer (some ⟨fb, fo, none⟩), .int .i64 n, .agg #[.int .i64 e0, .int .i64 e1, .int .i64 e2, .int .i64 e3], .int .i64 most, .pointer (some ⟨bb, 0, none⟩)] w fun e w' =>
   e = .returned (.tuple #[]) ∧ ∃ v', Bull w' bb m fresh (tells most s (items n e0 e1 e2 e3 4)) v' ∧ Mod (fun k => bb ≤ k ∨ k = m) w w' := by
 have HW := hide fun (W : World) (hW : Mod No w W) => wasTold_walk fb fo m n s.clock s.es W hn (mod_cell hW hc) (mod_fol hW hb.map (fun x => x)) hb.ok
 have HC := hide hc
 have HB := hide hb
 have hlb := hb.has.lt
 clear hc hb
 go_enter Tryz.func93, Tryz.ntmps93
 go_wp2_with fail
 have M1 := hide ((Mod.refl No w).alloc (.cells #[.int .i64 e0, .int .i64 e1, .int .i64 e2, .int .i64 e3] 37))
 have B1 := hide (Has.new w #[.int .i64 e0, .int .i64 e1, .int .i64 e2, .int .i64 e3] 37)
 refine ((unhide HW) _ (unhide M1)).mono ?_
 rintro e w2 ⟨rfl, m2⟩
 have B2 := hide (m2.has (unhide B1) (fun x => x))
 have M2 := hide ((unhide M1).trans m2)
 have s2 : w.heap.size < w2.heap.size := by have := m2.size; simp at this; omega
 clear HW m2 B1 M1
 have bc := (unhide B2).cell
 have bl := (unhide B2).lt
 have I0 := hide (show ∀ k : Nat, k ≤ 4 → at4 (tb s.es n 0) (tb s.es n 1) (tb s.es n 2) (tb s.es n 3) k = tb s.es n k ∨ k = 4 from fun k hk => by
  have : k = 0 ∨ k = 1 ∨ k = 2 ∨ k = 3 ∨ k = 4 := by omega
  rcases this with rfl | rfl | rfl | rfl | rfl
  ·exact .inl rfl
  ·exact .inl rfl
  ·exact .inl rfl
  ·exact .inl rfl
  ·exact .inr rfl)
 have SM := hide (fun (h : same4 e0 e1 e2 e3 (tb s.es n 0) (tb s.es n 1) (tb s.es n 2) (tb s.es n 3) = true) => (show tells most s (items n e0 e1 e2 e3 4) = s by
  obtain ⟨h0, h1, h2, h3⟩ := same4_iff.1 h
  exact tells_same h0 h1 h2 h3))
 generalize tb s.es n 0 = t0 at *
 generalize tb s.es n 1 = t1 at *
 generalize tb s.es n 2 = t2 at *
 generalize tb s.es n 3 = t3 at *
 by_cases hs : same4 e0 e1 e2 e3 t0 t1 t2 t3 = true
 ·go_wp2
  first | go_end0 | refine bodyPost_ret (results_none rfl _ _ _) rfl ?_
  refine ⟨rfl, v, ?_, ?_⟩
  ·rw [(unhide SM) hs]
   exact ((unhide HB).still (unhide M2)).still ((Mod.refl No _).alloc _)
  ·exact ((unhide M2).alloc _).mono (fun _ _ x => x.elim)
 ·have hs' : same4 e0 e1 e2 e3 t0 t1 t2 t3 = false := by simpa using hs
  go_wp2_with fail
  clear bc hs hs' SM
  obtain ⟨iNw, q0, q1, q2, q3⟩ := info_parts infoNw
  have HFRAME := hide (fun (W : World) (hW : Mod (fun k => bb ≤ k ∨ k = m) w W) => (show W.cell? ⟨fb, fo, none⟩ = some (.map (some m)) from by
   have hne : fb ≠ m := by
    intro e
    have h1 := unhide HC
    rw [e] at h1
    have h2 := (unhide HB).map
    simp [World.cell?, h2, folObj] at h1
   have hlt := World.block_lt_of_cell? w _ (unhide HC)
   rw [World.cell?_of_block (w := w) (hW.block _ hlt (fun x => by rcases x with x | x; exact absurd x (by show ¬ bb ≤ fb; omega); exact hne x))]
   exact unhide HC))
  have l0 : (1 : Int) ≤ most ∧ most ≤ 50 := hmost
  go_loopw [20] (fun i wr => ∃ (k : Nat) (v' : Value), i = .int .i64 k ∧ k ≤ 4 ∧ Hid (Bull wr bb m fresh (tells most s (items n e0 e1 e2 e3 k)) v') ∧ Hid (Mod (fun k => bb ≤ k ∨ k = m) w wr) ∧
    Hid (Has wr w2.heap.size #[.int .i64 t0, .int .i64 t1, .int .i64 t2, .int .i64 t3] 37) ∧ Hid (∀ j, v'.ownBlock = some j → j ≠ w2.heap.size)) (fun i _ => 4 - (intOf i).toNat)
  case atStart =>
   refine ⟨0, v, rfl, by omega, ?_, ?_, Has.new w2 _ _, fun j hj => by have := ((unhide HB).row.lt j hj).2; omega⟩
   ·exact ((unhide HB).still (unhide M2)).still ((Mod.refl No _).alloc _)
   ·exact ((unhide M2).alloc _).mono (fun _ _ x => x.elim)
  case round =>
   obtain ⟨k, v', rfl, hk, hB, hM, hT, hV⟩ := hrel
   by_cases h4 : k = 4
   ·subst h4
    go_wp2
    go_end0
    exact ⟨rfl, v', unhide hB, unhide hM⟩
   have hk4 : k < 4 := by omega
   have hk5 : (k : Int) < 4 := by omega
   have hok := (unhide hB).ok
   have hTs := hide (tells_snoc most s (items n e0 e1 e2 e3 k) ⟨n, k, at4 e0 e1 e2 e3 k⟩)
   have htb : tb (tells most s (items n e0 e1 e2 e3 k)).es n k = at4 t0 t1 t2 t3 k := by
    rw [items_tb (unhide HB).ok ⟨by omega, by omega⟩ k hk]
    rcases (unhide I0) k hk with h | h
    ·exact h.symm
    ·exact absurd h h4
   have hlen' := tells_len (most := most) (items n e0 e1 e2 e3 k) s hlen
   rw [← items_succ] at hTs
   have hi := fun W => idx4 e0 e1 e2 e3 k hk4 W
   have cT : wr.cell? ⟨w2.heap.size, k, none⟩ = some (.int .i64 (at4 t0 t1 t2 t3 k)) := by rw [(unhide hT).cell]; exact cell4 t0 t1 t2 t3 k hk4
   have lT := (unhide hT).lt
   have bc := (unhide hB).has.cell
   have bf := (unhide hB).has.frozen
   have bl2 := (unhide hB).has.lt
   have HTB := hide htb
   have HLEN := hide hlen'
   have HTS := hide hTs
   clear htb hlen' hTs
   generalize tells most s (items n e0 e1 e2 e3 k) = T at *
   generalize at4 e0 e1 e2 e3 k = ek at *
   generalize at4 t0 t1 t2 t3 k = tk at *
   by_cases h1 : ek = tk
   ·have h1' : (ek == tk) = true := by simpa using h1
    go_wp2
    go_roundw
    ·refine ⟨k + 1, v', by simp, by omega, ?_, hM, hT, hV⟩
     rw [unhide HTS]
     unfold tellStep
     rw [if_pos (by simp only; rw [unhide HTB]; exact h1)]
     exact hB
    ·simp [intOf]; omega
   have h1' : (ek == tk) = false := by simpa using h1
   obtain ⟨a, cp, rfl⟩ := slice_of_owns (unhide hB).row
   by_cases h2 : (T.news.length : Int) = most
   ·have h2' : ((T.news.length : Int) == most) = true := by simpa using h2
    go_wp2
    go_roundw
    ·have hm1 : Mod (fun j => j = bb) wr (wr.setCell ⟨bb, 2, none⟩ (.bool true)) := (Mod.refl _ wr).at 2 _
     refine ⟨k + 1, .slice a T.news.length cp, by simp, by omega, hide ?_, (unhide hM).setCell (.inl (.inl (Nat.le_refl _))) _, hm1.has (unhide hT) (by have := (unhide M2).size; omega), hV⟩
     rw [unhide HTS]
     unfold tellStep
     rw [if_neg (by simp only; rw [unhide HTB]; exact h1), if_pos h2]
     exact ⟨(unhide hB).has.set 2 _, hm1.owns (unhide hB).row (fun j hj e => by have := ((unhide hB).own j hj).1; omega), (unhide hB).own, mod_fol hm1 (unhide hB).map (fun e => (unhide hB).has.fol_ne (unhide hB).map e), (unhide hB).ok⟩
    ·simp [intOf]; omega
   have h2' : ((T.news.length : Int) == most) = false := by simpa using h2
   have ml := (Array.getElem?_eq_some_iff.1 (unhide hB).map).1
   have hnm := (unhide hB).has.fol_ne (unhide hB).map
   have HO := hide (((Mod.refl No wr).alloc (.cells #[.int .i64 n, .int .i64 k, .int .i64 ek] 68)).owns (unhide hB).row (fun _ _ x => x))
   have HRD := hide (show Reads (wr.alloc (.cells #[.int .i64 n, .int .i64 k, .int .i64 ek] 68)) (.slice (some ⟨wr.heap.size, 0, none⟩) 1 1) 1 (nwL ⟨n, k, ek⟩) from
    .inr ⟨⟨wr.heap.size, 0, none⟩, 1, rfl, fun j u hu => by
     rw [Addr.add_mid, Nat.zero_add, (Has.new wr #[.int .i64 n, .int .i64 k, .int .i64 ek] 68).cell, ← Array.getElem?_toList]
     exact hu⟩)
   have HM6 := hide (fun (w6 : World) (hg : (wr.alloc (.cells #[.int .i64 n, .int .i64 k, .int .i64 ek] 68)).grownBy w6 (Value.slice a T.news.length cp).ownBlock) => (show Mod (fun k => bb ≤ k ∨ k = m) w w6 from
    ((unhide hM).alloc _).grown hg (fun j hj => .inl (.inl (Nat.le_of_lt ((unhide hB).own j hj).1)))))
   have HB6 := hide (fun (w6 : World) (hg : (wr.alloc (.cells #[.int .i64 n, .int .i64 k, .int .i64 ek] 68)).grownBy w6 (Value.slice a T.news.length cp).ownBlock) => (show Has w6 bb #[.bool fresh, .slice a T.news.length cp, .bool T.more] 97 ∧ w6.heap[m]? = some (folObj T.es T.clock) ∧ Has w6 w2.heap.size #[.int .i64 t0, .int .i64 t1, .int .i64 t2, .int .i64 t3] 37 from by
    have hmr : Mod (fun j => some j = (Value.slice a T.news.length cp).ownBlock) wr w6 := ((Mod.refl _ wr).alloc _).grown hg (fun j hj => .inl hj.symm)
    refine ⟨hmr.has (unhide hB).has (fun e => ?_), mod_fol hmr (unhide hB).map (fun e => ((unhide hB).own m e.symm).2 rfl), hmr.has (unhide hT) (fun e => ?_)⟩
    ·have := ((unhide hB).own bb e.symm).1; omega
    ·exact (unhide hV) _ e.symm rfl))
   have HU6 := hide (fun (W : World) (hW : W.heap[m]? = some (folObj T.es T.clock)) => (show (Instr.mapUpdate 116 (.map (some m)) (.agg #[.int .i64 n, .int .i64 k]) (.int .i64 ek)).run Tryz.prog W = .ok () (setBlock W m (folObj (putF T.es T.clock n k ek).1 (putF T.es T.clock n k ek).2)) from
    run_updateF W m T.es T.clock hW hok n k ek (by omega) (by omega)))
   have hfb : fb ≠ bb := by omega
   have hL49 : (T.news.length : Int) < most := by have := unhide HLEN; omega
   go_wp2_with (first | (at_builtin; refine wpList_append_row rfl (.tmp 28) (.tmp 33) 66 rfl 68 iNw _ 3 24 Tryz.underlying66 q0 q1 q2 q3 rfl (by decide) (.slice a T.news.length cp) T.news.length _ (by simp [Act.eval]) (by exact unhide HO) (.slice (some ⟨wr.heap.size, 0, none⟩) 1 1) 1 (nwL ⟨n, k, ek⟩) (by simp [Act.eval]) (by exact unhide HRD) rfl (by intro u hu; simp [nwL] at hu; rcases hu with rfl | rfl | rfl <;> rfl) (by unfold maxLen; omega) (by omega) ?_; intro v6 w6 ho6 hg6 hs6; obtain ⟨a6, c6, rfl⟩ := slice_of_owns ho6; have M6 := hide ((unhide HM6) _ hg6); have B6 := hide ((unhide HB6) _ hg6); have pc6 := (unhide B6).1.cell; have pf6 := (unhide B6).1.frozen; have pl6 := (unhide B6).1.lt; have fc6 := (unhide HFRAME) _ (unhide M6); have hU6 := (unhide HU6) (w6.setCell ⟨bb, 1, none⟩ (.slice a6 (T.news.length + 1) c6)) (mod_fol ((Mod.refl (fun j => j = bb) w6).at 1 _) (unhide B6).2.1 (fun e => hnm e))))
   go_roundw
   ·have h5 := (unhide B6).1.set 1 (.slice a6 (T.news.length + 1) c6)
    have hm5 : Mod (fun j => j = bb) w6 (w6.setCell ⟨bb, 1, none⟩ (.slice a6 (T.news.length + 1) c6)) := (Mod.refl _ w6).at 1 _
    have hmp := mod_fol hm5 (unhide B6).2.1 (fun e => hnm e)
    have hm7 : Mod (fun j => j = m) (w6.setCell ⟨bb, 1, none⟩ (.slice a6 (T.news.length + 1) c6)) (setBlock (w6.setCell ⟨bb, 1, none⟩ (.slice a6 (T.news.length + 1) c6)) m (folObj (putF T.es T.clock n k ek).1 (putF T.es T.clock n k ek).2)) := Mod.setBlock (S := fun j => j = m) (Mod.refl _ _) (.inl rfl) _
    have hsz := hg6.size
    simp only [World.size_alloc] at hsz
    have own6 : ∀ j, (Value.slice a6 (T.news.length + 1) c6).ownBlock = some j → bb < j ∧ j ≠ m ∧ j ≠ w2.heap.size := fun j hj => by
     rcases hs6 j hj with h | h
     ·exact ⟨((unhide hB).own j h).1, ((unhide hB).own j h).2, (unhide hV) j h⟩
     ·simp only [World.size_alloc] at h
      exact ⟨by omega, by omega, by omega⟩
    refine ⟨k + 1, .slice a6 (T.news.length + 1) c6, by simp, by omega, hide ?_, ((unhide M6).setCell (.inl (.inl (Nat.le_refl _))) _).setBlock (.inl (.inr rfl)) _, hm7.has (hm5.has (unhide B6).2.2 (by have := (unhide M2).size; omega)) (fun e => ?_), fun j hj => (own6 j hj).2.2⟩
    ·rw [unhide HTS]
     unfold tellStep
     rw [if_neg (by simp only; rw [unhide HTB]; exact h1), if_neg h2]
     refine ⟨hm7.has h5 (fun e => hnm e.symm), ?_, fun j hj => ⟨(own6 j hj).1, (own6 j hj).2.1⟩, setBlock_at (Array.getElem?_eq_some_iff.1 hmp).1 _, hok.put T.clock n k ek ⟨by omega, by omega⟩ ⟨by omega, by omega⟩⟩
     simp only [List.length_append, List.length_cons, List.length_nil, List.flatMap_append, List.flatMap_cons, List.flatMap_nil, List.append_nil]
     exact hm7.owns (hm5.owns ho6 (fun j hj e => by have := (own6 j hj).1; omega)) (fun j hj e => (own6 j hj).2.1 e)
    ·exact (unhide B6).2.2.fol_ne (unhide B6).2.1 e.symm
   ·simp [intOf]; omega
structure FolX (w : World) (ow om : Nat → Nat) (kb : Nat) (tl : Nat → Option (List FEnt)) : Prop where
 un : ∀ i, i < 8 → tl i = none → w.cell? ⟨kb, 22 + i, none⟩ = some (.map none)
 is : ∀ i, i < 8 → ∀ es, tl i = some es → ∃ m clock, w.cell? ⟨kb, 22 + i, none⟩ = some (.map (some m)) ∧ om m = i + 1 ∧ w.heap[m]? = some (folObj es clock) ∧ FolOk es
 old : ∀ k, om k ≠ 0 → k < w.heap.size ∧ ow k = 0
theorem FolX.still {w w' : World} {ow om : Nat → Nat} {kb : Nat} {tl : Nat → Option (List FEnt)} (h : FolX w ow om kb tl) (hm : Mod No w w') : FolX w' ow om kb tl :=
 ⟨fun i hi ht => mod_cell hm (h.un i hi ht), fun i hi es ht => by
  obtain ⟨m, clock, h1, h2, h3, h4⟩ := h.is i hi es ht
  exact ⟨m, clock, mod_cell hm h1, h2, mod_fol hm h3 (fun x => x), h4⟩, fun k hk => ⟨Nat.lt_of_lt_of_le (h.old k hk).1 hm.size, (h.old k hk).2⟩⟩
def lv (x : Pla × List Sea) (c : Nat) : Int := min (cE x.1 x.2 c) 9
def itemsF (fl : Nat → Option (Pla × List Sea)) (n : Nat) : List Nw := match fl n with | none => [] | some x => items n (lv x 0) (lv x 1) (lv x 2) (lv x 3) 4
def itemsK (fl : Nat → Option (Pla × List Sea)) (k : Nat) : List Nw := (List.range k).flatMap (itemsF fl)
theorem itemsK_succ (fl : Nat → Option (Pla × List Sea)) (k : Nat) : itemsK fl (k + 1) = itemsK fl k ++ itemsF fl k := by
 unfold itemsK
 rw [List.range_succ, List.flatMap_append]
 simp
theorem keep_set_far (now : Int) (pt : Nat → Option Nat) (i m : Nat) (hi : i < 8) : (keepCells now pt).setIfInBounds (22 + i) (.map (some m)) = keepCells now (updP pt (21 + i) m) := by
 have : i = 0 ∨ i = 1 ∨ i = 2 ∨ i = 3 ∨ i = 4 ∨ i = 5 ∨ i = 6 ∨ i = 7 := by omega
 rcases this with h | h | h | h | h | h | h | h <;> (subst h; rfl)
theorem KeepX.fol {w : World} {ow : Nat → Nat} {kb : Nat} {now : Int} {pt : Nat → Option Nat} {fl : Nat → Option (Pla × List Sea)} (h : KeepX w ow kb now pt fl) (i m : Nat) (hi : i < 8) :
  KeepX (w.setCell ⟨kb, 22 + i, none⟩ (.map (some m))) ow kb now (updP pt (21 + i) m) fl := by
 have hm : Mod (fun k => k = kb) w (w.setCell ⟨kb, 22 + i, none⟩ (.map (some m))) := (Mod.refl _ w).at (22 + i) _
 refine ⟨?_, h.mine, fun k hk => Nat.lt_of_lt_of_le (h.old k hk) hm.size, fun n hn hf => ?_, fun n p l hn hf => ?_⟩
 ·have := h.has.set (22 + i) (.map (some m))
  rw [keep_set_far now pt i m hi] at this
  exact this
 ·simp only [updP]
  rw [if_neg (by omega)]
  exact h.gone n hn hf
 ·obtain ⟨b, h1, h2, h3⟩ := h.here n p l hn hf
  refine ⟨b, ?_, h2, h3.mod hm (fun k hk e => by subst e; rw [h.mine] at hk; omega)⟩
  simp only [updP]
  rw [if_neg (by omega)]
  exact h1
end Go.Proofs.YthhibagcpjeihaaGreat
