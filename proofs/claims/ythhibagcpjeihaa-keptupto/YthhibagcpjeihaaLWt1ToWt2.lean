import Derived.Test.YthhibagcpjeihaaLDoesPToPg4
import Derived.Test.YthhibagcpjeihaaLPg5ToSts
import Derived.Test.YthhibagcpjeihaaLKeepGToDsk2
import Derived.Test.YthhibagcpjeihaaLReckonToPut2
import Derived.Deep.DeepCutAuto
import Derived.Great.BuildSlice
import Derived.Test.YthhibagcpjeihaaLDsk4ToBegun
import Derived.Test.YthhibagcpjeihaaLRd3ToSeat
import Derived.Handy
import Derived.Test.YthhibagcpjeihaaLBaseToAppend
import Derived.Test.YthhibagcpjeihaaLOpn3ToKeep8
namespace Go.Proofs.Ythhibagcpjeihaa
open Go.RowKit
open M
set_option linter.unusedVariables false
set_option linter.unusedSimpArgs false
set_option maxRecDepth 100000
set_option maxHeartbeats 400000
def totN (p : Pla) (l : List Sea) : Nat → Int
 | 0 => cA p l 0 | 1 => cA p l 1 | 2 => cA p l 2 | 3 => cA p l 3
 | 4 => cB p l 0 | 5 => cB p l 1 | 6 => cB p l 2 | 7 => cB p l 3
 | 8 => cS l 0 | 9 => cS l 1 | 10 => cS l 2 | 11 => cS l 3
 | _ => 0
def seaN (s : Sea) : Nat → Int
 | 0 => s.row | 1 => s.col | 2 => s.st | 3 => s.pa | 4 => s.cl | 5 => s.un
 | _ => 0
def cntF (fl : Fls) (n t : Nat) : Int := match fl n with
 | none => 0
 | some x => totN x.1 x.2 t
def seaF (l : List Sea) (i t : Nat) : Int := match l[i]? with
 | none => 0
 | some s => seaN s t
def setF (fl : Fls) (n i t : Nat) : Int := match fl n with
 | none => 0
 | some x => seaF x.2 i t
def allG (now : Int) (lf : Nat → Int) (c : Nat → Nat → Int) (s : Nat → Nat → Nat → Int) (j : Nat) : Int :=
 if j = 0 then now else if j < 253 then c ((j - 1) / 12) ((j - 1) % 12) else if j < 337 then lf (j - 253) else s ((j - 337) / 720) ((j - 337) % 720 / 6) ((j - 337) % 6)
def allF (now : Int) (fl : Fls) : Nat → Int := allG now (leftT fl) (cntF fl) (setF fl)
theorem sizeA : (Try.prog.info? 85).map (·.size) = some 15457 := by kernel_rfl
theorem rowA : (Try.prog.underlying 85).map (·.isRow) = some true := by kernel_rfl
theorem zeroA : Try.zeroCells85 = tab (fun _ => 0) 15457 := by kernel_rfl
theorem allG_cnt {now : Int} {lf : Nat → Int} {c : Nat → Nat → Int} {s : Nat → Nat → Nat → Int} (n t : Nat) (hn : n < 21) (ht : t < 12) (v : Int) :
  (fun j => if j = 1 + n * 12 + t then v else allG now lf c s j) = allG now lf (fun a b => if a = n ∧ b = t then v else c a b) s := by
 funext j
 unfold allG
 by_cases h0 : j = 0
 ·rw [if_neg (by omega), if_pos h0, if_pos h0]
 rw [if_neg h0, if_neg h0]
 by_cases h1 : j < 253
 ·rw [if_pos h1, if_pos h1]
  dsimp only
  by_cases e : j = 1 + n * 12 + t
  ·rw [if_pos e, if_pos (by omega)]
  ·rw [if_neg e, if_neg (by omega)]
 ·rw [if_neg (by omega), if_neg h1, if_neg h1]
theorem allG_seat {now : Int} {lf : Nat → Int} {c : Nat → Nat → Int} {s : Nat → Nat → Nat → Int} (n i t : Nat) (hn : n < 21) (hi : i < 120) (ht : t < 6) (v : Int) :
  (fun j => if j = 337 + n * 720 + i * 6 + t then v else allG now lf c s j) = allG now lf c (fun a b d => if a = n ∧ b = i ∧ d = t then v else s a b d) := by
 funext j
 unfold allG
 by_cases h0 : j = 0
 ·rw [if_neg (by omega), if_pos h0, if_pos h0]
 rw [if_neg h0, if_neg h0]
 by_cases h1 : j < 253
 ·rw [if_neg (by omega), if_pos h1, if_pos h1]
 rw [if_neg h1, if_neg h1]
 by_cases h2 : j < 337
 ·rw [if_neg (by omega), if_pos h2, if_pos h2]
 rw [if_neg h2, if_neg h2]
 dsimp only
 by_cases e : j = 337 + n * 720 + i * 6 + t
 ·rw [if_pos e, if_pos (by omega)]
 ·rw [if_neg e, if_neg (by omega)]
theorem fold_get : ∀ (vs : List Value) (k off : Nat) (cs : Array Value) (i : Nat), ((vs.zipIdx k).foldl (fun cs (x : Value × Nat) => cs.setIfInBounds (off + x.2) x.1) cs)[i]? = if off + k ≤ i ∧ i < off + k + vs.length ∧ i < cs.size then vs[i - (off + k)]? else cs[i]?
 | [], k, off, cs, i => by
  simp only [List.zipIdx_nil, List.foldl_nil, List.length_nil, Nat.add_zero]
  rw [if_neg (by omega)]
 | v :: r, k, off, cs, i => by
  simp only [List.zipIdx_cons, List.foldl_cons]
  rw [fold_get r (k + 1) off _ i]
  simp only [Array.size_setIfInBounds, List.length_cons]
  by_cases h : off + (k + 1) ≤ i ∧ i < off + (k + 1) + r.length ∧ i < cs.size
  ·rw [if_pos h, if_pos ⟨by omega, by omega, h.2.2⟩]
   obtain ⟨m, rfl⟩ : ∃ m, i = off + (k + 1) + m := ⟨i - (off + (k + 1)), by omega⟩
   rw [show off + (k + 1) + m - (off + (k + 1)) = m by omega, show off + (k + 1) + m - (off + k) = m + 1 by omega]
   rfl
  ·rw [if_neg h]
   by_cases h' : off + k ≤ i ∧ i < off + k + (r.length + 1) ∧ i < cs.size
   ·have : i = off + k := by omega
    subst this
    rw [if_pos h', Array.getElem?_setIfInBounds_self_of_lt h'.2.2, Nat.sub_self]
    rfl
   ·rw [if_neg h']
    by_cases hi : off + k = i
    ·subst hi
     rw [Array.getElem?_setIfInBounds, if_pos rfl, if_neg (by omega), Array.getElem?_eq_none (by omega)]
    ·rw [Array.getElem?_setIfInBounds_ne hi]
theorem fill_two (place : Nat → Option (Nat × Nat)) (z : Array Value) (x : Value) (A : Array Value) (off : Nat) (hx : x.cells = #[x]) (h0 : place 0 = some (0, 1)) (h2 : place 2 = some (off, A.size)) (h1 : 1 ≤ z.size) (hA : off + A.size ≤ z.size) :
  Instr.fill place z [(0, x), (2, .agg A)] = some (A.zipIdx.foldl (fun cs (c, j) => cs.setIfInBounds (off + j) c) (z.setIfInBounds 0 x)) := by
 have hc : (Value.agg A).cells = A := rfl
 have e : (#[x].zipIdx.foldl (fun cs (c, j) => cs.setIfInBounds (0 + j) c) z) = z.setIfInBounds 0 x := by simp
 unfold Instr.fill
 rw [h0]
 dsimp only
 split
 ·rename_i q
  rw [hx] at q
  simp at q
  exact absurd h1 (by simp [q])
 rw [hx, e]
 unfold Instr.fill
 rw [h2]
 dsimp only
 split
 ·rename_i q
  rw [hc] at q
  simp at q
  omega
 unfold Instr.fill
 rw [hc]
theorem fill_get (z : Array Value) (x : Value) (A : Array Value) (off i : Nat) (hA : off + A.size ≤ z.size) (ho : 0 < off) :
  (A.zipIdx.foldl (fun cs (c, j) => cs.setIfInBounds (off + j) c) (z.setIfInBounds 0 x))[i]? = if i = 0 then (if 0 < z.size then some x else none) else if off ≤ i ∧ i < off + A.size then A[i - off]? else z[i]? := by
 rw [← Array.foldl_toList, Array.toList_zipIdx]
 have := fold_get A.toList 0 off (z.setIfInBounds 0 x) i
 rw [this]
 simp only [Nat.add_zero, Array.length_toList, Array.size_setIfInBounds]
 by_cases h0 : i = 0
 ·subst h0
  rw [if_neg (by omega), if_pos rfl, Array.getElem?_setIfInBounds, if_pos rfl]
 ·rw [if_neg h0]
  by_cases h : off ≤ i ∧ i < off + A.size
  ·rw [if_pos ⟨h.1, h.2, by omega⟩, if_pos h]
   simp
  ·rw [if_neg (by omega), if_neg h, Array.getElem?_setIfInBounds_ne (by omega)]
theorem built_two (m : Nat) (hm : 337 ≤ m) (place : Nat → Option (Nat × Nat)) (now : Int) (lf : Nat → Int) (h0 : place 0 = some (0, 1)) (h2 : place 2 = some (253, 84)) :
  Instr.fill place (tab (fun _ => 0) m) [(0, .int .i64 now), (2, .agg (tab lf 84))] = some (tab (allG now lf (fun _ _ => 0) (fun _ _ _ => 0)) m) := by
 rw [fill_two place _ _ _ 253 rfl h0 (by rw [tab_size]; exact h2) (by rw [tab_size]; omega) (by rw [tab_size, tab_size]; omega)]
 refine congrArg some (Array.ext_getElem? fun i => ?_)
 rw [fill_get _ _ _ _ _ (by rw [tab_size, tab_size]; omega) (by omega)]
 simp only [tab_size]
 by_cases hi : i < m
 ·rw [tab_get _ _ _ hi, tab_get _ _ _ hi]
  unfold allG
  by_cases e0 : i = 0
  ·rw [if_pos e0, if_pos e0, if_pos (by omega)]
  rw [if_neg e0, if_neg e0]
  by_cases e1 : i < 253
  ·rw [if_neg (by omega), if_pos e1]
  rw [if_neg e1]
  by_cases e2 : i < 337
  ·rw [if_pos (by omega), if_pos e2, tab_get _ _ _ (by omega)]
  ·rw [if_neg (by omega), if_neg e2]
 ·rw [tab_out (fun _ => (0 : Int)) _ _ (by omega), if_neg (by omega), if_neg (by omega)]
  exact (tab_out _ _ _ (by omega)).symm
theorem built_gen (t : TypeId) (m : Nat) (hm : 337 ≤ m) (pl : List (Nat × Nat)) (h0 : pl[0]? = some (0, 1)) (h2 : pl[2]? = some (253, 84)) (hz : (Try.prog.info? t).bind (·.zero) = some (.agg (tab (fun _ => 0) m)))
  (hp : (match Try.prog.underlying t with
  | some (.struct fields) => fields.toList.mapM (fun f => (Try.prog.info? f.type).map fun i => (f.offset, i.size))
  | _ => none) = some pl) (now : Int) (lf : Nat → Int) : Try.prog.built t [(0, .int .i64 now), (2, .agg (tab lf 84))] = some (tab (allG now lf (fun _ _ => 0) (fun _ _ _ => 0)) m) := by
 unfold Program.built
 cases hi : Try.prog.info? t with
 | none => rw [hi] at hz; cases hz
 | some it =>
 cases hu : Try.prog.underlying t with
 | none => rw [hu] at hp; cases hp
 | some d =>
 rw [hi] at hz
 rw [hu] at hp
 have hz' : it.zero = some (.agg (tab (fun _ => 0) m)) := hz
 cases d with
 | struct fields =>
  have hp' : fields.toList.mapM (fun f => (Try.prog.info? f.type).map fun i => (f.offset, i.size)) = some pl := hp
  simp only [hz', hp']
  exact built_two m hm _ now lf (by simpa using h0) (by simpa using h2)
 | _ => cases hp
theorem built_all (now : Int) (lf : Nat → Int) : Try.prog.built 85 [(0, .int .i64 now), (2, .agg (tab lf 84))] = some (tab (allG now lf (fun _ _ => 0) (fun _ _ _ => 0)) 15457) :=
 built_gen 85 15457 (by omega) [(0, 1), (1, 252), (253, 84), (337, 15120)] rfl rfl (by rw [← zeroA]; kernel_rfl) (by kernel_rfl) now lf
theorem Mod.cell {w w' : World} (h : Mod No w w') {a : Addr} {v : Value} (hc : w.cell? a = some v) : w'.cell? a = some v := by
 have hl := World.block_lt_of_cell? w a hc
 unfold World.cell? at hc ⊢
 rw [h.block _ hl (fun x => x)]
 exact hc
set_option maxHeartbeats 2000000
theorem rowS_told {w : World} {a : Option Addr} {c : Nat} {l : List Sea} (h : w.ownsRow 0 61 6 (.slice a l.length c) l.length (l.flatMap seaL)) (hpos : 0 < l.length) : ∃ g, a = some ⟨g, 0, none⟩ ∧ RowS w g c l := by
 have h' := h
 obtain ⟨h0, h1 | ⟨g', cap', cur, hv, hb, hg, hn, hm, hsz, ht⟩⟩ := h
 ·have := h1.2
  simp at this
  omega
 ·injection hv with e1 e2 e3
  subst e1
  exact ⟨g', rfl, (rowS_of h').2⟩
theorem one_seat {p : Pla} {l : List Sea} (hwf : Wf p l) : 0 < l.length := by
 have hB := hwf.bounds
 have hl := hwf.len
 simp only at hB hl
 have : 0 < p.rows * p.cols := Int.mul_pos (by omega) (by omega)
 omega
set_option maxHeartbeats 1500000
structure WhoI (w wr : World) (rb ab : Nat) (now : Int) (lf : Nat → Int) (c : Nat → Nat → Int) (s : Nat → Nat → Nat → Int) : Prop where
 res : Has wr rb (tab (fun _ => 0) 15457) 85
 box : Has wr ab (tab (allG now lf c s) 15457) 85
 mod : Mod No w wr
 rn : w.heap.size ≤ rb
 an : w.heap.size ≤ ab
 ne : ab ≠ rb
theorem WhoI.still {w wr w2 : World} {rb ab : Nat} {now : Int} {lf : Nat → Int} {c : Nat → Nat → Int} {s : Nat → Nat → Nat → Int} (h : WhoI w wr rb ab now lf c s) (hm : Mod No wr w2) : WhoI w w2 rb ab now lf c s :=
 ⟨hm.has h.res (fun x => x), hm.has h.box (fun x => x), h.mod.trans hm, h.rn, h.an, h.ne⟩
theorem WhoI.cell {w wr : World} {rb ab : Nat} {now : Int} {lf : Nat → Int} {c : Nat → Nat → Int} {s : Nat → Nat → Nat → Int} (h : WhoI w wr rb ab now lf c s) (o : Nat) (ho : o < 15457) : wr.cell? ⟨ab, o, none⟩ = some (.int .i64 (allG now lf c s o)) := by
 rw [h.box.cell, tab_get _ _ _ ho]
theorem WhoI.put {w wr : World} {rb ab : Nat} {now : Int} {lf : Nat → Int} {c c' : Nat → Nat → Int} {s s' : Nat → Nat → Nat → Int} (h : WhoI w wr rb ab now lf c s) (o : Nat) (v : Int) (he : (fun j => if j = o then v else allG now lf c s j) = allG now lf c' s') :
  WhoI w (wr.setCell ⟨ab, o, none⟩ (.int .i64 v)) rb ab now lf c' s' := by
 have hb := h.box.set o (.int .i64 v)
 rw [tab_set, he] at hb
 exact ⟨h.res.set_ne (fun e => h.ne e.symm) _, hb, h.mod.setCell (p := ⟨ab, o, none⟩) (.inr h.an) _, h.rn, h.an, h.ne⟩
theorem WhoI.congr {w wr : World} {rb ab : Nat} {now : Int} {lf : Nat → Int} {c c' : Nat → Nat → Int} {s s' : Nat → Nat → Nat → Int} (h : WhoI w wr rb ab now lf c s) (hc : ∀ a b, a < 21 → b < 12 → c a b = c' a b) (hs : ∀ a i t, a < 21 → i < 120 → t < 6 → s a i t = s' a i t) : WhoI w wr rb ab now lf c' s' := by
 refine ⟨h.res, ?_, h.mod, h.rn, h.an, h.ne⟩
 have e : tab (allG now lf c' s') 15457 = tab (allG now lf c s) 15457 := tab_congr (fun j hj => by
  unfold allG
  by_cases h0 : j = 0
  ·rw [if_pos h0, if_pos h0]
  rw [if_neg h0, if_neg h0]
  by_cases h1 : j < 253
  ·rw [if_pos h1, if_pos h1]
   exact (hc _ _ (by omega) (by omega)).symm
  rw [if_neg h1, if_neg h1]
  by_cases h2 : j < 337
  ·rw [if_pos h2, if_pos h2]
  rw [if_neg h2, if_neg h2]
  exact (hs _ _ _ (by omega) (by omega) (by omega)).symm)
 rw [e]
 exact h.box
theorem WhoI.counts {w : World} {rb ab : Nat} {now : Int} {lf : Nat → Int} {s : Nat → Nat → Nat → Int} (n : Nat) (hn : n < 21) : ∀ (vs : List Int) (t : Nat) (wr : World) (c : Nat → Nat → Int), t + vs.length ≤ 12 → WhoI w wr rb ab now lf c s →
  WhoI w (wr.setCells ab (1 + n * 12 + t) (vs.map (Value.int .i64))) rb ab now lf (fun a b => if a = n ∧ t ≤ b ∧ b < t + vs.length then vs.getD (b - t) 0 else c a b) s
 | [], t, wr, c, ht, h => h.congr (fun a b _ _ => by rw [if_neg (by rintro ⟨_, q1, q2⟩; simp at q2; omega)]) (fun _ _ _ _ _ _ => rfl)
 | v :: r, t, wr, c, ht, h => by
  simp only [List.length_cons] at ht
  have h1 := h.put (1 + n * 12 + t) v (allG_cnt n t hn (by omega) v)
  have h2 := WhoI.counts n hn r (t + 1) _ _ (by omega) h1
  refine h2.congr (fun a b ha hb => ?_) (fun _ _ _ _ _ _ => rfl)
  simp only [List.length_cons]
  by_cases e : a = n
  ·subst e
   by_cases e1 : b = t
   ·subst e1
    rw [if_neg (by omega), if_pos ⟨rfl, rfl⟩, if_pos ⟨rfl, by omega, by omega⟩]
    simp
   ·by_cases e2 : t + 1 ≤ b ∧ b < t + 1 + r.length
    ·rw [if_pos ⟨rfl, e2⟩, if_pos ⟨rfl, by omega, by omega⟩]
     rw [show b - t = (b - (t + 1)) + 1 by omega]
     simp
    ·rw [if_neg (fun q => e2 q.2), if_neg (by omega), if_neg (by omega)]
  ·rw [if_neg (by omega), if_neg (by omega), if_neg (by omega)]
def totL (p : Pla) (l : List Sea) : List Int := [cA p l 0, cA p l 1, cA p l 2, cA p l 3, cB p l 0, cB p l 1, cB p l 2, cB p l 3, cS l 0, cS l 1, cS l 2, cS l 3]
theorem totL_at (p : Pla) (l : List Sea) (b : Nat) (hb : b < 12) : (totL p l).getD b 0 = totN p l b := by
 have : b = 0 ∨ b = 1 ∨ b = 2 ∨ b = 3 ∨ b = 4 ∨ b = 5 ∨ b = 6 ∨ b = 7 ∨ b = 8 ∨ b = 9 ∨ b = 10 ∨ b = 11 := by omega
 rcases this with h | h | h | h | h | h | h | h | h | h | h | h <;> (subst h; rfl)
theorem WhoI.seat {w wr : World} {rb ab : Nat} {now : Int} {lf : Nat → Int} {c : Nat → Nat → Int} {s : Nat → Nat → Nat → Int} (h : WhoI w wr rb ab now lf c s) (n i : Nat) (hn : n < 21) (hi : i < 120) (x : Sea) :
  WhoI w ((((((wr.setCell ⟨ab, 337 + n * 720 + i * 6, none⟩ (.int .i64 x.row)).setCell ⟨ab, 337 + n * 720 + i * 6 + 1, none⟩ (.int .i64 x.col)).setCell ⟨ab, 337 + n * 720 + i * 6 + 2, none⟩ (.int .i64 x.st)).setCell ⟨ab, 337 + n * 720 + i * 6 + 3, none⟩ (.int .i64 x.pa)).setCell ⟨ab, 337 + n * 720 + i * 6 + 4, none⟩ (.int .i64 x.cl)).setCell ⟨ab, 337 + n * 720 + i * 6 + 5, none⟩ (.int .i64 x.un)) rb ab now lf c (fun a b t => if a = n ∧ b = i then seaN x t else s a b t) := by
 have h0 := h.put _ x.row (allG_seat n i 0 hn hi (by omega) x.row)
 have h1 := h0.put _ x.col (allG_seat n i 1 hn hi (by omega) x.col)
 have h2 := h1.put _ x.st (allG_seat n i 2 hn hi (by omega) x.st)
 have h3 := h2.put _ x.pa (allG_seat n i 3 hn hi (by omega) x.pa)
 have h4 := h3.put _ x.cl (allG_seat n i 4 hn hi (by omega) x.cl)
 have h5 := h4.put _ x.un (allG_seat n i 5 hn hi (by omega) x.un)
 refine h5.congr (fun _ _ _ _ => rfl) (fun a b t ha hb ht => ?_)
 by_cases e : a = n ∧ b = i
 ·rw [if_pos e]
  obtain ⟨rfl, rfl⟩ := e
  have : t = 0 ∨ t = 1 ∨ t = 2 ∨ t = 3 ∨ t = 4 ∨ t = 5 := by omega
  rcases this with h | h | h | h | h | h <;> (subst h; simp [seaN])
 ·rw [if_neg e]
  have e' : ∀ k, ¬ (a = n ∧ b = i ∧ t = k) := fun k q => e ⟨q.1, q.2.1⟩
  simp only [if_neg (e' _)]
theorem built_at (now : Int) (lf : Nat → Int) (a : Act) (h1 : a.eval (.tmp 11) = .int .i64 now) (h2 : a.eval (.tmp 13) = .agg (tab lf 84)) :
  Try.prog.built 85 ((#[(0, Operand.tmp 11), (2, Operand.tmp 13)] : Array (Nat × Operand)).map fun (i, x) => (i, a.eval x)).toList = some (tab (allG now lf (fun _ _ => 0) (fun _ _ _ => 0)) 15457) := by
 have : ((#[(0, Operand.tmp 11), (2, Operand.tmp 13)] : Array (Nat × Operand)).map fun (i, x) => (i, a.eval x)).toList = [(0, .int .i64 now), (2, .agg (tab lf 84))] := by simp [h1, h2]
 rw [this]
 exact built_all now lf
theorem whole_walk {w : World} {ow : Nat → Nat} {kb : Nat} {now : Int} {fl : Fls} (h : KeepH w ow kb now fl) (h0 : fl 0 = none) :
  Calls Try.prog 30 #[.pointer (some ⟨kb, 0, none⟩)] w fun e w' => e = .returned (.agg (tab (allF now fl) 15457)) ∧ Mod No w w' := by
 have HNow := hide (show ∀ W, Mod No w W → Calls Try.prog 24 #[.pointer (some ⟨kb, 0, none⟩)] W fun e w' => e = .returned (.int .i64 now) ∧ w' = W from fun W hW => by
  obtain ⟨pt, hx⟩ := h.mod hW (fun _ _ x => x)
  exact now_any hx)
 have HLeft := hide fun W (hW : Mod No w W) => leftT_walk (h.mod hW (fun _ _ x => x))
 have HCnt := hide fun W (hW : Mod No w W) (n : Int) => count_any (h.mod hW (fun _ _ x => x)) n
 have HSe := hide fun W (hW : Mod No w W) (n : Nat) (hn : 1 ≤ n ∧ n ≤ 20) p l (hf : fl n = some (p, l)) => seatsAll_walk (w := W) (h.wf (by omega) hf) kb n 30 (by omega) (fun W' hW' r c e => by
  have := seats_any (h.mod (hW.trans hW') (fun _ _ x => x)) n r c e 30
  unfold seatsK at this
  rw [if_neg (by omega), Int.toNat_natCast, hf] at this
  exact this)
 have HWF := hide fun (n : Nat) (hn : n < 21) p l (hf : fl n = some (p, l)) => h.wf hn hf
 clear h
 have HB := hide (built_at now (leftT fl))
 have M0 := hide ((Mod.refl No w).alloc (.cells Try.zeroCells85 85))
 go_enter Try.func30, Try.ntmps30
 go_wp2_with fail
 refine ((unhide HNow) _ (unhide M0)).mono ?_
 rintro e w1 ⟨rfl, rfl⟩
 go_wp2_with fail
 refine ((unhide HLeft) _ (unhide M0)).mono ?_
 rintro e w1 ⟨rfl, m1⟩
 have A1 := hide (Has.new w1 Try.zeroCells85 85)
 have R1 := hide (m1.has (Has.new w Try.zeroCells85 85) (fun x => x))
 have M1 := hide ((unhide M0).trans m1)
 clear m1 M0
 rename_i Q0 K1 k1 K0 k0
 refine k0 _ _ ?_
 refine wpList_buildTo rfl 85 _ rfl (some 14) rfl _ ((unhide HB) _ rfl rfl) ?_
 have SC := hide (show (tab (allG now (leftT fl) (fun _ _ => 0) (fun _ _ _ => 0)) 15457).size = 15457 from tab_size _ _)
 have OC := hide (tab_one (allG now (leftT fl) (fun _ _ => 0) (fun _ _ _ => 0)) 15457)
 generalize hcs : tab (allG now (leftT fl) (fun _ _ => 0) (fun _ _ _ => 0)) 15457 = cs at *
 have EC := hide hcs
 clear hcs HB
 go_wp2_with (refine wpList_store_has rfl 85 _ _ rfl w1.heap.size cs rfl rfl Try.zeroCells85 85 (unhide A1) ((unhide SC).trans Try.zeroCells85_size.symm) (by rw [unhide SC]; exact sizeA) (unhide OC) ?_; intro w2 h2 m2)
 have LT := hide (unhide R1).lt
 have I0 := hide (show WhoI w w2 w.heap.size w1.heap.size now (leftT fl) (cntF (below fl 1)) (setF (below fl 1)) from by
  have hr := m2.has ((unhide R1).alloc (.cells Try.zeroCells85 85)) (fun e => by have := unhide LT; omega)
  rw [zeroA] at hr
  rw [← unhide EC] at h2
  refine (show WhoI w w2 w.heap.size w1.heap.size now (leftT fl) (fun _ _ => 0) (fun _ _ _ => 0) from ⟨hr, h2, ((unhide M1).alloc _).trans' m2 (fun k e hl => by subst e; exact absurd hl (by have := (unhide M1).size; omega)), Nat.le_refl _, (unhide M1).size, fun e => by have := unhide LT; omega⟩).congr (fun a b _ _ => ?_) (fun a i t _ _ _ => ?_)
  ·unfold cntF
   rw [below_none h0, below_zero]
   rfl
  ·unfold setF
   rw [below_none h0, below_zero]
   rfl)
 clear R1 M1 h2 m2 SC OC EC A1 HNow HLeft LT
 generalize w1.heap.size = ab at *
 generalize w.heap.size = rb at *
 clear w1
 go_loopw [4] (fun x wr => ∃ n : Nat, x = .int .i64 n ∧ 1 ≤ n ∧ n ≤ 21 ∧ Hid (WhoI w wr rb ab now (leftT fl) (cntF (below fl n)) (setF (below fl n)))) (fun x _ => 21 - (intOf x).toNat)
 case atStart => exact ⟨1, rfl, by omega, by omega, I0⟩
 case round =>
  obtain ⟨n, rfl, hn1, hn2, I⟩ := hrel
  clear I0
  by_cases h21 : n = 21
  ·subst h21
   have hcond : ¬ ((21 : Nat) : Int) ≤ 20 := by omega
   go_upto_region 13 with fail
   have J := (unhide I).congr (c' := cntF fl) (s' := setF fl) (fun a b ha _ => by unfold cntF below; rw [if_pos ha]) (fun a i t ha _ _ => by unfold setF below; rw [if_pos ha])
   obtain ⟨cz, hz⟩ : ∃ cz, cz = tab (allF now fl) 15457 := ⟨_, rfl⟩
   obtain ⟨cy, hy⟩ : ∃ cy, cy = tab (fun _ => (0 : Int)) 15457 := ⟨_, rfl⟩
   have SZ : cz.size = 15457 := by rw [hz]; exact tab_size _ _
   have SY : cy.size = 15457 := by rw [hy]; exact tab_size _ _
   have OZ : cz.all (·.oneCell') = true := by rw [hz]; exact tab_one _ _
   have B : Has wr ab cz 85 := by rw [hz]; exact J.box
   have R : Has wr rb cy 85 := by rw [hy]; exact J.res
   have M := hide J.mod
   have RN := hide J.rn
   have HZ := hide hz
   clear hz hy J I HCnt HSe HWF
   refine wp_region_list ?_
   refine (wpList_load_has rfl 85 _ rfl ab 0 rfl cz 85 B cz (fun j v h => by rw [Nat.zero_add]; simpa using h) rowA (by rw [SZ]; exact sizeA) ?_)
   refine (wpList_store_has rfl 85 _ _ rfl rb cz rfl rfl cy 85 R (by rw [SZ, SY]) (by rw [SZ]; exact sizeA) OZ ?_)
   intro w5 h5 m5
   have H5 := hide h5
   have M5 := hide ((unhide M).trans' (S := No) m5 (fun i e hl => by subst e; have := unhide RN; omega))
   have SZ := hide SZ
   clear m5 h5 B R OZ SY M
   go_wp2
   refine bodyPost_ret (results_box Try.results30 rfl (unhide H5) rowA (by rw [unhide SZ]; exact sizeA)) rfl ?_
   exact ⟨by rw [unhide HZ], unhide M5⟩
  have hcond : (n : Int) ≤ 20 := by omega
  have hw1 : IntKind.i64.wrap ((n : Int) + 1) = ((n + 1 : Nat) : Int) := by rw [wrap_id _ (by omega) (by omega)]; rfl
  have HC := hide ((unhide HCnt) wr (unhide I).mod n)
  unfold countK at HC
  rw [if_neg (by omega), Int.toNat_natCast] at HC
  cases hf : fl n with
  | none =>
   rw [hf] at HC
   simp only at HC
   unfold zero51 at HC
   go_wp2_with fail
   refine (unhide HC).mono ?_
   rintro e w3 ⟨rfl, m3⟩
   have I3 := hide (((unhide I).still m3).still ((Mod.refl No w3).alloc (.cells #[.int .i64 0, .int .i64 0, .int .i64 0, .int .i64 0, .int .i64 0, .int .i64 0, .int .i64 0, .int .i64 0, .int .i64 0, .int .i64 0, .int .i64 0, .int .i64 0] 45)))
   clear m3 I HC
   rw [← below_none hf] at I3
   go_wp2
   exact ⟨⟨n + 1, rfl, by omega, by omega, I3⟩, by simp [intOf]; omega⟩
  | some x =>
   obtain ⟨p, l⟩ := x
   rw [hf] at HC
   simp only at HC
   unfold totV at HC
   have hwf := (unhide HWF) n (by omega) p l hf
   have HWfn := hide hwf
   have h120 : l.length ≤ 120 := Fli.wf.len_le hwf
   have hpos := one_seat hwf
   have HSn := hide fun W hW => (unhide HSe) W hW n (by omega) p l hf
   have hF := hide hf
   clear hwf hf
   go_wp2_with fail
   refine (unhide HC).mono ?_
   rintro e w3 ⟨rfl, m3⟩
   have I3 := hide (((unhide I).still m3).still ((Mod.refl No w3).alloc (.cells #[.int .i64 (cA p l 0), .int .i64 (cA p l 1), .int .i64 (cA p l 2), .int .i64 (cA p l 3), .int .i64 (cB p l 0), .int .i64 (cB p l 1), .int .i64 (cB p l 2), .int .i64 (cB p l 3), .int .i64 (cS l 0), .int .i64 (cS l 1), .int .i64 (cS l 2), .int .i64 (cS l 3)] 45)))
   have B3 := hide (Has.new w3 #[.int .i64 (cA p l 0), .int .i64 (cA p l 1), .int .i64 (cA p l 2), .int .i64 (cA p l 3), .int .i64 (cB p l 0), .int .i64 (cB p l 1), .int .i64 (cB p l 2), .int .i64 (cB p l 3), .int .i64 (cS l 0), .int .i64 (cS l 1), .int .i64 (cS l 2), .int .i64 (cS l 3)] 45)
   clear m3 I HC
   go_upto_region 7 with fail
   generalize w3.alloc _ = w4 at *
   generalize w3.heap.size = tb at *
   have i0 : (0 : Int) ≤ n := by omega
   have i21 : (n : Int) < 21 := by omega
   have tc := (unhide B3).cell
   have tl := (unhide B3).lt
   have af := (unhide I3).box.frozen
   have al := (unhide I3).box.lt
   have g0 : w4.cell? ⟨ab, 1 + n * 12, none⟩ = some _ := (unhide I3).cell (1 + n * 12) (by omega)
   have g1 : w4.cell? ⟨ab, 1 + n * 12 + 1, none⟩ = some _ := (unhide I3).cell (1 + n * 12 + 1) (by omega)
   have g2 : w4.cell? ⟨ab, 1 + n * 12 + 2, none⟩ = some _ := (unhide I3).cell (1 + n * 12 + 2) (by omega)
   have g3 : w4.cell? ⟨ab, 1 + n * 12 + 3, none⟩ = some _ := (unhide I3).cell (1 + n * 12 + 3) (by omega)
   have g4 : w4.cell? ⟨ab, 1 + n * 12 + 4, none⟩ = some _ := (unhide I3).cell (1 + n * 12 + 4) (by omega)
   have g5 : w4.cell? ⟨ab, 1 + n * 12 + 5, none⟩ = some _ := (unhide I3).cell (1 + n * 12 + 5) (by omega)
   have g6 : w4.cell? ⟨ab, 1 + n * 12 + 6, none⟩ = some _ := (unhide I3).cell (1 + n * 12 + 6) (by omega)
   have g7 : w4.cell? ⟨ab, 1 + n * 12 + 7, none⟩ = some _ := (unhide I3).cell (1 + n * 12 + 7) (by omega)
   have g8 : w4.cell? ⟨ab, 1 + n * 12 + 8, none⟩ = some _ := (unhide I3).cell (1 + n * 12 + 8) (by omega)
   have g9 : w4.cell? ⟨ab, 1 + n * 12 + 9, none⟩ = some _ := (unhide I3).cell (1 + n * 12 + 9) (by omega)
   have g10 : w4.cell? ⟨ab, 1 + n * 12 + 10, none⟩ = some _ := (unhide I3).cell (1 + n * 12 + 10) (by omega)
   have g11 : w4.cell? ⟨ab, 1 + n * 12 + 11, none⟩ = some _ := (unhide I3).cell (1 + n * 12 + 11) (by omega)
   generalize allG now (leftT fl) (cntF (below fl n)) (setF (below fl n)) = ag at g0 g1 g2 g3 g4 g5 g6 g7 g8 g9 g10 g11
   have HJ := hide ((unhide I3).counts n (by omega) (totL p l) 0 _ _ (by simp [totL]))
   go_wp2_with fail
   have I5 := hide (show WhoI w ((((((((((((w4.setCell ⟨ab, 1 + n * 12, none⟩ (.int .i64 (cA p l 0))).setCell ⟨ab, 1 + n * 12 + 1, none⟩ (.int .i64 (cA p l 1))).setCell ⟨ab, 1 + n * 12 + 2, none⟩ (.int .i64 (cA p l 2))).setCell ⟨ab, 1 + n * 12 + 3, none⟩ (.int .i64 (cA p l 3))).setCell ⟨ab, 1 + n * 12 + 4, none⟩ (.int .i64 (cB p l 0))).setCell ⟨ab, 1 + n * 12 + 5, none⟩ (.int .i64 (cB p l 1))).setCell ⟨ab, 1 + n * 12 + 6, none⟩ (.int .i64 (cB p l 2))).setCell ⟨ab, 1 + n * 12 + 7, none⟩ (.int .i64 (cB p l 3))).setCell ⟨ab, 1 + n * 12 + 8, none⟩ (.int .i64 (cS l 0))).setCell ⟨ab, 1 + n * 12 + 9, none⟩ (.int .i64 (cS l 1))).setCell ⟨ab, 1 + n * 12 + 10, none⟩ (.int .i64 (cS l 2))).setCell ⟨ab, 1 + n * 12 + 11, none⟩ (.int .i64 (cS l 3))) rb ab now (leftT fl) _ _ from unhide HJ)
   clear HJ I3 B3 tc tl af al g0 g1 g2 g3 g4 g5 g6 g7 g8 g9 g10 g11
   generalize ((((((((((((w4.setCell ⟨ab, 1 + n * 12, none⟩ (.int .i64 (cA p l 0))).setCell ⟨ab, 1 + n * 12 + 1, none⟩ (.int .i64 (cA p l 1))).setCell ⟨ab, 1 + n * 12 + 2, none⟩ (.int .i64 (cA p l 2))).setCell ⟨ab, 1 + n * 12 + 3, none⟩ (.int .i64 (cA p l 3))).setCell ⟨ab, 1 + n * 12 + 4, none⟩ (.int .i64 (cB p l 0))).setCell ⟨ab, 1 + n * 12 + 5, none⟩ (.int .i64 (cB p l 1))).setCell ⟨ab, 1 + n * 12 + 6, none⟩ (.int .i64 (cB p l 2))).setCell ⟨ab, 1 + n * 12 + 7, none⟩ (.int .i64 (cB p l 3))).setCell ⟨ab, 1 + n * 12 + 8, none⟩ (.int .i64 (cS l 0))).setCell ⟨ab, 1 + n * 12 + 9, none⟩ (.int .i64 (cS l 1))).setCell ⟨ab, 1 + n * 12 + 10, none⟩ (.int .i64 (cS l 2))).setCell ⟨ab, 1 + n * 12 + 11, none⟩ (.int .i64 (cS l 3))) = w5 at *
   have N5 := hide (unhide I5).mod.size
   refine ((unhide HSn) _ (unhide I5).mod).mono ?_
   rintro e w6 ⟨⟨a1, c1, rfl, ho1, hn1⟩, m1⟩
   obtain ⟨g, rfl, hR1⟩ := rowS_told ho1 hpos
   have I6 := hide ((unhide I5).still m1)
   have R6 := hide hR1
   have GN := hide (show g ≠ ab from fun e => by
    have h1 := hn1 g rfl
    have h2 := (unhide I5).box.lt
    omega)
   clear I5 m1 ho1 hn1 hR1 N5 ag
   go_wp2_with fail
   go_loopw [9] (fun s9 wx => ∃ i : Nat, s9 = .int .i64 (i : Int) ∧ i ≤ l.length ∧ Hid (WhoI w wx rb ab now (leftT fl) (cntF (below fl (n + 1))) (fun a k t => if a = n then (if k < i then seaF l k t else 0) else setF (below fl n) a k t) ∧ RowS wx g c1 l)) (fun s9 _ => l.length - (intOf s9).toNat)
   case atStart =>
    refine ⟨0, rfl, by omega, hide ⟨(unhide I6).congr (fun a b ha hb => ?_) (fun a k t ha hk ht => ?_), unhide R6⟩⟩
    ·unfold cntF
     rw [below_some (unhide hF)]
     by_cases e : a = n
     ·simp only [if_pos e]
      rw [if_pos ⟨e, by omega, by simp [totL]; omega⟩]
      exact totL_at p l b hb
     ·simp only [if_neg e]
      rw [if_neg (fun q => e q.1)]
    ·by_cases e : a = n
     ·simp only [if_pos e]
      rw [if_neg (by omega)]
      unfold setF below
      rw [if_neg (by omega)]
     ·simp only [if_neg e]
   case round =>
    obtain ⟨i, rfl, hi, IR⟩ := hrel
    clear I6 R6
    by_cases hil : i < l.length
    ·have hil' : (i : Int) < (l.length : Int) := by omega
     have hi0 : (0 : Int) ≤ (i : Int) := by omega
     have hi120 : (i : Int) < 120 := by omega
     have hwi : IntKind.i64.wrap ((i : Int) + 1) = ((i + 1 : Nat) : Int) := by rw [wrap_id _ (by omega) (by omega)]; rfl
     obtain ⟨J, R⟩ := unhide IR
     have a0 := R.row i hil
     have a1 := R.col i hil
     have a2 := R.st i hil
     have a3 := R.pa i hil
     have a4 := R.cl i hil
     have a5 := R.un i hil
     have glt := R.lt
     have af := J.box.frozen
     have al := J.box.lt
     have g0 : wr.cell? ⟨ab, 337 + n * 720 + i * 6, none⟩ = some _ := J.cell (337 + n * 720 + i * 6) (by omega)
     have g1 : wr.cell? ⟨ab, 337 + n * 720 + i * 6 + 1, none⟩ = some _ := J.cell (337 + n * 720 + i * 6 + 1) (by omega)
     have g2 : wr.cell? ⟨ab, 337 + n * 720 + i * 6 + 2, none⟩ = some _ := J.cell (337 + n * 720 + i * 6 + 2) (by omega)
     have g3 : wr.cell? ⟨ab, 337 + n * 720 + i * 6 + 3, none⟩ = some _ := J.cell (337 + n * 720 + i * 6 + 3) (by omega)
     have g4 : wr.cell? ⟨ab, 337 + n * 720 + i * 6 + 4, none⟩ = some _ := J.cell (337 + n * 720 + i * 6 + 4) (by omega)
     have g5 : wr.cell? ⟨ab, 337 + n * 720 + i * 6 + 5, none⟩ = some _ := J.cell (337 + n * 720 + i * 6 + 5) (by omega)
     have NX := hide (J.seat n i (by omega) (by omega) l[i])
     have HIL := hide hil
     have hgab := unhide GN
     clear J R
     generalize l[i].row = x0 at *
     generalize l[i].col = x1 at *
     generalize l[i].st = x2 at *
     generalize l[i].pa = x3 at *
     generalize l[i].cl = x4 at *
     generalize l[i].un = x5 at *
     go_upto_region 12 with fail
     have FIN := hide (fun (wx : World) (hx : Mod No (((((((wr.setCell ⟨ab, 337 + n * 720 + i * 6, none⟩ (.int .i64 x0)).setCell ⟨ab, 337 + n * 720 + i * 6 + 1, none⟩ (.int .i64 x1)).setCell ⟨ab, 337 + n * 720 + i * 6 + 2, none⟩ (.int .i64 x2)).setCell ⟨ab, 337 + n * 720 + i * 6 + 3, none⟩ (.int .i64 x3)).setCell ⟨ab, 337 + n * 720 + i * 6 + 4, none⟩ (.int .i64 x4)).setCell ⟨ab, 337 + n * 720 + i * 6 + 5, none⟩ (.int .i64 x5))) wx) => (show WhoI w wx rb ab now (leftT fl) (cntF (below fl (n + 1))) (fun a k t => if a = n then (if k < i + 1 then seaF l k t else 0) else setF (below fl n) a k t) ∧ RowS wx g c1 l from by
      refine ⟨((unhide NX).still hx).congr (fun _ _ _ _ => rfl) (fun a k t ha hk ht => ?_), ?_⟩
      ·have hil := unhide HIL
       by_cases e : a = n
       ·by_cases e2 : k = i
        ·rw [if_pos ⟨e, e2⟩, if_pos e, if_pos (by omega), e2]
         unfold seaF
         rw [List.getElem?_eq_getElem hil]
        ·rw [if_neg (by omega), if_pos e, if_pos e]
         by_cases e3 : k < i
         ·rw [if_pos e3, if_pos (by omega)]
         ·rw [if_neg e3, if_neg (by omega)]
       ·rw [if_neg (by omega), if_neg e, if_neg e]
      ·exact ((unhide IR).2.mod ((((((((Mod.refl (fun k => k = ab) wr).at _ _).at _ _).at _ _).at _ _).at _ _).at _ _)) (unhide GN)).mod hx (fun x => x)))
     clear NX HIL IR
     go_region
     all_goals go_wp2
     all_goals exact ⟨⟨i + 1, rfl, by omega, hide ((unhide FIN) _ (by first | (with_reducible exact Mod.refl _ _) | (with_reducible exact (Mod.refl No _).drew)))⟩, by simp [intOf]; omega⟩
    ·have hie : i = l.length := by omega
     subst hie
     have hcond2 : ¬ ((l.length : Int) < (l.length : Int)) := by omega
     have I7 := hide ((unhide IR).1.congr (c' := cntF (below fl (n + 1))) (s' := setF (below fl (n + 1))) (fun _ _ _ _ => rfl) (fun a k t ha hk ht => by
      unfold setF
      rw [below_some (unhide hF)]
      by_cases e : a = n
      ·simp only [if_pos e]
       by_cases e2 : k < l.length
       ·rw [if_pos e2]
       ·rw [if_neg e2]
        unfold seaF
        rw [List.getElem?_eq_none (by omega)]
      ·simp only [if_neg e]))
     clear IR
     go_wp2
     exact ⟨⟨n + 1, rfl, by omega, by omega, I7⟩, by simp [intOf]; omega⟩
end Go.Proofs.Ythhibagcpjeihaa
