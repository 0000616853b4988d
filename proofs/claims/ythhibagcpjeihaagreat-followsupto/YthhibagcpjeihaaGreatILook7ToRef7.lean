import Derived.Test.YthhibagcpjeihaaGreatIRef5ToLook6
import Derived.Test.YthhibagcpjeihaaGreatIChangeToEq40
import Derived.Test.YthhibagcpjeihaaGreatIBaseToMaps
import Derived.BigQuiet
import Derived.Deep.QuietTactic
namespace Go.Proofs.YthhibagcpjeihaaGreat
open Go.RowKit
open Go.ChangeMaps (setBlock)
open M
set_option linter.unusedVariables false
set_option linter.unusedSimpArgs false
set_option maxRecDepth 100000
set_option maxHeartbeats 2000000
def addV (p : Pla) : Value := if p.sized = true ∧ p.limited = true then grant (startV p) else refuse 4
theorem lookAdd_walk (p : Pla) (w : World) :
  Calls Tryz.prog 76 #[plaV p] w fun e w' => e = .returned (addV p) ∧ Mod No w w' := by
 have HA := hide fun W => shape_any p W
 have HB := hide fun W => limits_any p.l0 p.l1 p.l2 p.l3 W
 have hl : p.limited = decide (0 ≤ p.l0 ∧ p.l0 ≤ 200 ∧ 0 ≤ p.l1 ∧ p.l1 ≤ p.l0 ∧ 0 ≤ p.l2 ∧ p.l2 ≤ p.l1 ∧ 0 ≤ p.l3 ∧ p.l3 ≤ p.l2) := rfl
 rw [← hl] at HB
 clear hl
 have HV := hide (show ∀ s m, p.sized = s → p.limited = m → addV p = if s = true ∧ m = true then grant (startV p) else refuse 4 by rintro s m rfl rfl; rfl)
 unfold plaV at HA ⊢
 obtain ⟨s, hs⟩ : ∃ s, p.sized = s := ⟨_, rfl⟩
 obtain ⟨m, hm⟩ : ∃ m, p.limited = m := ⟨_, rfl⟩
 rw [hs] at HA
 rw [hm] at HB
 have M0 := hide ((Mod.refl No w).alloc (.cells #[.int .i64 p.rows, .int .i64 p.cols, .int .i64 p.front, .int .i64 p.l0, .int .i64 p.l1, .int .i64 p.l2, .int .i64 p.l3] 39))
 have B0 := hide (Has.new w #[.int .i64 p.rows, .int .i64 p.cols, .int .i64 p.front, .int .i64 p.l0, .int .i64 p.l1, .int .i64 p.l2, .int .i64 p.l3] 39)
 have HV2 := hide ((unhide HV) s m hs hm)
 clear hs hm HV
 cases s with
 | false =>
  go_enter Tryz.func76, Tryz.ntmps76
  go_wp2_with fail
  refine ((unhide HA) _).mono ?_
  rintro e w1 ⟨rfl, m1⟩
  have M1 := hide ((unhide M0).trans m1)
  clear m1
  go_wp2
  go_ret2
  exact ⟨by rw [unhide HV2, if_neg (by simp)]; rfl, unhide M1⟩
 | true =>
  go_enter Tryz.func76, Tryz.ntmps76
  go_wp2_with fail
  refine ((unhide HA) _).mono ?_
  rintro e w1 ⟨rfl, m1⟩
  have cb := (m1.has (unhide B0) (fun x => x)).cell
  have M1 := hide ((unhide M0).trans m1)
  have B1 := hide (m1.has (unhide B0) (fun x => x))
  clear m1
  go_wp2_with fail
  refine ((unhide HB) _).mono ?_
  rintro e w2 ⟨rfl, m2⟩
  have cb2 := (m2.has (unhide B1) (fun x => x)).cell
  have M2 := hide ((unhide M1).trans m2)
  clear m2 cb
  cases m with
  | true =>
   go_wp2
   go_ret2
   exact ⟨by rw [unhide HV2, if_pos (by simp)]; rfl, unhide M2⟩
  | false =>
   go_wp2
   go_ret2
   exact ⟨by rw [unhide HV2, if_neg (by simp)]; rfl, unhide M2⟩
def nFull (l : List Sea) : Nat := l.countP fun s => s.st != 0
def stayStep (q : Pla) (acc : List Sea) (s : Sea) : List Sea := if s.st ≠ 0 ∧ q.has s.row s.col = true then acc.set (q.idx s.row s.col) s else acc
def stay (q : Pla) (l : List Sea) : List Sea := l.foldl (stayStep q) (emptySeats q)
def homeless (q : Pla) (l : List Sea) : List Sea := l.filter fun s => s.st != 0 && !q.has s.row s.col
def firstFree (l : List Sea) : Nat := l.findIdx fun s => s.st == 0
def Sea.at (s x : Sea) : Sea := ⟨x.row, x.col, s.st, s.pa, s.cl, s.un⟩
def reseatStep (acc : List Sea) (s : Sea) : List Sea := acc.set (firstFree acc) (Sea.at s (acc.getD (firstFree acc) noSea))
def swapSeats (q : Pla) (l : List Sea) : List Sea := (homeless q l).foldl reseatStep (stay q l)
def swapPla (p q : Pla) : Pla := ⟨q.rows, q.cols, q.front, p.l0, p.l1, p.l2, p.l3, nx p.ep⟩
theorem at_wf {s x : Sea} (h : s.wf) : (Sea.at s x).wf := ⟨h.s0, h.s1, h.c0, h.c1, h.bare, h.pa, h.un, h.bk⟩
structure Stayed (q : Pla) (l acc : List Sea) (i : Nat) : Prop where
 wf : Wf q acc
 from_ : ∀ j (h : j < acc.length), acc[j].st ≠ 0 → ∃ k, ∃ hk : k < l.length, k < i ∧ l[k].row = acc[j].row ∧ l[k].col = acc[j].col
 count : nFull acc + (homeless q (l.take i)).length = nFull (l.take i)
theorem Stayed.start {p q : Pla} (l : List Sea) (h1 : q.sized = true) (h2 : q.limited = true) : Stayed q l (emptySeats q) 0 := by
 refine ⟨empty_wf h1 h2, fun j h hs => ?_, ?_⟩
 ·simp [emptySeats] at hs
 ·have : nFull (emptySeats q) = 0 := by
   unfold nFull
   rw [List.countP_eq_zero]
   intro s hs
   simp only [emptySeats, List.mem_map] at hs
   obtain ⟨i, _, rfl⟩ := hs
   simp
  rw [this]
  rfl
theorem take_succ {α : Type} (l : List α) (i : Nat) (h : i < l.length) : l.take (i + 1) = l.take i ++ [l[i]] := by
 rw [List.take_add_one, List.getElem?_eq_getElem h]
 rfl
theorem nFull_set {acc : List Sea} {j : Nat} (h : j < acc.length) (s : Sea) (h0 : acc[j].st = 0) (hs : s.st ≠ 0) : nFull (acc.set j s) = nFull acc + 1 := by
 have := countP_set (fun s : Sea => s.st != 0) acc j h s
 simp [h0, hs] at this
 unfold nFull
 omega
theorem Stayed.free {p q : Pla} {l acc : List Sea} {i : Nat} (h : Stayed q l acc i) (hwf : Wf p l) (hi : i < l.length) (hh : q.has l[i].row l[i].col = true) :
  ∃ hj : q.idx l[i].row l[i].col < acc.length, acc[q.idx l[i].row l[i].col].st = 0 ∧ acc[q.idx l[i].row l[i].col].row = l[i].row ∧ acc[q.idx l[i].row l[i].col].col = l[i].col := by
 have hj : q.idx l[i].row l[i].col < acc.length := Fli.wf.idx_lt h.wf hh
 have hp := Fli.wf.idx_place h.wf hh
 refine ⟨hj, ?_, hp⟩
 by_cases h0 : acc[q.idx l[i].row l[i].col].st = 0
 ·exact h0
 ·obtain ⟨k, hk, hki, e1, e2⟩ := h.from_ _ hj h0
  have := hwf.place_inj hk hi (by rw [e1]; exact hp.1) (by rw [e2]; exact hp.2)
  omega
theorem Stayed.step {p q : Pla} {l acc : List Sea} {i : Nat} (h : Stayed q l acc i) (hwf : Wf p l) (hi : i < l.length) : Stayed q l (stayStep q acc l[i]) (i + 1) := by
 have hs := hwf.seat _ (List.getElem_mem hi)
 have hcnt := h.count
 have hT : nFull (l.take (i + 1)) = nFull (l.take i) + (if l[i].st ≠ 0 then 1 else 0) := by
  rw [take_succ l i hi]
  unfold nFull
  rw [List.countP_append]
  by_cases h0 : l[i].st = 0 <;> simp [h0]
 have hH : (homeless q (l.take (i + 1))).length = (homeless q (l.take i)).length + (if l[i].st ≠ 0 ∧ ¬ q.has l[i].row l[i].col = true then 1 else 0) := by
  rw [take_succ l i hi]
  unfold homeless
  rw [List.filter_append, List.length_append]
  congr 1
  by_cases h0 : l[i].st = 0
  ·simp [h0]
  ·cases hb : q.has l[i].row l[i].col <;> simp [h0, hb]
 unfold stayStep
 by_cases hc : l[i].st ≠ 0 ∧ q.has l[i].row l[i].col = true
 ·rw [if_pos hc]
  obtain ⟨hj, f0, fr, fc⟩ := h.free hwf hi hc.2
  refine ⟨h.wf.set hj hs fr.symm fc.symm, fun j hj' hst => ?_, ?_⟩
  ·have hj2 : j < acc.length := by simpa using hj'
   simp only [List.getElem_set] at hst ⊢
   by_cases e : q.idx l[i].row l[i].col = j
   ·rw [if_pos e]
    exact ⟨i, hi, by omega, rfl, rfl⟩
   ·rw [if_neg e] at hst ⊢
    obtain ⟨k, hk, hki, e1, e2⟩ := h.from_ j hj2 hst
    exact ⟨k, hk, by omega, e1, e2⟩
  ·rw [nFull_set hj l[i] f0 hc.1, hT, hH, if_pos hc.1, if_neg (fun x => x.2 hc.2)]
   omega
 ·rw [if_neg hc]
  refine ⟨h.wf, fun j hj hst => ?_, ?_⟩
  ·obtain ⟨k, hk, hki, e1, e2⟩ := h.from_ j hj hst
   exact ⟨k, hk, by omega, e1, e2⟩
  ·rw [hT, hH]
   by_cases h0 : l[i].st = 0
   ·rw [if_neg (by simp [h0]), if_neg (by simp [h0])]
    omega
   ·have : ¬ q.has l[i].row l[i].col = true := fun x => hc ⟨h0, x⟩
    rw [if_pos h0, if_pos ⟨h0, this⟩]
    omega
theorem stay_take (q : Pla) (l : List Sea) (i : Nat) (hi : i < l.length) : stay q (l.take (i + 1)) = stayStep q (stay q (l.take i)) l[i] := by
 rw [take_succ l i hi]
 unfold stay
 rw [List.foldl_append]
 rfl
theorem homeless_take (q : Pla) (l : List Sea) (i : Nat) (hi : i < l.length) : homeless q (l.take (i + 1)) = homeless q (l.take i) ++ (if l[i].st ≠ 0 ∧ ¬ q.has l[i].row l[i].col = true then [l[i]] else []) := by
 rw [take_succ l i hi]
 unfold homeless
 rw [List.filter_append]
 congr 1
 by_cases h0 : l[i].st = 0
 ·simp [h0]
 ·cases hb : q.has l[i].row l[i].col <;> simp [h0, hb]
theorem stayed_take {p q : Pla} {l : List Sea} (hwf : Wf p l) (h1 : q.sized = true) (h2 : q.limited = true) : ∀ i, i ≤ l.length → Stayed q l (stay q (l.take i)) i
 | 0, _ => Stayed.start (p := p) l h1 h2
 | i + 1, h => by
  rw [stay_take q l i (by omega)]
  exact (stayed_take hwf h1 h2 i (by omega)).step hwf (by omega)
structure Reseat (q : Pla) (acc : List Sea) (n : Nat) : Prop where
 wf : Wf q acc
 room : nFull acc + n ≤ acc.length
theorem firstFree_lt {q : Pla} {acc : List Sea} {n : Nat} (h : Reseat q acc (n + 1)) : firstFree acc < acc.length := by
 unfold firstFree
 rw [List.findIdx_lt_length]
 by_cases hx : ∃ x ∈ acc, (x.st == 0) = true
 ·exact hx
 ·exfalso
  have : nFull acc = acc.length := by
   unfold nFull
   rw [List.countP_eq_length]
   intro x hx'
   have : ¬ (x.st == 0) = true := fun e => hx ⟨x, hx', e⟩
   simpa using this
  have := h.room
  omega
theorem firstFree_at {acc : List Sea} (h : firstFree acc < acc.length) : acc[firstFree acc].st = 0 := by
 have := List.findIdx_getElem (p := fun s : Sea => s.st == 0) (w := h)
 simp only [beq_iff_eq] at this
 exact this
theorem full_before {acc : List Sea} {j : Nat} (hj : j < firstFree acc) (hl : j < acc.length) : acc[j].st ≠ 0 := by
 have := List.not_of_lt_findIdx (p := fun s : Sea => s.st == 0) (xs := acc) (i := j) hj
 simpa using this
theorem Reseat.step {q : Pla} {acc : List Sea} {n : Nat} (h : Reseat q acc (n + 1)) {s : Sea} (hs : s.wf) (h0 : s.st ≠ 0) : Reseat q (reseatStep acc s) n := by
 have hl := firstFree_lt h
 have e : acc.getD (firstFree acc) noSea = acc[firstFree acc] := by
  rw [List.getD_eq_getElem?_getD, List.getElem?_eq_getElem hl]; rfl
 unfold reseatStep
 rw [e]
 refine ⟨h.wf.set hl (at_wf hs) rfl rfl, ?_⟩
 rw [nFull_set hl _ (firstFree_at hl) (by exact h0), List.length_set]
 have := h.room
 omega
theorem homeless_ok {p q : Pla} {l : List Sea} (hwf : Wf p l) : ∀ s ∈ homeless q l, s.wf ∧ s.st ≠ 0 := by
 intro s hs
 unfold homeless at hs
 rw [List.mem_filter] at hs
 refine ⟨hwf.seat s hs.1, ?_⟩
 have := hs.2
 simp only [Bool.and_eq_true] at this
 simpa using this.1
theorem reseat_start {p q : Pla} {l : List Sea} (hwf : Wf p l) (h1 : q.sized = true) (h2 : q.limited = true) (hn : ¬ q.rows * q.cols < (nFull l : Int)) : Reseat q (stay q l) (homeless q l).length := by
 have h := stayed_take hwf h1 h2 l.length (Nat.le_refl _)
 rw [List.take_length] at h
 refine ⟨h.wf, ?_⟩
 have hc := h.count
 rw [List.take_length] at hc
 have hl := h.wf.len
 simp only at hl
 omega
theorem reseat_all {q : Pla} : ∀ (hs : List Sea) (acc : List Sea), (∀ s ∈ hs, s.wf ∧ s.st ≠ 0) → Reseat q acc hs.length → Wf q (hs.foldl reseatStep acc)
 | [], acc, _, h => h.wf
 | s :: hs, acc, hw, h => by
  rw [List.foldl_cons]
  exact reseat_all hs _ (fun x hx => hw x (List.mem_cons_of_mem _ hx)) (Reseat.step h (hw s (List.mem_cons_self)).1 (hw s (List.mem_cons_self)).2)
theorem swap_wf {p q : Pla} {l : List Sea} (hwf : Wf p l) (h1 : q.sized = true) (h2 : q.limited = true) (hn : ¬ q.rows * q.cols < (nFull l : Int)) : Wf q (swapSeats q l) :=
 reseat_all _ _ (homeless_ok hwf) (reseat_start hwf h1 h2 hn)
structure Wd (w0 : World) where
 W : World
 h : Mod No w0 W
theorem wp_region_wd {P : Program} {id : Nat} {Q : Exit → Act → World → Prop} {a : Act} {w w0 : World} {l : List Oper} (hm : P.follows .mixedOrders = true) (hB : Region.lexB .any l.toArray = true) (h0 : Mod No w0 w)
  (h : wpQuiet P l.toArray (fun w' => ∃ x : Wd w0, w' = x.W) (fun a' => ∀ w', (∃ x : Wd w0, w' = x.W) → Q .normal a' w') l a) : (Code.region id l.toArray true).wp P Q a w :=
 wp_region_quiet (C := fun w' => ∃ x : Wd w0, w' = x.W) hm hB ⟨⟨_, h0.drew⟩, rfl⟩ (by simpa using h)
theorem wd_ne (w0 : World) : Nonempty (Wd w0) := ⟨⟨w0, Mod.refl _ _⟩⟩
theorem Calls.wd {P : Program} {f : FuncId} {args : Array Value} {w0 : World} {v : Value} (x : Wd w0)
  (h : Calls P f args x.W fun e w' => e = .returned v ∧ Mod No x.W w') : Calls P f args x.W fun e w'' => e = .returned v ∧ ∃ y : Wd w0, w'' = y.W :=
 h.mono fun _ w'' ⟨he, hm⟩ => ⟨he, ⟨w'', x.h.trans hm⟩, rfl⟩
theorem Has.wd {w0 : World} {b : Nat} {cs : Array Value} {T : TypeId} (h : Has w0 b cs T) (x : Wd w0) (o : Nat) : x.W.cell? ⟨b, o, none⟩ = cs[o]? := (x.h.has h (fun z => z)).cell o
def refitV (q : Pla) : Value := .iface 212 (.agg #[.int .i64 q.rows, .int .i64 q.cols, .int .i64 q.front])
def swapV (q : Pla) (n : Nat) : Value := if q.sized = true ∧ ¬ (q.rows * q.cols < (n : Int)) then grant (refitV q) else refuse 4
theorem run_len (w : World) (m clock : Nat) (l : List MEnt) (hm : w.heap[m]? = some (mapObj l clock)) (ty : TypeId) :
  (Builtin.len_ #[162] ty #[.map (some m)]).run Tryz.prog w = .ok (.int .i64 (l.length : Nat)) w := by
 unfold mapObj at hm
 have hg : (getObj m).run Tryz.prog w = .ok (.map (l.map MEnt.obj).toArray clock) w := by simp [getObj, Sem.run, hm]
 simp [Builtin.len_, run_underlying Tryz.underlying162, hg, goInt]
theorem lookSwap_walk (b m : Nat) (cs : Array Value) (q : Pla) (n : Nat) (w : World) (h : Has w b cs 164) (h7 : cs[7]? = some (.map (some m)))
  (hlen : ∀ W, Mod No w W → ∀ ty, (Builtin.len_ #[162] ty #[.map (some m)]).run Tryz.prog W = .ok (.int .i64 (n : Nat)) W)
  (hrc : q.sized = true → IntKind.i64.wrap (q.rows * q.cols) = q.rows * q.cols) :
  Calls Tryz.prog 98 #[.pointer (some ⟨b, 0, none⟩), plaV q] w fun e w' => e = .returned (swapV q n) ∧ Mod No w w' := by
 have HA := hide fun W => shape_any q W
 have HV := hide (show ∀ s, q.sized = s → swapV q n = if s = true ∧ ¬ (q.rows * q.cols < (n : Int)) then grant (refitV q) else refuse 4 by rintro s rfl; rfl)
 unfold plaV at HA ⊢
 obtain ⟨s, hs⟩ : ∃ s, q.sized = s := ⟨_, rfl⟩
 rw [hs] at HA hrc
 have HV2 := hide ((unhide HV) s hs)
 have HB := hide h
 have M0 := hide ((Mod.refl No w).alloc (.cells #[.int .i64 q.rows, .int .i64 q.cols, .int .i64 q.front, .int .i64 q.l0, .int .i64 q.l1, .int .i64 q.l2, .int .i64 q.l3] 39))
 have B0 := hide (Has.new w #[.int .i64 q.rows, .int .i64 q.cols, .int .i64 q.front, .int .i64 q.l0, .int .i64 q.l1, .int .i64 q.l2, .int .i64 q.l3] 39)
 have HL := hide hlen
 have hlt := h.lt
 clear hs HV hlen h
 have hb : ∀ (x : Wd (w.alloc (.cells #[.int .i64 q.rows, .int .i64 q.cols, .int .i64 q.front, .int .i64 q.l0, .int .i64 q.l1, .int .i64 q.l2, .int .i64 q.l3] 39))) (o : Nat), x.W.cell? ⟨w.heap.size, o, none⟩ = _ := (unhide B0).wd
 have h7 : ∀ x : Wd (w.alloc (.cells #[.int .i64 q.rows, .int .i64 q.cols, .int .i64 q.front, .int .i64 q.l0, .int .i64 q.l1, .int .i64 q.l2, .int .i64 q.l3] 39)), x.W.cell? ⟨b, 7, none⟩ = some (.map (some m)) := fun x => by
  rw [((unhide M0).has (unhide HB) (fun x => x)).wd x 7, h7]
 have hL : ∀ (x : Wd (w.alloc (.cells #[.int .i64 q.rows, .int .i64 q.cols, .int .i64 q.front, .int .i64 q.l0, .int .i64 q.l1, .int .i64 q.l2, .int .i64 q.l3] 39))) ty, (Builtin.len_ #[162] ty #[.map (some m)]).run Tryz.prog x.W = .ok (.int .i64 (n : Nat)) x.W := fun x ty => (unhide HL) _ ((unhide M0).trans x.h) ty
 have hne := wd_ne (w.alloc (.cells #[.int .i64 q.rows, .int .i64 q.cols, .int .i64 q.front, .int .i64 q.l0, .int .i64 q.l1, .int .i64 q.l2, .int .i64 q.l3] 39))
 cases s with
 | false =>
  clear hrc h7 hL
  go_enter Tryz.func98, Tryz.ntmps98
  go_wp2_with fail
  refine wp_region_wd (w0 := (w.alloc (.cells #[.int .i64 q.rows, .int .i64 q.cols, .int .i64 q.front, .int .i64 q.l0, .int .i64 q.l1, .int .i64 q.l2, .int .i64 q.l3] 39))) (by kernel_rfl) (by kernel_rfl) (Mod.refl _ _) ?_
  repeat (go_big_quiet_step ((go_at_call 96; exact Calls.wd _ ((unhide HA) _))))
  refine wpQuiet_nil ?_
  rintro w3 ⟨⟨_, hm3⟩, rfl⟩
  go_wp2
  go_ret2
  exact ⟨by rw [unhide HV2, if_neg (by simp)]; rfl, (unhide M0).trans hm3⟩
 | true =>
  have hrc := hrc rfl
  by_cases hd : q.rows * q.cols < (n : Int)
  ·have HD := hide hd
   go_enter Tryz.func98, Tryz.ntmps98
   go_wp2_with fail
   refine wp_region_wd (w0 := (w.alloc (.cells #[.int .i64 q.rows, .int .i64 q.cols, .int .i64 q.front, .int .i64 q.l0, .int .i64 q.l1, .int .i64 q.l2, .int .i64 q.l3] 39))) (by kernel_rfl) (by kernel_rfl) (Mod.refl _ _) ?_
   repeat (go_big_quiet_step ((go_at_call 96; exact Calls.wd _ ((unhide HA) _))))
   refine wpQuiet_nil ?_
   rintro w3 ⟨⟨_, hm3⟩, rfl⟩
   go_wp2
   go_ret2
   exact ⟨by rw [unhide HV2, if_neg (by have := unhide HD; omega)]; rfl, (unhide M0).trans hm3⟩
  ·have HD := hide hd
   have BX := hide fun (w3 : World) (hm3 : Mod No (w.alloc (.cells #[.int .i64 q.rows, .int .i64 q.cols, .int .i64 q.front, .int .i64 q.l0, .int .i64 q.l1, .int .i64 q.l2, .int .i64 q.l3] 39)) w3) => (hm3.has (unhide B0) (fun x => x))
   go_enter Tryz.func98, Tryz.ntmps98
   go_wp2_with fail
   refine wp_region_wd (w0 := (w.alloc (.cells #[.int .i64 q.rows, .int .i64 q.cols, .int .i64 q.front, .int .i64 q.l0, .int .i64 q.l1, .int .i64 q.l2, .int .i64 q.l3] 39))) (by kernel_rfl) (by kernel_rfl) (Mod.refl _ _) ?_
   repeat (go_big_quiet_step ((go_at_call 96; exact Calls.wd _ ((unhide HA) _))))
   refine wpQuiet_nil ?_
   rintro w3 ⟨⟨_, hm3⟩, rfl⟩
   have cb3 := ((unhide BX) w3 hm3).cell
   go_wp2
   go_ret2
   exact ⟨by rw [unhide HV2, if_pos (by have := unhide HD; simp; omega)]; rfl, (unhide M0).trans hm3⟩
theorem look_swap (b : Nat) (c : Cmd) (now : Int) (x y : Value) (hk : c.kind = 9) (w : World)
  (hS : ∀ W, Mod No w W → Calls Tryz.prog 98 #[.pointer (some ⟨b, 0, none⟩), plaV c.pla] W fun e w' => e = .returned (.tuple #[x, y]) ∧ Mod No W w') :
  Calls Tryz.prog 77 #[.pointer (some ⟨b, 0, none⟩), .agg (cmdCells c), .int .i64 now] w fun e w' => e = .returned (.tuple #[x, y]) ∧ Mod No w w' := by
 have HS := hide hS
 have M0 := hide ((Mod.refl No w).alloc (.cells (cmdCells c) 41))
 unfold cmdCells at M0 ⊢
 unfold plaV at HS
 rw [hk] at M0 ⊢
 clear hk hS
 go_enter Tryz.func77, Tryz.ntmps77
 go_wp2_with fail
 refine ((unhide HS) _ (unhide M0)).mono ?_
 rintro e w1 ⟨rfl, m1⟩
 have M1 := hide ((unhide M0).trans m1)
 clear m1
 go_wp2
 go_ret2
 exact ⟨rfl, unhide M1⟩
def seatAt (p : Pla) (l : List Sea) (r c : Int) : Sea := l.getD (p.idx r c) noSea
def seatErr (p : Pla) (l : List Sea) (c : Cmd) (now : Int) : Int :=
 if c.kind = 9 then (if c.pla.sized = true ∧ ¬ (c.pla.rows * c.pla.cols < (nFull l : Int)) then 0 else 4)
 else if p.has c.ar c.ac = false ∨ (c.kind = 5 ∧ p.has c.tr c.tc = false) then 5
 else if c.kind = 2 then (if buyer c ≠ 0 then buyer c else if c.time ≤ now ∨ c.time > now + 100 then 8 else saleN (seatAt p l c.ar c.ac).st (M.leftOf p l c.cls.toNat))
 else if c.kind = 3 then (if buyer c ≠ 0 then buyer c else if (seatAt p l c.ar c.ac).st = 1 ∧ (seatAt p l c.ar c.ac).pa = c.party ∧ (seatAt p l c.ar c.ac).cl = c.cls then 0 else saleN (seatAt p l c.ar c.ac).st (M.leftOf p l c.cls.toNat))
 else if c.kind = 4 then ownerN (seatAt p l c.ar c.ac).st (seatAt p l c.ar c.ac).pa c.party
 else if c.kind = 5 then (if ownerN (seatAt p l c.ar c.ac).st (seatAt p l c.ar c.ac).pa c.party ≠ 0 then ownerN (seatAt p l c.ar c.ac).st (seatAt p l c.ar c.ac).pa c.party else if (seatAt p l c.tr c.tc).st ≠ 0 then 9 else 0)
 else if c.kind = 6 then (if (seatAt p l c.ar c.ac).st ≠ 0 then 9 else 0)
 else (if (seatAt p l c.ar c.ac).st ≠ 3 then 10 else 0)
def changeV (c : Cmd) : Value :=
 if c.kind = 9 then refitV c.pla
 else if c.kind = 2 then fillV c.ar c.ac 1 c.party c.cls c.time
 else if c.kind = 3 then fillV c.ar c.ac 2 c.party c.cls 0
 else if c.kind = 5 then shiftV c.ar c.ac c.tr c.tc
 else if c.kind = 6 then fillV c.ar c.ac 3 0 0 0
 else emptyV c.ar c.ac
def seatNew (p : Pla) (l : List Sea) (c : Cmd) : List Sea :=
 if c.kind = 9 then swapSeats (swapPla p c.pla) l
 else if c.kind = 2 then l.set (p.idx c.ar c.ac) ⟨c.ar, c.ac, 1, c.party, c.cls, c.time⟩
 else if c.kind = 3 then l.set (p.idx c.ar c.ac) ⟨c.ar, c.ac, 2, c.party, c.cls, 0⟩
 else if c.kind = 5 then (l.set (p.idx c.ar c.ac) (seatAt p l c.ar c.ac).freed).set (p.idx c.tr c.tc) ⟨c.tr, c.tc, (seatAt p l c.ar c.ac).st, (seatAt p l c.ar c.ac).pa, (seatAt p l c.ar c.ac).cl, (seatAt p l c.ar c.ac).un⟩
 else if c.kind = 6 then l.set (p.idx c.ar c.ac) ⟨c.ar, c.ac, 3, 0, 0, 0⟩
 else l.set (p.idx c.ar c.ac) (seatAt p l c.ar c.ac).freed
def planNew (p : Pla) (c : Cmd) : Pla := if c.kind = 9 then swapPla p c.pla else p.next
def lookV (p : Pla) (l : List Sea) (c : Cmd) (now : Int) : Value := if seatErr p l c now = 0 then grant (changeV c) else refuse (seatErr p l c now)
theorem seatAt_eq {p : Pla} {l : List Sea} (hwf : Wf p l) {r c : Int} (hh : p.has r c = true) : ∃ hi : p.idx r c < l.length, seatAt p l r c = l[p.idx r c] ∧ l[p.idx r c].row = r ∧ l[p.idx r c].col = c := by
 have h1 : p.idx r c < l.length := Fli.wf.idx_lt hwf hh
 have h2 := Fli.wf.idx_place hwf hh
 refine ⟨h1, ?_, h2⟩
 unfold seatAt
 rw [List.getD_eq_getElem?_getD, List.getElem?_eq_getElem h1]
 rfl
theorem buyer_ok {c : Cmd} (h : buyer c = 0) : 0 ≤ c.cls ∧ c.cls < 4 ∧ 1 ≤ c.party ∧ c.party ≤ 1000 := by
 unfold buyer at h
 split at h
 ·omega
 ·split at h
  ·omega
  ·omega
theorem flook_any {w : World} {b : Nat} {p : Pla} {l : List Sea} {m : Nat} {es : List MEnt} {clock : Nat} (h : FlX w b p l m es clock) (hwf : Wf p l) (c : Cmd) (now : Int) (hn : 0 ≤ now ∧ now ≤ 4611686018427387000) (hk : 2 ≤ c.kind ∧ c.kind ≤ 9 ∧ c.kind ≠ 8) :
  Calls Tryz.prog 77 #[.pointer (some ⟨b, 0, none⟩), .agg (cmdCells c), .int .i64 now] w fun e w' => e = .returned (lookV p l c now) ∧ Mod No w w' := by
 have hhas : ∀ r cc W, Mod No w W → Calls Tryz.prog 99 #[.pointer (some ⟨b, 0, none⟩), .agg #[.int .i64 r, .int .i64 cc]] W fun e w' => e = .returned (.bool (p.has r cc)) ∧ Mod No W w' := fun r cc W hW =>
  has_walk b r cc p.rows p.cols _ W (hW.has h.has (fun x => x)) rfl rfl
 by_cases h9 : c.kind = 9
 ·have hval : ∃ x y, swapV c.pla (nFull l) = .tuple #[x, y] := by
   unfold swapV; split <;> exact ⟨_, _, rfl⟩
  obtain ⟨x, y, hxy⟩ := hval
  refine (look_swap b c now x y h9 w (fun W hW => ?_)).mono ?_
  ·have := lookSwap_walk b m _ c.pla (nFull l) W (hW.has h.has (fun x => x)) rfl (fun W' hW' ty => by
    have hm' := (hW.trans hW').map h.map (fun x => x)
    have := run_len W' m clock es hm' ty
    rw [h.rel.size] at this
    exact this) (fun hs => by
     simp only [Pla.sized, decide_eq_true_eq] at hs
     have f1 : 0 ≤ c.pla.rows * c.pla.cols := Int.mul_nonneg (by omega) (by omega)
     have f2 : c.pla.rows * c.pla.cols ≤ 20 * 6 := Int.mul_le_mul (by omega) (by omega) (by omega) (by omega)
     exact wrap_id _ (by omega) (by omega))
   rw [hxy] at this
   exact this
  ·rintro e w' ⟨rfl, hm⟩
   refine ⟨?_, hm⟩
   rw [← hxy]
   congr 1
   unfold lookV swapV
   have hse : seatErr p l c now = (if c.pla.sized = true ∧ ¬ (c.pla.rows * c.pla.cols < (nFull l : Int)) then 0 else 4) := by unfold seatErr; rw [if_pos h9]
   have hch : changeV c = refitV c.pla := by unfold changeV; rw [if_pos h9]
   rw [hse, hch]
   by_cases hq : c.pla.sized = true ∧ ¬ (c.pla.rows * c.pla.cols < (nFull l : Int))
   ·rw [if_pos hq, if_pos hq, if_pos rfl]
   ·rw [if_neg hq, if_neg hq, if_neg (by omega)]
 by_cases hat : p.has c.ar c.ac = true
 case neg =>
  have hat' : p.has c.ar c.ac = false := by simpa using hat
  refine (look_noAt b c now w (fun W hW => by have := hhas c.ar c.ac W hW; rw [hat'] at this; exact this) h9).mono ?_
  rintro e w' ⟨rfl, hm⟩
  refine ⟨?_, hm⟩
  simp [lookV, seatErr, h9, hat']
 have hA := fun W hW => by have := hhas c.ar c.ac W hW; rw [hat] at this; exact this
 obtain ⟨hi, he, her, hec⟩ := seatAt_eq hwf hat
 have hs := h.sees hwf _ hi
 rw [her, hec, ← he] at hs
 have hswf : (seatAt p l c.ar c.ac).wf := by rw [he]; exact hwf.seat _ (List.getElem_mem hi)
 obtain ⟨n, hn'⟩ : ∃ n : Nat, (seatAt p l c.ar c.ac).st = n := ⟨(seatAt p l c.ar c.ac).st.toNat, by have := hswf.s0; omega⟩
 have hB : ∀ W, Mod No w W → Calls Tryz.prog 119 #[.agg (cmdCells c)] W fun e w' => e = .returned (.int .i64 (buyer c)) ∧ Mod No W w' := fun W hW => buyer_any c W
 have hS : buyer c = 0 → ∀ W, Mod No w W → Calls Tryz.prog 120 #[.pointer (some ⟨b, 0, none⟩), .agg (cmdCells c)] W fun e w' => e = .returned (.int .i64 (saleN (seatAt p l c.ar c.ac).st (M.leftOf p l c.cls.toNat))) ∧ Mod No W w' := fun hb W hW => by
  have hbk := buyer_ok hb
  refine sale_walk b m c.cls.toNat (by omega) _ c (by omega) _ _ _ _ _ W (hW.has h.has (fun x => x)) rfl ?_ (hs.on hW)
  have : c.cls.toNat = 0 ∨ c.cls.toNat = 1 ∨ c.cls.toNat = 2 ∨ c.cls.toNat = 3 := by omega
  rcases this with e | e | e | e <;> (rw [e]; rfl)
 have hO : ∀ W, Mod No w W → Calls Tryz.prog 121 #[.pointer (some ⟨b, 0, none⟩), .agg (cmdCells c)] W fun e w' => e = .returned (.int .i64 (ownerN (seatAt p l c.ar c.ac).st (seatAt p l c.ar c.ac).pa c.party)) ∧ Mod No W w' := fun W hW => by
  have hs' := hs.on hW
  rw [hn'] at hs' ⊢
  exact owner_walk b m n _ c _ _ _ W (hW.has h.has (fun x => x)) rfl hs'
 have hor : ¬ (p.has c.ar c.ac = false ∨ (c.kind = 5 ∧ p.has c.tr c.tc = false)) ∨ (c.kind = 5 ∧ p.has c.tr c.tc = false) := by
  by_cases hx : c.kind = 5 ∧ p.has c.tr c.tc = false
  ·exact .inr hx
  ·left; rintro (h | h); rw [hat] at h; exact absurd h (by simp); exact hx h
 rcases hor with hor | ⟨h5, hno⟩
 case inr =>
  refine (look_noTo b c now h5 w hA (fun W hW => by have := hhas c.tr c.tc W hW; rw [hno] at this; exact this)).mono ?_
  rintro e w' ⟨rfl, hm⟩
  refine ⟨?_, hm⟩
  simp [lookV, seatErr, h5, hno]
 by_cases k2 : c.kind = 2
 ·have hval : ∃ x y, holdV c now (buyer c) (saleN (seatAt p l c.ar c.ac).st (M.leftOf p l c.cls.toNat)) = .tuple #[x, y] := by
   unfold holdV; (repeat' split) <;> exact ⟨_, _, rfl⟩
  obtain ⟨x, y, hxy⟩ := hval
  refine (look_hold b c now x y k2 w hA (fun W hW => ?_)).mono ?_
  ·have := hold_walk b c now _ _ hn W (fun W' hW' => hB W' (hW.trans hW')) (fun hb W' hW' => hS hb W' (hW.trans hW'))
   rw [hxy] at this
   exact this
  ·rintro e w' ⟨rfl, hm⟩
   refine ⟨?_, hm⟩
   rw [← hxy]
   congr 1
   have hse : seatErr p l c now = (if buyer c ≠ 0 then buyer c else if c.time ≤ now ∨ c.time > now + 100 then 8 else saleN (seatAt p l c.ar c.ac).st (M.leftOf p l c.cls.toNat)) := by
    unfold seatErr; rw [if_neg h9, if_neg hor, if_pos k2]
   have hch : changeV c = fillV c.ar c.ac 1 c.party c.cls c.time := by unfold changeV; rw [if_neg h9, if_pos k2]
   unfold lookV holdV
   rw [hse, hch]
   by_cases hb : buyer c = 0
   ·by_cases ht : c.time ≤ now ∨ c.time > now + 100
    ·simp only [hb, ne_eq, not_true_eq_false, if_false, if_pos ht]; simp
    ·simp only [hb, ne_eq, not_true_eq_false, if_false, if_neg ht]
     by_cases hsl : saleN (seatAt p l c.ar c.ac).st (M.leftOf p l c.cls.toNat) = 0 <;> simp [hsl]
   ·simp [hb]
 by_cases k3 : c.kind = 3
 ·have hval : ∃ x y, bookV c (buyer c) (seatAt p l c.ar c.ac).st (seatAt p l c.ar c.ac).pa (seatAt p l c.ar c.ac).cl (saleN (seatAt p l c.ar c.ac).st (M.leftOf p l c.cls.toNat)) = .tuple #[x, y] := by
   unfold bookV; (repeat' split) <;> exact ⟨_, _, rfl⟩
  obtain ⟨x, y, hxy⟩ := hval
  refine (look_book b c now x y k3 w hA (fun W hW => ?_)).mono ?_
  ·have := book_walk b m _ c _ _ _ _ _ _ W (hW.has h.has (fun x => x)) rfl (hs.on hW) (fun W' hW' => hB W' (hW.trans hW')) (fun hb W' hW' => hS hb W' (hW.trans hW'))
   rw [hxy] at this
   exact this
  ·rintro e w' ⟨rfl, hm⟩
   refine ⟨?_, hm⟩
   rw [← hxy]
   congr 1
   have hse : seatErr p l c now = (if buyer c ≠ 0 then buyer c else if (seatAt p l c.ar c.ac).st = 1 ∧ (seatAt p l c.ar c.ac).pa = c.party ∧ (seatAt p l c.ar c.ac).cl = c.cls then 0 else saleN (seatAt p l c.ar c.ac).st (M.leftOf p l c.cls.toNat)) := by
    unfold seatErr; rw [if_neg h9, if_neg hor, if_neg k2, if_pos k3]
   have hch : changeV c = fillV c.ar c.ac 2 c.party c.cls 0 := by unfold changeV; rw [if_neg h9, if_neg k2, if_pos k3]
   unfold lookV bookV
   rw [hse, hch]
   by_cases hb : buyer c = 0
   ·by_cases ht : (seatAt p l c.ar c.ac).st = 1 ∧ (seatAt p l c.ar c.ac).pa = c.party ∧ (seatAt p l c.ar c.ac).cl = c.cls
    ·simp only [hb, ne_eq, not_true_eq_false, if_false, if_pos ht]; simp
    ·simp only [hb, ne_eq, not_true_eq_false, if_false, if_neg ht]
     by_cases hsl : saleN (seatAt p l c.ar c.ac).st (M.leftOf p l c.cls.toNat) = 0 <;> simp [hsl]
   ·simp [hb]
 by_cases k4 : c.kind = 4
 ·have hval : ∃ x y, cancelV c (ownerN (seatAt p l c.ar c.ac).st (seatAt p l c.ar c.ac).pa c.party) = .tuple #[x, y] := by
   unfold cancelV; (repeat' split) <;> exact ⟨_, _, rfl⟩
  obtain ⟨x, y, hxy⟩ := hval
  refine (look_cancel b c now x y k4 w hA (fun W hW => ?_)).mono ?_
  ·have := cancel_walk b c _ W (fun W' hW' => hO W' (hW.trans hW'))
   rw [hxy] at this
   exact this
  ·rintro e w' ⟨rfl, hm⟩
   refine ⟨?_, hm⟩
   rw [← hxy]
   congr 1
   have hse : seatErr p l c now = ownerN (seatAt p l c.ar c.ac).st (seatAt p l c.ar c.ac).pa c.party := by
    unfold seatErr; rw [if_neg h9, if_neg hor, if_neg k2, if_neg k3, if_pos k4]
   have hch : changeV c = emptyV c.ar c.ac := by unfold changeV; rw [if_neg h9, if_neg k2, if_neg k3, if_neg (by omega), if_neg (by omega)]
   unfold lookV cancelV
   rw [hse, hch]
   by_cases hsl : ownerN (seatAt p l c.ar c.ac).st (seatAt p l c.ar c.ac).pa c.party = 0 <;> simp [hsl]
 by_cases k5 : c.kind = 5
 ·have hto : p.has c.tr c.tc = true := by
   by_cases ht : p.has c.tr c.tc = true
   ·exact ht
   ·exact absurd (.inr ⟨k5, by simpa using ht⟩) hor
  obtain ⟨hj, hje, hjr, hjc⟩ := seatAt_eq hwf hto
  have hs2 := h.sees hwf _ hj
  rw [hjr, hjc, ← hje] at hs2
  have hval : ∃ x y, moveV c (ownerN (seatAt p l c.ar c.ac).st (seatAt p l c.ar c.ac).pa c.party) (seatAt p l c.tr c.tc).st = .tuple #[x, y] := by
   unfold moveV; (repeat' split) <;> exact ⟨_, _, rfl⟩
  obtain ⟨x, y, hxy⟩ := hval
  refine (look_move b c now x y k5 w hA (fun W hW => by have := hhas c.tr c.tc W hW; rw [hto] at this; exact this) (fun W hW => ?_)).mono ?_
  ·have := move_walk b m _ c _ _ _ _ _ W (hW.has h.has (fun x => x)) rfl (fun _ => hs2.on hW) (fun W' hW' => hO W' (hW.trans hW'))
   rw [hxy] at this
   exact this
  ·rintro e w' ⟨rfl, hm⟩
   refine ⟨?_, hm⟩
   rw [← hxy]
   congr 1
   have hse : seatErr p l c now = (if ownerN (seatAt p l c.ar c.ac).st (seatAt p l c.ar c.ac).pa c.party ≠ 0 then ownerN (seatAt p l c.ar c.ac).st (seatAt p l c.ar c.ac).pa c.party else if (seatAt p l c.tr c.tc).st ≠ 0 then 9 else 0) := by
    unfold seatErr; rw [if_neg h9, if_neg hor, if_neg k2, if_neg k3, if_neg k4, if_pos k5]
   have hch : changeV c = shiftV c.ar c.ac c.tr c.tc := by unfold changeV; rw [if_neg h9, if_neg k2, if_neg k3, if_pos k5]
   unfold lookV moveV
   rw [hse, hch]
   by_cases hsl : ownerN (seatAt p l c.ar c.ac).st (seatAt p l c.ar c.ac).pa c.party = 0
   ·by_cases hst : (seatAt p l c.tr c.tc).st = 0 <;> simp [hsl, hst]
   ·simp [hsl]
 by_cases k6 : c.kind = 6
 ·have hval : ∃ x y, blockV c (seatAt p l c.ar c.ac).st = .tuple #[x, y] := by
   unfold blockV; (repeat' split) <;> exact ⟨_, _, rfl⟩
  obtain ⟨x, y, hxy⟩ := hval
  refine (look_block b c now x y k6 w hA (fun W hW => ?_)).mono ?_
  ·have := block_walk b m _ c _ _ _ _ W (hW.has h.has (fun x => x)) rfl (hs.on hW)
   rw [hxy] at this
   exact this
  ·rintro e w' ⟨rfl, hm⟩
   refine ⟨?_, hm⟩
   rw [← hxy]
   congr 1
   have hse : seatErr p l c now = if (seatAt p l c.ar c.ac).st ≠ 0 then 9 else 0 := by
    unfold seatErr; rw [if_neg h9, if_neg hor, if_neg k2, if_neg k3, if_neg k4, if_neg k5, if_pos k6]
   have hch : changeV c = fillV c.ar c.ac 3 0 0 0 := by unfold changeV; rw [if_neg h9, if_neg k2, if_neg k3, if_neg k5, if_pos k6]
   unfold lookV blockV
   rw [hse, hch]
   by_cases hst : (seatAt p l c.ar c.ac).st = 0 <;> simp [hst]
 have k7 : c.kind = 7 := by omega
 ·have hval : ∃ x y, unblockV c (seatAt p l c.ar c.ac).st = .tuple #[x, y] := by
   unfold unblockV; (repeat' split) <;> exact ⟨_, _, rfl⟩
  obtain ⟨x, y, hxy⟩ := hval
  refine (look_unblock b c now x y k7 w hA (fun W hW => ?_)).mono ?_
  ·have := unblock_walk b m _ c _ _ _ _ W (hW.has h.has (fun x => x)) rfl (hs.on hW)
   rw [hxy] at this
   exact this
  ·rintro e w' ⟨rfl, hm⟩
   refine ⟨?_, hm⟩
   rw [← hxy]
   congr 1
   have hse : seatErr p l c now = if (seatAt p l c.ar c.ac).st ≠ 3 then 10 else 0 := by
    unfold seatErr; rw [if_neg h9, if_neg hor, if_neg k2, if_neg k3, if_neg k4, if_neg k5, if_neg k6]
   have hch : changeV c = emptyV c.ar c.ac := by unfold changeV; rw [if_neg h9, if_neg k2, if_neg k3, if_neg k5, if_neg k6]
   unfold lookV unblockV
   rw [hse, hch]
   by_cases hst : (seatAt p l c.ar c.ac).st = 3 <;> simp [hst]
set_option maxHeartbeats 4000000
theorem RowS.set {w : World} {g cap : Nat} {l : List Sea} (h : RowS w g cap l) (i : Nat) (hi : i < l.length) (j : Nat) (hj : j < 6) (v : Value) (s : Sea) (hs : seaV s = (seaV l[i]).setIfInBounds j v) :
  RowS (w.setCell ⟨g, i * 6 + j, none⟩ v) g cap (l.set i s) := by
 obtain ⟨cur, h1, h2, h3⟩ := h.cur
 refine ⟨⟨_, h1.set (i * 6 + j) v, by simpa using h2, fun i' hi' j' hj' => ?_⟩, by simpa using h.le, h.max⟩
 have hi2 : i' < l.length := by simpa using hi'
 have hcur : i * 6 + j < cur.size := by
  have := h.le
  omega
 by_cases e : i' = i
 ·subst e
  simp only [List.getElem_set_self]
  rw [hs]
  by_cases e2 : j = j'
  ·subst e2
   rw [Array.getElem?_setIfInBounds_self_of_lt hcur, Array.getElem?_setIfInBounds_self_of_lt (by simpa [seaV] using hj)]
  ·rw [Array.getElem?_setIfInBounds_ne (by omega), Array.getElem?_setIfInBounds_ne e2]
   exact h3 _ hi2 _ hj'
 ·rw [Array.getElem?_setIfInBounds_ne (by omega), List.getElem_set_ne (fun h => e h.symm)]
  exact h3 _ hi2 _ hj'
theorem RowS.ne_cell {w : World} {g cap : Nat} {l : List Sea} (h : RowS w g cap l) {a : Addr} (ha : g ≠ a.block) (v : Value) : RowS (w.setCell a v) g cap l := by
 obtain ⟨cur, h1, h2, h3⟩ := h.cur
 exact ⟨⟨cur, h1.set_ne ha v, h2, h3⟩, h.le, h.max⟩
structure FlR (w : World) (gf fo g cap : Nat) (p : Pla) (l : List Sea) : Prop where
 row : RowS w g cap l
 len : l.length ≤ 1000
 ne : gf ≠ g
 slice : w.cell? ⟨gf, fo + 8, none⟩ = some (.slice (some ⟨g, 0, none⟩) l.length cap)
 lims : ∀ j, j < 4 → w.cell? ⟨gf, fo + 4 + j, none⟩ = some (.int .i64 (p.lim j))
theorem cell_keep {S : Nat → Prop} {w w' : World} (h : Mod S w w') {a : Addr} {v : Value} (hc : w.cell? a = some v) (hs : ¬ S a.block) : w'.cell? a = some v := by
 have hl := World.block_lt_of_cell? w a hc
 unfold World.cell? at hc ⊢
 rw [h.block _ hl hs]
 exact hc
theorem FlR.mod {w w' : World} {gf fo g cap : Nat} {p : Pla} {l : List Sea} (h : FlR w gf fo g cap p l) (hm : Mod No w w') : FlR w' gf fo g cap p l :=
 ⟨h.row.mod hm (fun x => x), h.len, h.ne, cell_keep hm h.slice (fun x => x), fun j hj => cell_keep hm (h.lims j hj) (fun x => x)⟩
structure SaleOk (w w' : World) (gf fo g cap : Nat) (p : Pla) (l l' : List Sea) : Prop where
 row : RowS w' g cap l'
 mod : Mod (fun k => k = g) w w'
theorem SaleOk.same {w w' : World} {gf fo g cap : Nat} {p : Pla} {l : List Sea} (h : FlR w gf fo g cap p l) (hm : Mod No w w') : SaleOk w w' gf fo g cap p l l :=
 ⟨h.row.mod hm (fun x => x), hm.mono (fun _ _ x => x.elim)⟩
theorem SaleOk.set {w w' : World} {gf fo g cap : Nat} {p : Pla} {l l' : List Sea} (h : SaleOk w w' gf fo g cap p l l') (i : Nat) (hi : i < l'.length) (j : Nat) (hj : j < 6) (v : Value) (s : Sea) (hs : seaV s = (seaV l'[i]).setIfInBounds j v) :
  SaleOk w (w'.setCell ⟨g, i * 6 + j, none⟩ v) gf fo g cap p l (l'.set i s) :=
 ⟨h.row.set i hi j hj v s hs, h.mod.setCell (p := ⟨g, i * 6 + j, none⟩) (.inl rfl) v⟩
theorem limited_bounds {p : Pla} (h : p.limited = true) : 0 ≤ p.l0 ∧ p.l0 ≤ 200 ∧ 0 ≤ p.l1 ∧ p.l1 ≤ 200 ∧ 0 ≤ p.l2 ∧ p.l2 ≤ 200 ∧ 0 ≤ p.l3 ∧ p.l3 ≤ 200 := by
 simp only [Pla.limited, decide_eq_true_eq] at h
 omega
theorem sale_early (wb gf fo g cap i : Nat) (p : Pla) (l : List Sea) (c : Cmd) (w : World) (h : FlR w gf fo g cap p l) (hb : buyer c ≠ 0) :
  Calls Tryz.prog 86 #[.pointer (some ⟨wb, 0, none⟩), .pointer (some ⟨gf, fo, none⟩), .pointer (some ⟨g, i * 6, none⟩), .agg (cmdCells c)] w fun e w' => e = .returned (.int .i64 (buyer c)) ∧ SaleOk w w' gf fo g cap p l l := by
 have HW := hide fun W => whom_any c W
 have HD := hide (show (buyer c != 0) = true by simpa using hb)
 have H := hide h
 have M0 := hide ((Mod.refl No w).alloc (.cells (cmdCells c) 41))
 generalize buyer c = b at *
 clear h hb
 unfold cmdCells at *
 go_enter Tryz.func86, Tryz.ntmps86
 go_wp2_with fail
 refine ((unhide HW) _).mono ?_
 rintro e w1 ⟨rfl, m1⟩
 have hd := unhide HD
 go_wp2
 go_ret
 exact ⟨rfl, SaleOk.same (unhide H) ((unhide M0).trans m1)⟩
end Go.Proofs.YthhibagcpjeihaaGreat
