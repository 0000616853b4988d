import Derived.Test.YthhibagcpjeihaaGreatISwap2ToSwap4
import Derived.Test.YthhibagcpjeihaaGreatIBaseToMaps
import Derived.Deep.DeepCutAuto
import Derived.Test.YthhibagcpjeihaaGreatIRef16ToSwap1
import Derived.Handy
namespace Go.Proofs.YthhibagcpjeihaaGreat
open Go.RowKit Go.WideMaps
open Go.ChangeMaps (setBlock)
open M
set_option linter.unusedVariables false
set_option linter.unusedSimpArgs false
set_option maxRecDepth 100000
set_option maxHeartbeats 4000000
def zeroFl : Array Value := #[.int .i64 0, .int .i64 0, .int .i64 0, .int .i64 0, .int .i64 0, .int .i64 0, .int .i64 0, .map none, .int .i64 0, .int .i64 0, .int .i64 0, .int .i64 0, .int .i64 0, .int .i64 0, .int .i64 0, .int .i64 0, .int .i64 0, .int .i64 0, .int .i64 0, .int .i64 0, .int .i64 0, .int .i64 0, .int .i64 0, .int .i64 0, .int .i64 0]
theorem oneFl (p : Pla) (m : Option Nat) (l : List Sea) : (fcells p (.map m) l).all (·.oneCell') = true := by simp [fcells, fcf, fcs, Value.oneCell']
theorem rowFl : (Tryz.prog.underlying 164).map (·.isRow) = some true := by kernel_rfl
theorem sizeFl : (Tryz.prog.info? 164).map (·.size) = some 25 := by kernel_rfl
def swapPre (p q : Pla) : Pla := ⟨q.rows, q.cols, q.front, p.l0, p.l1, p.l2, p.l3, p.ep⟩
theorem settle_reseat {b m m' clock clock0 : Nat} {p Q : Pla} {l : List Sea} {es es0 : List MEnt} {w w' : World} {v : Value} (hS : SetI w w' b m m' clock p Q l es v l.length) (hwf : Wf p l) (h1 : Q.sized = true) (h2 : Q.limited = true) (hn : ¬ Q.rows * Q.cols < (nFull l : Int)) (hbl : b < w.heap.size) (hml : m' < w.heap.size) :
  ∃ a cp, v = .slice a (homeless Q l).length cp ∧ Calls Tryz.prog 163 #[.pointer (some ⟨b, 0, none⟩), .slice a (homeless Q l).length cp] w' fun e w2 => e = .returned (.tuple #[]) ∧ (∃ es' clock', FlX w2 b Q (swapSeats Q l) m' es' clock') ∧ Mod (fun k => k = b ∨ k = m') w' w2 := by
 have hrow := hS.row
 have hfl := hS.fl
 rw [List.take_length] at hrow hfl
 obtain ⟨a, cp, rfl⟩ := slice_of_owns hrow
 refine ⟨a, cp, rfl, ?_⟩
 have h0 : ReI w' w' b m' Q (stay Q l) (homeless Q l) 0 0 := ⟨hfl, reseat_start hwf h1 h2 hn, fun j h hj => by omega, Mod.refl _ _⟩
 have hlen : (homeless Q l).length ≤ 120 := Nat.le_trans (List.length_filter_le _ _) (Fli.wf.len_le hwf)
 by_cases hpos : 0 < (homeless Q l).length
 ·obtain ⟨g, cp', hv, hE⟩ := rowE_of hrow hpos
  injection hv with e1 e2 e3
  subst e1 e3
  have hg := hS.new g rfl
  refine (reseat_walk b m' g cp Q (stay Q l) (homeless Q l) _ w' h0 (homeless_ok hwf) (fun _ => ⟨rfl, hE, by omega, by omega⟩) hlen).mono ?_
  rintro e w2 ⟨rfl, k, hR⟩
  have hfl := hR.fl
  rw [List.take_length] at hfl
  exact ⟨rfl, hfl, hR.mod⟩
 ·refine (reseat_walk b m' 0 cp Q (stay Q l) (homeless Q l) _ w' h0 (homeless_ok hwf) (fun h => absurd h hpos) hlen).mono ?_
  rintro e w2 ⟨rfl, k, hR⟩
  have hfl := hR.fl
  rw [List.take_length] at hfl
  exact ⟨rfl, hfl, hR.mod⟩
theorem refit_any {S : Nat → Prop} {b : Nat} {p q : Pla} {l : List Sea} {w : World} (h : FlH w S b p l) (hwf : Wf p l) (h1 : q.sized = true) (hn : ¬ q.rows * q.cols < (nFull l : Int)) :
  Calls Tryz.prog 162 #[.agg #[.int .i64 q.rows, .int .i64 q.cols, .int .i64 q.front], .pointer (some ⟨b, 0, none⟩)] w fun e w' =>
   e = .returned (.tuple #[]) ∧ FlH w' (fun k => k = b ∨ w.heap.size ≤ k) b (swapPla p q) (swapSeats (swapPla p q) l) ∧ Mod (fun k => k = b) w w' := by
 obtain ⟨m, es, clock, f1, f2, f3, f4, f5, f6⟩ := h
 have hx : FlX w b p l m es clock := ⟨f1, f2, f3, f4⟩
 have hlt := f1.lt
 have hml := (Array.getElem?_eq_some_iff.1 f2).1
 have hbm := f1.map_ne f2
 have hQ1 : (swapPre p q).sized = true := h1
 have hQ2 : (swapPre p q).limited = true := hwf.limited
 have HX := hide hx
 have H1 := hide h1
 have HFIT := hide fun W (hW : Mod No w W) => (show Calls Tryz.prog 159 #[.pointer (some ⟨b, 0, none⟩), .agg #[.int .i64 q.rows, .int .i64 q.cols, .int .i64 q.front, .int .i64 p.l0, .int .i64 p.l1, .int .i64 p.l2, .int .i64 p.l3]] W fun e w' =>
   e = .returned (.tuple #[]) ∧ (∃ m' es0 clock0, FlX w' b (swapPre p q) (emptySeats (swapPre p q)) m' es0 clock0 ∧ W.heap.size ≤ m') ∧ Mod (fun k => k = b) W w' from by
  refine (fit_any (p := swapPre p q) p.ep ⟨_, _, _, _, _, _, _, _, _, _, _, _, _, _, _, _, _, _, _, _, _, _, _, _, hW.has f1 (fun x => x)⟩ hQ1 hQ2).mono ?_
  rintro e w' ⟨rfl, ⟨m', es0, clock0, g1, g2, g3, g4, g5, g6⟩, hm⟩
  have := g1.map_ne g2
  exact ⟨rfl, ⟨m', es0, clock0, ⟨g1, g2, g3, g4⟩, by rcases g6 with h | h; exact absurd h this; exact h⟩, hm⟩)
 have HSET := hide fun (W : World) (m' clock0 : Nat) (es0 : List MEnt) (hf : FlX W b (swapPre p q) (emptySeats (swapPre p q)) m' es0 clock0) (hm : W.heap[m]? = some (mapObj es clock)) (hmm : m ≠ m') =>
  settle_walk b m m' clock clock0 p (swapPre p q) l es es0 W hf hm f3 f4 hwf hQ1 hQ2 hmm
 have HRES := hide fun (W w' : World) (m' : Nat) (v : Value) (hS : SetI W w' b m m' clock p (swapPre p q) l es v l.length) (hb : b < W.heap.size) (hm' : m' < W.heap.size) => settle_reseat (clock0 := 0) (es0 := []) hS hwf hQ1 hQ2 hn hb hm'
 clear h1 hn hwf f3 f4 f5 f6 hQ1 hQ2 hx
 have F1 := hide f1
 have F2 := hide f2
 clear f1 f2
 go_enter Tryz.func162, Tryz.ntmps162
 go_upto_region 1 with fail
 have mA : Mod No w (w.alloc (.cells #[.int .i64 q.rows, .int .i64 q.cols, .int .i64 q.front] 212)) := (Mod.refl _ w).alloc _
 have FA := hide (mA.has (unhide F1) (fun x => x))
 have lA := (unhide FA).lt
 have MA := hide mA
 have BA := hide (Has.new w #[.int .i64 q.rows, .int .i64 q.cols, .int .i64 q.front] 212)
 have hsA : (w.alloc (.cells #[.int .i64 q.rows, .int .i64 q.cols, .int .i64 q.front] 212)).heap.size = w.heap.size + 1 := World.size_alloc ..
 clear mA
 generalize hwA : w.alloc (.cells #[.int .i64 q.rows, .int .i64 q.cols, .int .i64 q.front] 212) = wA at *
 clear hwA
 have ZB := hide (show Has (wA.alloc (.cells #[.int .i64 0, .int .i64 0, .int .i64 0, .int .i64 0, .int .i64 0, .int .i64 0, .int .i64 0, .map none, .int .i64 0, .int .i64 0, .int .i64 0, .int .i64 0, .int .i64 0, .int .i64 0, .int .i64 0, .int .i64 0, .int .i64 0, .int .i64 0, .int .i64 0, .int .i64 0, .int .i64 0, .int .i64 0, .int .i64 0, .int .i64 0, .int .i64 0] 164)) (w.heap.size + 1) zeroFl 164 from by have := Has.new wA zeroFl 164; rw [hsA] at this; exact this)
 have MZ := hide ((unhide MA).alloc (.cells zeroFl 164))
 go_upto_region 2 with (first
  |(refine wpList_load_has rfl 164 _ rfl b 0 rfl (fcells p (.map (some m)) l) 164 (unhide FA) (fcells p (.map (some m)) l) (fun j v h => by rw [Nat.zero_add]; simpa using h) rowFl sizeFl ?_)
  |(refine wpList_store_has rfl 164 _ _ rfl (w.heap.size + 1) (fcells p (.map (some m)) l) rfl rfl zeroFl 164 (unhide ZB) rfl sizeFl (oneFl p _ l) ?_; intro w5 h5 m5))
 have M5 := hide ((unhide MZ).trans' m5 (fun i hi hl => by omega))
 have B5 := hide (m5.has ((unhide BA).alloc (.cells zeroFl 164)) (by omega))
 have O5 := hide h5
 have X5 := hide (show FlX w5 b p l m es clock from by
  have := unhide HX
  exact ⟨(unhide M5).has this.has (fun x => x), (unhide M5).map this.map (fun x => x), this.ok, this.rel⟩)
 clear m5 h5 ZB MZ
 have b5 := (unhide B5).cell
 have o3 := (unhide O5).cell 3
 rw [show (fcells p (.map (some m)) l)[3]? = some (.int .i64 p.l0) from rfl] at o3
 have o4 := (unhide O5).cell 4
 rw [show (fcells p (.map (some m)) l)[4]? = some (.int .i64 p.l1) from rfl] at o4
 have o5 := (unhide O5).cell 5
 rw [show (fcells p (.map (some m)) l)[5]? = some (.int .i64 p.l2) from rfl] at o5
 have o6 := (unhide O5).cell 6
 rw [show (fcells p (.map (some m)) l)[6]? = some (.int .i64 p.l3) from rfl] at o6
 go_wp2_with fail
 refine ((unhide HFIT) _ (unhide M5)).mono ?_
 rintro e w6 ⟨rfl, ⟨m', es0, clock0, x6, hm'⟩, m6⟩
 clear b5 o3 o4 o5 o6
 have s5 := (unhide O5).lt
 have hmm : m ≠ m' := by omega
 have F6 := hide (m6.map (unhide X5).map (fun e => hbm e))
 have O6 := hide (m6.has (unhide O5) (fun e => by omega))
 have X6 := hide x6
 have M6 := hide (((unhide M5).mono (S' := fun k => k = b) (fun _ _ x => x.elim)).trans m6)
 have l6 := x6.has.lt
 have lm6 := (Array.getElem?_eq_some_iff.1 x6.map).1
 have HM' := hide (show w.heap.size ≤ m' from by have := (unhide M5).size; omega)
 have hbm' := x6.has.map_ne x6.map
 clear x6 m6 X5 B5 O5
 go_wp2_with (first
  |(refine wpList_load_has rfl 164 _ rfl (w.heap.size + 1) 0 rfl (fcells p (.map (some m)) l) 164 (unhide O6) (fcells p (.map (some m)) l) (fun j v h => by rw [Nat.zero_add]; simpa using h) rowFl sizeFl ?_))
 refine ((unhide HSET) _ m' clock0 es0 (unhide X6) (unhide F6) hmm).mono ?_
 rintro e w7 ⟨v, rfl, hS⟩
 have M7 := hide hS.mod
 obtain ⟨a, cp, rfl, hR⟩ := (unhide HRES) _ _ m' v hS l6 lm6
 have HR := hide hR
 clear hR hS HRES HSET HFIT
 go_wp2_with fail
 refine (unhide HR).mono ?_
 rintro e w8 ⟨rfl, ⟨es9, clock9, x8⟩, m8⟩
 have hfin : FlH w8 (fun k => k = b ∨ w.heap.size ≤ k) b (swapPre p q) (swapSeats (swapPre p q) l) := ⟨m', es9, clock9, x8.has, x8.map, x8.ok, x8.rel, .inl rfl, .inr (unhide HM')⟩
 have M8 := hide ((unhide M7).trans m8)
 obtain ⟨c24, z24, l24⟩ : w8.cell? ⟨b, 24, none⟩ = some (.int .i64 p.ep) ∧ w8.frozen? ⟨b, 24, none⟩ = false ∧ b < w8.heap.size := hfin.cell24
 have wE := nx_eq p.ep
 have HB := hide (show FlH (w8.setCell ⟨b, 24, none⟩ (.int .i64 (nx p.ep))) (fun k => k = b ∨ w.heap.size ≤ k) b (swapPla p q) (swapSeats (swapPla p q) l) from hfin.bump.1)
 clear hfin x8 m8 HR
 go_wp2
 go_end0
 refine ⟨rfl, unhide HB, ?_⟩
 exact (((unhide M6).trans' (unhide M8) (fun i hi hl => by rcases hi with e | e; exact e; have := unhide HM'; omega))).at 24 _
open Go.RowKit
def doK (now : Int) (fl : Nat → Option (Pla × List Sea)) (c : Cmd) : Int × Int × (Nat → Option (Pla × List Sea)) :=
 if c.kind < 1 ∨ c.kind > 9 then (1, now, fl)
 else if c.kind = 8 then (if 1 ≤ c.time ∧ c.time ≤ 100 then (0, now + c.time, fun n => (fl n).map (tickF (now + c.time))) else (8, now, fl))
 else if ¬ (1 ≤ c.flight ∧ c.flight ≤ 20) then (2, now, fl)
 else match fl c.flight.toNat with
  | none => if c.kind = 1 then (if c.pla.sized = true ∧ c.pla.limited = true then (0, now, fun j => if j = c.flight.toNat then some (c.pla.at 1, emptySeats c.pla) else fl j) else (4, now, fl)) else (2, now, fl)
  | some x => if c.kind = 1 then (3, now, fl) else if seatErr x.1 x.2 c now = 0 then (0, now, fun j => if j = c.flight.toNat then some (planNew x.1 c, seatNew x.1 x.2 c) else fl j) else (seatErr x.1 x.2 c now, now, fl)
structure KeepH (w : World) (ow : Nat → Nat) (kb : Nat) (now : Int) (fl : Nat → Option (Pla × List Sea)) : Prop where
 ex : ∃ pt, KeepX w ow kb now pt fl
structure KeptX (w w' : World) (ow : Nat → Nat) (kb : Nat) (pt : Nat → Option Nat) (now : Int) (fl : Nat → Option (Pla × List Sea)) : Prop where
 keep : ∃ ow' pt', KeepX w' ow' kb now pt' fl ∧ (∀ k, k < w.heap.size → ow' k = ow k) ∧ ∀ i, 21 ≤ i → pt' i = pt i
 mod : Mod (fun k => ow k ≠ 0 ∧ ow k < 30) w w'
theorem fol_same {w w' : World} {kb : Nat} {now now' : Int} {pt pt' : Nat → Option Nat} (h : Has w kb (keepCells now pt) 121) (h' : Has w' kb (keepCells now' pt') 121) (hp : ∀ i, 21 ≤ i → i < 29 → pt' i = pt i) :
  ∀ i, i < 8 → w'.cell? ⟨kb, 22 + i, none⟩ = w.cell? ⟨kb, 22 + i, none⟩ := fun i hi => by
 rw [h.cell, h'.cell, keep_far _ _ i hi, keep_far _ _ i hi, hp _ (by omega) (by omega)]
theorem apply_start {w : World} {ow : Nat → Nat} {kb : Nat} {now : Int} {pt : Nat → Option Nat} {fl : Nat → Option (Pla × List Sea)} (h : KeepX w ow kb now pt fl) (n : Nat) (hn : 1 ≤ n ∧ n ≤ 20) (hfl : fl n = none) (p : Pla) (h1 : p.sized = true) (h2 : p.limited = true) :
  Calls Tryz.prog 44 #[.pointer (some ⟨kb, 0, none⟩), .agg #[.int .i64 n, startV p]] w fun e w' =>
   e = .returned (.tuple #[]) ∧ KeptX w w' ow kb pt now (fun j => if j = n then some (p.at 1, emptySeats p) else fl j) := by
 refine apply_new kb n hn now pt p w _ h.has (h.gone n (by omega) hfl) (fun W hW hk hb => ?_)
 have hs : w.heap.size ≤ W.heap.size := hW.size
 have hbl := hb.lt
 refine (start_any hb h1 h2).mono ?_
 rintro e w' ⟨rfl, hf, hm⟩
 refine ⟨rfl, ⟨fun k => if k < w.heap.size then ow k else if k = w.heap.size + 2 ∨ (W.heap.size ≤ k ∧ k < w'.heap.size) then n + 2 else 0, updP pt n (w.heap.size + 2), ?_, fun k hk => by simp [hk], fun i hi => by simp only [updP]; rw [if_neg (by omega)]⟩, ?_⟩
 ·have kl : kb < w.heap.size := h.has.lt
  have hm' : Mod (fun k => k = w.heap.size + 2) W w' := hm
  have hsz : W.heap.size ≤ w'.heap.size := hm.size
  refine ⟨hm'.has hk (by omega), by simp [kl, h.mine], fun k hk' => ?_, fun j hj hn' => ?_, fun j p' l' hj hn' => ?_⟩
  ·split at hk'
   ·omega
   ·split at hk'
    ·rename_i e; rcases e with e | e <;> omega
    ·exact absurd rfl hk'
  ·by_cases e : j = n
   ·rw [if_pos e] at hn'; exact absurd hn' (by simp)
   ·rw [if_neg e] at hn'
    simp only [updP, if_neg e]
    exact h.gone j hj hn'
  ·by_cases e : j = n
   ·rw [if_pos e] at hn'
    simp only [Option.some.injEq, Prod.mk.injEq] at hn'
    obtain ⟨rfl, rfl⟩ := hn'
    subst e
    refine ⟨w.heap.size + 2, by simp [updP], (empty_wf h1 h2).at 1, ?_⟩
    refine hf.narrow.wide (fun k ⟨hk1, hk2⟩ => ?_)
    have : ¬ k < w.heap.size := by rcases hk1 with e | e <;> omega
    have h3 : k = w.heap.size + 2 ∨ (W.heap.size ≤ k ∧ k < w'.heap.size) := by rcases hk1 with e | e; exact .inl e; exact .inr ⟨e, hk2⟩
    simp only [if_neg this, if_pos h3]
   ·rw [if_neg e] at hn'
    obtain ⟨b', e1, e2, e3⟩ := h.here j p' l' hj hn'
    refine ⟨b', by simp only [updP, if_neg e]; exact e1, e2, ?_⟩
    have f1 : FlH W (fun k => ow k = j + 2) b' p' l' := e3.mod hW (fun k hk' e => by subst e; rw [h.mine] at hk'; omega)
    have f2 : FlH w' (fun k => ow k = j + 2) b' p' l' := f1.mod hm' (fun k hk' e => by
     subst e
     have := h.old _ (show ow (w.heap.size + 2) ≠ 0 by omega)
     omega)
    refine f2.wide (fun k hk' => ?_)
    have := h.old k (by omega)
    simp only [if_pos this]
    exact hk'
 ·refine (hW.mono (fun k _ (e : k = kb) => by subst e; show ow k ≠ 0 ∧ ow k < 30; rw [h.mine]; omega)).trans' hm (fun i (e : i = w.heap.size + 2) hl => by omega)
theorem refit_keep {w : World} {ow : Nat → Nat} {kb : Nat} {now : Int} {pt : Nat → Option Nat} {fl : Nat → Option (Pla × List Sea)} (h : KeepX w ow kb now pt fl) (n : Nat) (hn : 1 ≤ n ∧ n ≤ 20) {p : Pla} {l : List Sea} (hfl : fl n = some (p, l)) (c : Cmd) (h9 : c.kind = 9) (he : seatErr p l c now = 0) :
  Calls Tryz.prog 44 #[.pointer (some ⟨kb, 0, none⟩), .agg #[.int .i64 n, changeV c]] w fun e w' =>
   e = .returned (.tuple #[]) ∧ KeptX w w' ow kb pt now (fun j => if j = n then some (planNew p c, seatNew p l c) else fl j) := by
 obtain ⟨b, hp, hwf, hf⟩ := h.here n p l (by omega) hfl
 have hc : (keepCells now pt)[1 + n]? = some (.pointer (some ⟨b, 0, none⟩)) := by rw [keep_at now pt n (by omega), hp]; rfl
 have hob : ow b = n + 2 := by obtain ⟨m, es, clock, _, _, _, _, q, _⟩ := hf; exact q
 have hbl : b < w.heap.size := by obtain ⟨m, es, clock, q, _⟩ := hf; exact q.lt
 have hq : c.pla.sized = true ∧ ¬ (c.pla.rows * c.pla.cols < (nFull l : Int)) := by
  unfold seatErr at he
  rw [if_pos h9] at he
  by_cases hq : c.pla.sized = true ∧ ¬ (c.pla.rows * c.pla.cols < (nFull l : Int))
  ·exact hq
  ·rw [if_neg hq] at he; exact absurd he (by omega)
 have ech : changeV c = refitV c.pla := by unfold changeV; rw [if_pos h9]
 have esn : seatNew p l c = swapSeats (swapPla p c.pla) l := by unfold seatNew; rw [if_pos h9]
 have epn : planNew p c = swapPla p c.pla := by unfold planNew; rw [if_pos h9]
 have hwf2 : Wf (swapPla p c.pla) (swapSeats (swapPla p c.pla) l) := swap_wf (q := swapPla p c.pla) hwf hq.1 hwf.limited hq.2
 rw [ech, esn, epn]
 unfold refitV
 refine apply_refit kb b n hn _ _ _ _ w _ h.has hc (fun W hW => (refit_any (hf.mod0 hW) hwf hq.1 hq.2).mono ?_)
 rintro e w' ⟨rfl, hf', hm⟩
 have hs : w.heap.size ≤ W.heap.size := hW.size
 have kl : kb < w.heap.size := h.has.lt
 have hsz : W.heap.size ≤ w'.heap.size := hm.size
 refine ⟨rfl, ⟨fun k => if k < w.heap.size then ow k else if W.heap.size ≤ k ∧ k < w'.heap.size then n + 2 else 0, pt, ?_, fun k hk => by simp [hk], fun _ _ => rfl⟩, (hW.mono (fun _ _ x => x.elim)).trans (hm.mono (fun k _ (e : k = b) => by subst e; show ow k ≠ 0 ∧ ow k < 30; omega))⟩
 refine ⟨hm.has (hW.has h.has (fun x => x)) (by intro e; have := h.mine; rw [e] at this; omega), by simp [kl, h.mine], fun k hk' => ?_, fun j hj hn' => ?_, fun j p' l' hj hn' => ?_⟩
 ·split at hk'
  ·omega
  ·split at hk'
   ·omega
   ·exact absurd rfl hk'
 ·by_cases e : j = n
  ·rw [if_pos e] at hn'; exact absurd hn' (by simp)
  ·rw [if_neg e] at hn'
   exact h.gone j hj hn'
 ·by_cases e : j = n
  ·rw [if_pos e] at hn'
   simp only [Option.some.injEq, Prod.mk.injEq] at hn'
   obtain ⟨rfl, rfl⟩ := hn'
   subst e
   refine ⟨b, hp, hwf2, hf'.narrow.wide (fun k ⟨hk1, hk2⟩ => ?_)⟩
   rcases hk1 with e | e
   ·subst e
    simp only [if_pos hbl]
    exact hob
   ·have : ¬ k < w.heap.size := by omega
    simp only [if_neg this, if_pos (And.intro e hk2)]
  ·rw [if_neg e] at hn'
   obtain ⟨b', e1, e2, e3⟩ := h.here j p' l' hj hn'
   refine ⟨b', e1, e2, ?_⟩
   have f2 : FlH w' (fun k => ow k = j + 2) b' p' l' := (e3.mod0 hW).mod hm (fun k hk' e => by subst e; omega)
   refine f2.wide (fun k hk' => ?_)
   have := h.old k (by omega)
   simp only [if_pos this]
   exact hk'
set_option maxHeartbeats 2000000
attribute [local go_sem] idx40_0 idx40_1 idx40_2 idx40_3
attribute [local go_sem ↓] run_min2 run_max2
theorem fleft_walk (b : Nat) (r c f l0 l1 l2 l3 : Int) (m : Value) (a0 a1 a2 a3 b0 b1 b2 b3 s0 s1 s2 s3 e0 e1 e2 e3 ep : Int) (w : World)
  (h : Has w b (fcs r c f l0 l1 l2 l3 m a0 a1 a2 a3 b0 b1 b2 b3 s0 s1 s2 s3 e0 e1 e2 e3 ep) 164) :
  Calls Tryz.prog 60 #[.pointer (some ⟨b, 0, none⟩)] w fun e w' => e = .returned (.agg #[.int .i64 (min e0 9), .int .i64 (min e1 9), .int .i64 (min e2 9), .int .i64 (min e3 9)]) ∧ Mod No w w' := by
 have hc := h.cell
 have hlt := h.lt
 unfold fcs at hc
 clear h
 go_enter Tryz.func60, Tryz.ntmps60
 go_wp2_with fail
 clear hc
 go_loopw [11] (fun i wr => Hid (Mod No w wr) ∧ Hid (Has wr w.heap.size #[.int .i64 0, .int .i64 0, .int .i64 0, .int .i64 0] 37) ∧
   ((i = .int .i64 0 ∧ Hid (Has wr (w.heap.size + 1) #[.int .i64 e0, .int .i64 e1, .int .i64 e2, .int .i64 e3] 37)) ∨
    (i = .int .i64 1 ∧ Hid (Has wr (w.heap.size + 1) #[.int .i64 (min e0 9), .int .i64 e1, .int .i64 e2, .int .i64 e3] 37)) ∨
    (i = .int .i64 2 ∧ Hid (Has wr (w.heap.size + 1) #[.int .i64 (min e0 9), .int .i64 (min e1 9), .int .i64 e2, .int .i64 e3] 37)) ∨
    (i = .int .i64 3 ∧ Hid (Has wr (w.heap.size + 1) #[.int .i64 (min e0 9), .int .i64 (min e1 9), .int .i64 (min e2 9), .int .i64 e3] 37)) ∨
    (i = .int .i64 4 ∧ Hid (Has wr (w.heap.size + 1) #[.int .i64 (min e0 9), .int .i64 (min e1 9), .int .i64 (min e2 9), .int .i64 (min e3 9)] 37)))) (fun i _ => 4 - (intOf i).toNat)
 case atStart =>
  refine ⟨((Mod.refl No w).alloc _).alloc _, (Has.new w _ _).alloc _, .inl ⟨rfl, hide ?_⟩⟩
  have := Has.new (w.alloc (.cells #[.int .i64 0, .int .i64 0, .int .i64 0, .int .i64 0] 37)) #[.int .i64 e0, .int .i64 e1, .int .i64 e2, .int .i64 e3] 37
  simpa using this
 case round =>
  obtain ⟨hm, h0, hr⟩ := hrel
  have hz0 := (unhide h0).frozen
  have hc0 := (unhide h0).cell
  have hl0 := (unhide h0).lt
  rcases hr with ⟨rfl, hr⟩ | ⟨rfl, hr⟩ | ⟨rfl, hr⟩ | ⟨rfl, hr⟩ | ⟨rfl, hr⟩
  case inr.inr.inr.inr =>
   have hc1 := (unhide hr).cell
   have hl1 := (unhide hr).lt
   have d0 : wr.cell? ⟨w.heap.size, 0, none⟩ = some (.int .i64 0) := hc0 0
   have d1 : wr.cell? ⟨w.heap.size, 1, none⟩ = some (.int .i64 0) := hc0 1
   have d2 : wr.cell? ⟨w.heap.size, 2, none⟩ = some (.int .i64 0) := hc0 2
   have d3 : wr.cell? ⟨w.heap.size, 3, none⟩ = some (.int .i64 0) := hc0 3
   go_wp2
   refine bodyPost_ret (by simp [results, Tryz.results60, go_sem, d0, d1, d2, d3]; try rfl) rfl ?_
   exact ⟨rfl, by repeat' (first | with_reducible exact unhide hm | refine Mod.setCell ?_ (Or.inr (Nat.le_refl _)) _)⟩
  all_goals
   have hc1 := (unhide hr).cell
   have hl1 := (unhide hr).lt
   have hz1 := (unhide hr).frozen
   go_wp2
   go_roundw
   ·have s0 := (unhide hr).set 0 (.int .i64 (min e0 9))
    have s1 := (unhide hr).set 1 (.int .i64 (min e1 9))
    have s2 := (unhide hr).set 2 (.int .i64 (min e2 9))
    have s3 := (unhide hr).set 3 (.int .i64 (min e3 9))
    refine ⟨(unhide hm).setCell (.inr (Nat.le_succ _)) _, (unhide h0).set_ne (by simp) _, ?_⟩
    first
     |(refine .inr (.inl ⟨rfl, ?_⟩); exact s0)
     |(refine .inr (.inr (.inl ⟨rfl, ?_⟩)); exact s1)
     |(refine .inr (.inr (.inr (.inl ⟨rfl, ?_⟩))); exact s2)
     |(refine .inr (.inr (.inr (.inr ⟨rfl, ?_⟩))); exact s3)
   ·simp [intOf]
theorem left_none (kb : Nat) (n c : Int) (w : World) (hF : Calls Tryz.prog 59 #[.pointer (some ⟨kb, 0, none⟩), .int .i64 n] w fun e w' => e = .returned (.pointer none) ∧ w' = w) :
  Calls Tryz.prog 33 #[.pointer (some ⟨kb, 0, none⟩), .int .i64 n, .int .i64 c] w fun e w' => e = .returned (.tuple #[.int .i64 0, .int .i64 2]) ∧ Mod No w w' := by
 have HF := hide hF
 clear hF
 go_enter Tryz.func33, Tryz.ntmps33
 go_wp2_with fail
 refine (unhide HF).mono ?_
 rintro e w1 ⟨rfl, rfl⟩
 go_wp2
 go_ret2
 exact ⟨rfl, Mod.refl _ _⟩
theorem left_class (kb b : Nat) (n c : Int) (hc : ¬ (0 ≤ c ∧ c < 4)) (w : World) (hF : Calls Tryz.prog 59 #[.pointer (some ⟨kb, 0, none⟩), .int .i64 n] w fun e w' => e = .returned (.pointer (some ⟨b, 0, none⟩)) ∧ w' = w) :
  Calls Tryz.prog 33 #[.pointer (some ⟨kb, 0, none⟩), .int .i64 n, .int .i64 c] w fun e w' => e = .returned (.tuple #[.int .i64 0, .int .i64 6]) ∧ Mod No w w' := by
 have HF := hide hF
 clear hF
 rcases Int.lt_or_le c 0 with h1 | h1
 ·clear hc
  go_enter Tryz.func33, Tryz.ntmps33
  go_wp2_with fail
  refine (unhide HF).mono ?_
  rintro e w1 ⟨rfl, rfl⟩
  go_wp2
  go_ret2
  exact ⟨rfl, Mod.refl _ _⟩
 ·have h2 : ¬ c < 0 := by omega
  have h3 : c ≥ 4 := by omega
  clear hc
  go_enter Tryz.func33, Tryz.ntmps33
  go_wp2_with fail
  refine (unhide HF).mono ?_
  rintro e w1 ⟨rfl, rfl⟩
  go_wp2
  go_ret2
  exact ⟨rfl, Mod.refl _ _⟩
theorem left_walk (kb b : Nat) (n : Int) (k : Nat) (hk : k < 4) (e0 e1 e2 e3 : Int) (w : World) (hF : Calls Tryz.prog 59 #[.pointer (some ⟨kb, 0, none⟩), .int .i64 n] w fun e w' => e = .returned (.pointer (some ⟨b, 0, none⟩)) ∧ w' = w)
  (hE : Calls Tryz.prog 60 #[.pointer (some ⟨b, 0, none⟩)] w fun e w' => e = .returned (.agg #[.int .i64 e0, .int .i64 e1, .int .i64 e2, .int .i64 e3]) ∧ Mod No w w') :
  Calls Tryz.prog 33 #[.pointer (some ⟨kb, 0, none⟩), .int .i64 n, .int .i64 k] w fun e w' => e = .returned (.tuple #[.int .i64 (if k = 0 then e0 else if k = 1 then e1 else if k = 2 then e2 else e3), .int .i64 0]) ∧ Mod No w w' := by
 have HF := hide hF
 have HE := hide hE
 clear hF hE
 have : k = 0 ∨ k = 1 ∨ k = 2 ∨ k = 3 := by omega
 rcases this with rfl | rfl | rfl | rfl
 all_goals
  go_enter Tryz.func33, Tryz.ntmps33
  go_wp2_with fail
  refine (unhide HF).mono ?_
  rintro e w1 ⟨rfl, rfl⟩
  go_wp2_with fail
  refine (unhide HE).mono ?_
  rintro e w2 ⟨rfl, m2⟩
  go_wp2
  go_ret2
  exact ⟨rfl, m2⟩
structure TFile where
 v : Value
 xs : List Value
 last : Nat
structure TTape where
 f0 : TFile
 f1 : TFile
 f2 : TFile
 f3 : TFile
 room : Int
 fuse : Int
def TTape.cells (t : TTape) : Array Value :=
 #[t.f0.v, .int .i64 t.f0.last, t.f1.v, .int .i64 t.f1.last, t.f2.v, .int .i64 t.f2.last, t.f3.v, .int .i64 t.f3.last, .int .i64 t.room, .int .i64 t.fuse]
structure TFile.ok (S : Nat → Prop) (w : World) (f : TFile) : Prop where
 owns : w.ownsRow 0 5 1 f.v f.xs.length f.xs
 last : f.last ≤ f.xs.length
 len : f.xs.length ≤ 17592186044416
 bytes : ∀ x ∈ f.xs, ∃ n : Int, x = .int .u8 n ∧ 0 ≤ n ∧ n < 256
 inn : ∀ k, f.v.ownBlock = some k → S k
def TFile.apart (f g : TFile) : Prop := ∀ k, f.v.ownBlock = some k → g.v.ownBlock ≠ some k
theorem TFile.apart.symm {f g : TFile} (h : f.apart g) : g.apart f := fun k hk hf => h k hf hk
structure TTape.ok (S : Nat → Prop) (w : World) (b : Nat) (t : TTape) : Prop where
 has : Has w b t.cells 108
 inn : S b
 k0 : t.f0.ok S w
 k1 : t.f1.ok S w
 k2 : t.f2.ok S w
 k3 : t.f3.ok S w
 a01 : t.f0.apart t.f1
 a02 : t.f0.apart t.f2
 a03 : t.f0.apart t.f3
 a12 : t.f1.apart t.f2
 a13 : t.f1.apart t.f3
 a23 : t.f2.apart t.f3
theorem slice_form {S : Nat → Prop} {w : World} {f : TFile} (h : f.ok S w) : ∃ a cap, f.v = .slice a f.xs.length cap ∧ (f.xs.length : Int) ≤ 17592186044416 := by
 obtain ⟨⟨hl, h⟩, _, hm, _⟩ := h
 rcases h with ⟨h, hn⟩ | ⟨g, cap, cur, h, _⟩
 ·exact ⟨none, 0, by rw [h, hn], by omega⟩
 ·exact ⟨_, cap, h, by omega⟩
def TTape.used (t : TTape) : Nat := t.f0.xs.length + t.f1.xs.length + t.f2.xs.length + t.f3.xs.length
theorem TFile.ok.mod {S S' : Nat → Prop} {w w' : World} {f : TFile} (h : f.ok S w) (hm : Mod S' w w') (hs : ∀ k, f.v.ownBlock = some k → ¬ S' k) : f.ok S w' :=
 ⟨hm.owns h.owns hs, h.last, h.len, h.bytes, h.inn⟩
theorem TTape.ok.mod {S S' : Nat → Prop} {w w' : World} {b : Nat} {t : TTape} (h : t.ok S w b) (hm : Mod S' w w') (hs : ∀ k, S k → ¬ S' k) : t.ok S w' b :=
 ⟨hm.has h.has (hs b h.inn), h.inn, h.k0.mod hm (fun k hk => hs k (h.k0.inn k hk)), h.k1.mod hm (fun k hk => hs k (h.k1.inn k hk)),
  h.k2.mod hm (fun k hk => hs k (h.k2.inn k hk)), h.k3.mod hm (fun k hk => hs k (h.k3.inn k hk)), h.a01, h.a02, h.a03, h.a12, h.a13, h.a23⟩
theorem TTape.ok.mod0 {S : Nat → Prop} {w w' : World} {b : Nat} {t : TTape} (h : t.ok S w b) (hm : Mod No w w') : t.ok S w' b := h.mod hm (fun _ _ x => x)
theorem TFile.ok.wide {S S' : Nat → Prop} {w : World} {f : TFile} (h : f.ok S w) (hs : ∀ k, S k → S' k) : f.ok S' w := ⟨h.owns, h.last, h.len, h.bytes, fun k hk => hs k (h.inn k hk)⟩
theorem TTape.ok.wide {S S' : Nat → Prop} {w : World} {b : Nat} {t : TTape} (h : t.ok S w b) (hs : ∀ k, S k → S' k) : t.ok S' w b :=
 ⟨h.has, hs _ h.inn, h.k0.wide hs, h.k1.wide hs, h.k2.wide hs, h.k3.wide hs, h.a01, h.a02, h.a03, h.a12, h.a13, h.a23⟩
def burnt (f : Int) : Int := if 0 < f then f - 1 else f
theorem cells_fuse (t : TTape) (n : Int) : t.cells.setIfInBounds 9 (.int .i64 n) = ({ t with fuse := n } : TTape).cells := rfl
theorem TTape.ok.fuse {S : Nat → Prop} {w : World} {b : Nat} {t : TTape} (h : t.ok S w b) (n : Int) : ({ t with fuse := n } : TTape).ok S (w.setCell ⟨b, 9, none⟩ (.int .i64 n)) b := by
 have ne : ∀ (f : TFile), f.ok S w → f.v.ownBlock ≠ some b := fun f hf e => by
  rcases hf.owns.2 with ⟨hv, _⟩ | ⟨g, cap, cur, hv, _, hg, _⟩
  ·rw [hv] at e; simp [Value.ownBlock] at e
  ·rw [hv] at e; simp [Value.ownBlock] at e; subst e
   exact h.has.ne (T' := 5) hg (by decide) rfl
 have k : ∀ (f : TFile), f.ok S w → f.ok S (w.setCell ⟨b, 9, none⟩ (.int .i64 n)) := fun f hf =>
  ⟨owns_setCell_ne hf.owns (by simpa using ne f hf) _, hf.last, hf.len, hf.bytes, hf.inn⟩
 exact ⟨by have := h.has.set 9 (.int .i64 n); rwa [cells_fuse] at this, h.inn, k _ h.k0, k _ h.k1, k _ h.k2, k _ h.k3, h.a01, h.a02, h.a03, h.a12, h.a13, h.a23⟩
theorem burn_any {S : Nat → Prop} (b : Nat) (t : TTape) (w : World) (h : t.ok S w b) (hf : -4611686018427387904 ≤ t.fuse ∧ t.fuse ≤ 4611686018427387904) :
  Calls Tryz.prog 73 #[.pointer (some ⟨b, 0, none⟩)] w fun e w' => e = .returned (.bool (decide (t.fuse ≠ 0))) ∧ ({ t with fuse := burnt t.fuse } : TTape).ok S w' b ∧ Mod (· = b) w w' := by
 have hc := h.has.cell
 have hz := h.has.frozen
 have H := hide h
 have e9 : t.cells[9]? = some (.int .i64 t.fuse) := rfl
 have hc9 := hc 9
 rw [e9] at hc9
 clear hc h e9
 obtain ⟨f0, f1, f2, f3, room, f⟩ := t
 simp only at hc9 hf
 simp only
 rcases Int.lt_trichotomy f 0 with hlt | heq | hgt
 ·go_enter Tryz.func73, Tryz.ntmps73
  go_wp2
  all_goals go_ret
  all_goals exact ⟨by simp; omega, by simpa [burnt, Int.not_lt.2 (Int.le_of_lt hlt)] using unhide H, Mod.refl _ _⟩
 ·subst heq
  go_enter Tryz.func73, Tryz.ntmps73
  go_wp2
  all_goals go_ret
  all_goals exact ⟨by simp, by simpa [burnt] using unhide H, Mod.refl _ _⟩
 ·have hw := wrap_id (f - 1) (by omega) (by omega)
  go_enter Tryz.func73, Tryz.ntmps73
  go_wp2
  all_goals go_ret
  all_goals exact ⟨by simp; omega, by simpa [burnt, hgt] using (unhide H).fuse (f - 1), Mod.setCell (S := fun k => k = b) (Mod.refl _ w) (p := ⟨b, 9, none⟩) (.inl rfl) _⟩
def TTape.get (t : TTape) : Nat → TFile
 | 0 => t.f0
 | 1 => t.f1
 | 2 => t.f2
 | _ => t.f3
def TTape.put (t : TTape) (f : TFile) : Nat → TTape
 | 0 => { t with f0 := f }
 | 1 => { t with f1 := f }
 | 2 => { t with f2 := f }
 | _ => { t with f3 := f }
def Touch (b : Nat) (f : TFile) : Nat → Prop := fun k => k = b ∨ f.v.ownBlock = some k
theorem TFile.ok.ne {S : Nat → Prop} {w : World} {f : TFile} (hf : f.ok S w) {b : Nat} {cs : Array Value} (h : Has w b cs 108) : f.v.ownBlock ≠ some b := fun e => by
 rcases hf.owns.2 with ⟨hv, _⟩ | ⟨g, cap, cur, hv, _, hg, _⟩
 ·rw [hv] at e; simp [Value.ownBlock] at e
 ·rw [hv] at e; simp [Value.ownBlock] at e; subst e
  exact h.ne (T' := 5) hg (by decide) rfl
theorem TFile.ok.other {S : Nat → Prop} {w w' : World} {b : Nat} {f g : TFile} {cs : Array Value} (hf : f.ok S w) (hb : Has w b cs 108) (ha : f.apart g) (hm : Mod (Touch b g) w w') : f.ok S w' :=
 hf.mod hm (fun k hk => by
  rintro (rfl | h)
  ·exact hf.ne hb hk
  ·exact ha k hk h)
theorem TTape.ok.put {S S' : Nat → Prop} {w w' : World} {b : Nat} {t : TTape} (h : t.ok S w b) (i : Nat) (hi : i < 4) (f : TFile)
  (hm : Mod (Touch b (t.get i)) w w') (hhas : Has w' b (t.put f i).cells 108) (hf : f.ok S' w') (hS : ∀ k, S k → S' k)
  (hst : ∀ k, f.v.ownBlock = some k → (t.get i).v.ownBlock = some k ∨ w.heap.size ≤ k) : (t.put f i).ok S' w' b := by
 have lt : ∀ (g : TFile), g.ok S w → ∀ k, g.v.ownBlock = some k → k < w.heap.size := fun g hg k hk => (hg.owns.lt k hk).2
 have ap : ∀ (g : TFile), g.ok S w → (t.get i).apart g → f.apart g := fun g hg ha k hk hgk => by
  rcases hst k hk with h1 | h1
  ·exact ha k h1 hgk
  ·have := lt g hg k hgk; omega
 match i, hi with
 | 0, _ =>
  exact ⟨hhas, hS _ h.inn, hf, (h.k1.other h.has h.a01.symm hm).wide hS, (h.k2.other h.has h.a02.symm hm).wide hS, (h.k3.other h.has h.a03.symm hm).wide hS,
   ap _ h.k1 h.a01, ap _ h.k2 h.a02, ap _ h.k3 h.a03, h.a12, h.a13, h.a23⟩
 | 1, _ =>
  exact ⟨hhas, hS _ h.inn, (h.k0.other h.has h.a01 hm).wide hS, hf, (h.k2.other h.has h.a12.symm hm).wide hS, (h.k3.other h.has h.a13.symm hm).wide hS,
   (ap _ h.k0 h.a01.symm).symm, h.a02, h.a03, ap _ h.k2 h.a12, ap _ h.k3 h.a13, h.a23⟩
 | 2, _ =>
  exact ⟨hhas, hS _ h.inn, (h.k0.other h.has h.a02 hm).wide hS, (h.k1.other h.has h.a12 hm).wide hS, hf, (h.k3.other h.has h.a23.symm hm).wide hS,
   h.a01, (ap _ h.k0 h.a02.symm).symm, h.a03, (ap _ h.k1 h.a12.symm).symm, h.a13, ap _ h.k3 h.a23⟩
 | 3, _ =>
  exact ⟨hhas, hS _ h.inn, (h.k0.other h.has h.a03 hm).wide hS, (h.k1.other h.has h.a13 hm).wide hS, (h.k2.other h.has h.a23 hm).wide hS, hf,
   h.a01, h.a02, (ap _ h.k0 h.a03.symm).symm, h.a12, (ap _ h.k1 h.a13.symm).symm, (ap _ h.k2 h.a23.symm).symm⟩
theorem TTape.ok.get {S : Nat → Prop} {w : World} {b : Nat} {t : TTape} (h : t.ok S w b) (i : Nat) (hi : i < 4) : (t.get i).ok S w := by
 match i, hi with
 | 0, _ => exact h.k0
 | 1, _ => exact h.k1
 | 2, _ => exact h.k2
 | 3, _ => exact h.k3
theorem cells_v (t : TTape) (i : Nat) (hi : i < 4) : t.cells[i * 2]? = some (t.get i).v ∧ t.cells[i * 2 + 1]? = some (.int .i64 (t.get i).last) := by
 match i, hi with
 | 0, _ => exact ⟨rfl, rfl⟩
 | 1, _ => exact ⟨rfl, rfl⟩
 | 2, _ => exact ⟨rfl, rfl⟩
 | 3, _ => exact ⟨rfl, rfl⟩
theorem cells_put (t : TTape) (v : Value) (xs : List Value) (l : Nat) (i : Nat) (hi : i < 4) : (t.cells.setIfInBounds (i * 2) v).setIfInBounds (i * 2 + 1) (.int .i64 l) = (t.put ⟨v, xs, l⟩ i).cells := by
 match i, hi with
 | 0, _ => rfl
 | 1, _ => rfl
 | 2, _ => rfl
 | 3, _ => rfl
theorem cells_put_v (t : TTape) (v : Value) (xs : List Value) (i : Nat) (hi : i < 4) : t.cells.setIfInBounds (i * 2) v = (t.put ⟨v, xs, (t.get i).last⟩ i).cells := by
 match i, hi with
 | 0, _ => rfl
 | 1, _ => rfl
 | 2, _ => rfl
 | 3, _ => rfl
theorem cells_put_l (t : TTape) (xs : List Value) (l : Nat) (i : Nat) (hi : i < 4) : t.cells.setIfInBounds (i * 2 + 1) (.int .i64 l) = (t.put ⟨(t.get i).v, xs, l⟩ i).cells := by
 match i, hi with
 | 0, _ => rfl
 | 1, _ => rfl
 | 2, _ => rfl
 | 3, _ => rfl
theorem new_any (n : Int) (w : World) :
  Calls Tryz.prog 18 #[.int .i64 n] w fun e w' => e = .returned (.pointer (some ⟨w.heap.size, 0, none⟩)) ∧
   w' = w.alloc (.cells (⟨⟨.slice none 0 0, [], 0⟩, ⟨.slice none 0 0, [], 0⟩, ⟨.slice none 0 0, [], 0⟩, ⟨.slice none 0 0, [], 0⟩, n, -1⟩ : TTape).cells 108) := by
 go_enter Tryz.func18, Tryz.ntmps18
 go_wp2
 go_ret
 exact ⟨rfl, rfl⟩
theorem room_any (b : Nat) (n : Int) (w : World) (cs : Array Value) (h : Has w b cs 108) (h8 : cs[8]? = some (.int .i64 n)) :
  Calls Tryz.prog 28 #[.pointer (some ⟨b, 0, none⟩)] w fun e w' => e = .returned (.int .i64 n) ∧ w' = w := by
 have hc := h.cell 8
 rw [h8] at hc
 clear h
 go_enter Tryz.func28, Tryz.ntmps28
 go_wp2
 go_ret
 exact ⟨rfl, rfl⟩
theorem idx84_0 (x0 x1 x2 x3 x4 x5 x6 x7 : Value) (w : World) : (Instr.index 106 (.agg #[x0, x1, x2, x3, x4, x5, x6, x7]) (.int .i64 0)).run Tryz.prog w = .ok (.agg #[x0, x1]) w := by
 simp [go_sem, Instr.index]
theorem idx84_1 (x0 x1 x2 x3 x4 x5 x6 x7 : Value) (w : World) : (Instr.index 106 (.agg #[x0, x1, x2, x3, x4, x5, x6, x7]) (.int .i64 1)).run Tryz.prog w = .ok (.agg #[x2, x3]) w := by
 simp [go_sem, Instr.index]
theorem idx84_2 (x0 x1 x2 x3 x4 x5 x6 x7 : Value) (w : World) : (Instr.index 106 (.agg #[x0, x1, x2, x3, x4, x5, x6, x7]) (.int .i64 2)).run Tryz.prog w = .ok (.agg #[x4, x5]) w := by
 simp [go_sem, Instr.index]
theorem idx84_3 (x0 x1 x2 x3 x4 x5 x6 x7 : Value) (w : World) : (Instr.index 106 (.agg #[x0, x1, x2, x3, x4, x5, x6, x7]) (.int .i64 3)).run Tryz.prog w = .ok (.agg #[x6, x7]) w := by
 simp [go_sem, Instr.index]
attribute [local go_sem] idx84_0 idx84_1 idx84_2 idx84_3
set_option maxRecDepth 100000 in
theorem used_core (b : Nat) (a0 a1 a2 a3 : Option Addr) (n0 n1 n2 n3 c0 c1 c2 c3 : Nat) (l0 l1 l2 l3 r f : Int) (w : World)
  (h0 : n0 ≤ 17592186044416) (h1 : n1 ≤ 17592186044416) (h2 : n2 ≤ 17592186044416) (h3 : n3 ≤ 17592186044416)
  (hc : ∀ o, w.cell? ⟨b, o, none⟩ = (#[.slice a0 n0 c0, .int .i64 l0, .slice a1 n1 c1, .int .i64 l1, .slice a2 n2 c2, .int .i64 l2, .slice a3 n3 c3, .int .i64 l3, .int .i64 r, .int .i64 f] : Array Value)[o]?) :
  Calls Tryz.prog 137 #[.pointer (some ⟨b, 0, none⟩)] w fun e w' => e = .returned (.int .i64 (n0 + n1 + n2 + n3 : Nat)) ∧ Mod No w w' := by
 go_enter Tryz.func137, Tryz.ntmps137
 go_wp2
 go_loopw [3, 10] (fun n i wr => ((i = .int .i64 0 ∧ n = .int .i64 0) ∨ (i = .int .i64 1 ∧ n = .int .i64 n0) ∨ (i = .int .i64 2 ∧ n = .int .i64 (n0 + n1)) ∨ (i = .int .i64 3 ∧ n = .int .i64 (n0 + n1 + n2)) ∨ (i = .int .i64 4 ∧ n = .int .i64 (n0 + n1 + n2 + n3))) ∧ Mod No w wr) (fun _ i _ => 4 - (intOf i).toNat)
 case atStart => exact ⟨.inl ⟨rfl, rfl⟩, Mod.refl _ _⟩
 case round =>
  obtain ⟨hr, hm⟩ := hrel
  clear hc
  rcases hr with ⟨rfl, rfl⟩ | ⟨rfl, rfl⟩ | ⟨rfl, rfl⟩ | ⟨rfl, rfl⟩ | ⟨rfl, rfl⟩
  ·go_wp2
   go_roundw
   ·exact ⟨.inr (.inl ⟨rfl, rfl⟩), hm.alloc _⟩
   ·simp [intOf]
  ·go_wp2
   go_roundw
   ·exact ⟨.inr (.inr (.inl ⟨rfl, rfl⟩)), hm.alloc _⟩
   ·simp [intOf]
  ·go_wp2
   go_roundw
   ·exact ⟨.inr (.inr (.inr (.inl ⟨rfl, rfl⟩))), hm.alloc _⟩
   ·simp [intOf]
  ·go_wp2
   go_roundw
   ·exact ⟨.inr (.inr (.inr (.inr ⟨rfl, rfl⟩))), hm.alloc _⟩
   ·simp [intOf]
  ·go_wp2
   go_ret
   exact ⟨rfl, hm⟩
theorem used_any {S : Nat → Prop} (b : Nat) (t : TTape) (w : World) (h : t.ok S w b) :
  Calls Tryz.prog 137 #[.pointer (some ⟨b, 0, none⟩)] w fun e w' => e = .returned (.int .i64 t.used) ∧ Mod No w w' := by
 have hc := h.has.cell
 obtain ⟨a0, c0, e0, m0⟩ := slice_form h.k0
 obtain ⟨a1, c1, e1, m1⟩ := slice_form h.k1
 obtain ⟨a2, c2, e2, m2⟩ := slice_form h.k2
 obtain ⟨a3, c3, e3, m3⟩ := slice_form h.k3
 unfold TTape.cells at hc
 rw [e0, e1, e2, e3] at hc
 exact used_core b a0 a1 a2 a3 _ _ _ _ c0 c1 c2 c3 _ _ _ _ _ _ w (by omega) (by omega) (by omega) (by omega) hc
theorem fits_core (b : Nat) (cs : Array Value) (u n r : Int) (w : World) (hu : 0 ≤ u) (hu2 : u ≤ 140737488355328) (hn : 0 ≤ n) (hn2 : n ≤ 140737488355328) (h : Has w b cs 108)
  (hused : ∀ W, Mod No w W → Calls Tryz.prog 137 #[.pointer (some ⟨b, 0, none⟩)] W fun e w' => e = .returned (.int .i64 u) ∧ Mod No W w')
  (hr : cs[8]? = some (.int .i64 r)) :
  Calls Tryz.prog 122 #[.pointer (some ⟨b, 0, none⟩), .int .i64 n] w fun e w' => e = .returned (.bool (decide (u + n ≤ r))) ∧ Mod No w w' := by
 have hc := h.cell
 have hw := wrap_id (u + n) (by omega) (by omega)
 go_enter Tryz.func122, Tryz.ntmps122
 go_wp2_with fail
 go_region_with (go_at_call 137; refine (hused _ ?_).mono ?_; exact (Mod.refl No w).drew; rintro e w' ⟨rfl, hm⟩; have hc' := (hm.has h.drew (fun x => x)).cell)
 all_goals
  go_wp2
  go_ret
  exact ⟨by simp [Act.put], (Mod.refl No w).drew.trans hm⟩
theorem fits_any {S : Nat → Prop} (b : Nat) (t : TTape) (n : Int) (w : World) (h : t.ok S w b) (hn : 0 ≤ n) (hn2 : n ≤ 140737488355328) :
  Calls Tryz.prog 122 #[.pointer (some ⟨b, 0, none⟩), .int .i64 n] w fun e w' => e = .returned (.bool (decide (t.used + n ≤ t.room))) ∧ Mod No w w' :=
 fits_core b t.cells t.used n t.room w (by omega)
  (by have h0 := h.k0.len; have h1 := h.k1.len; have h2 := h.k2.len; have h3 := h.k3.len; unfold TTape.used; omega) hn hn2 h.has
  (fun W hW => used_any b t W (h.mod0 hW)) rfl
end Go.Proofs.YthhibagcpjeihaaGreat
