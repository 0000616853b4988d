import Derived.Test.YthhibagcpjeihaaGKeep4ToSwap4
import Derived.Test.YthhibagcpjeihaaGModelToMaps
import Derived.Deep.DeepCutAuto
import Derived.Handy
import Derived.Test.YthhibagcpjeihaaGTape3ToTape5
/- Another plane: the change, done. -/
namespace Go.Proofs.Ythhibagcpjeihaa
open Go.RowKit Go.WideMaps
open Go.ChangeMaps (setBlock)
open M
set_option linter.unusedVariables false
set_option linter.unusedSimpArgs false
set_option maxRecDepth 100000
set_option maxHeartbeats 4000000

/-- A flight of nothing. -/
def zeroFl : Array Value := #[.int .i64 0, .int .i64 0, .int .i64 0, .int .i64 0, .int .i64 0, .int .i64 0, .int .i64 0, .map none, .int .i64 0, .int .i64 0, .int .i64 0, .int .i64 0, .int .i64 0, .int .i64 0, .int .i64 0, .int .i64 0, .int .i64 0, .int .i64 0, .int .i64 0, .int .i64 0, .int .i64 0, .int .i64 0, .int .i64 0, .int .i64 0, .int .i64 0]
theorem oneFl (p : Pla) (m : Option Nat) (l : List Sea) : (fcells p (.map m) l).all (·.oneCell') = true := by simp [fcells, fcf, fcs, Value.oneCell']
theorem rowFl : (Try.prog.underlying 138).map (·.isRow) = some true := by kernel_rfl
theorem sizeFl : (Try.prog.info? 138).map (·.size) = some 25 := by kernel_rfl

/-- A flight's plane, before a Swap is counted. -/
def swapPre (p q : Pla) : Pla := ⟨q.rows, q.cols, q.front, p.l0, p.l1, p.l2, p.l3, p.ep⟩

/-- Those who stay, then the homeless. -/
theorem settle_reseat {b m m' clock clock0 : Nat} {p Q : Pla} {l : List Sea} {es es0 : List MEnt} {w w' : World} {v : Value} (hS : SetI w w' b m m' clock p Q l es v l.length) (hwf : Wf p l) (h1 : Q.sized = true) (h2 : Q.limited = true) (hn : ¬ Q.rows * Q.cols < (nFull l : Int)) (hbl : b < w.heap.size) (hml : m' < w.heap.size) :
    ∃ a cp, v = .slice a (homeless Q l).length cp ∧ Calls Try.prog 135 #[.pointer (some ⟨b, 0, none⟩), .slice a (homeless Q l).length cp] w' fun e w2 => e = .returned (.tuple #[]) ∧ (∃ es' clock', FlX w2 b Q (swapSeats Q l) m' es' clock') ∧ Mod (fun k => k = b ∨ k = m') w' w2 := by
  have hrow := hS.row
  have hfl := hS.fl
  rw [List.take_length] at hrow hfl
  obtain ⟨a, cp, rfl⟩ := slice_of_owns hrow
  refine ⟨a, cp, rfl, ?_⟩
  have h0 : ReI w' w' b m' Q (stay Q l) (homeless Q l) 0 0 := ⟨hfl, reseat_start hwf h1 h2 hn, fun j h hj => by omega, Mod.refl _ _⟩
  have hlen : (homeless Q l).length ≤ 120 := Nat.le_trans (List.length_filter_le _ _) (Fli.wf.len_le hwf)
  by_cases hpos : 0 < (homeless Q l).length
  · obtain ⟨g, cp', hv, hE⟩ := rowE_of hrow hpos
    injection hv with e1 e2 e3
    subst e1 e3
    have hg := hS.new g rfl
    refine (reseat_walk b m' g cp Q (stay Q l) (homeless Q l) _ w' h0 (homeless_ok hwf) (fun _ => ⟨rfl, hE, by omega, by omega⟩) hlen).mono ?_
    rintro e w2 ⟨rfl, k, hR⟩
    have hfl := hR.fl
    rw [List.take_length] at hfl
    exact ⟨rfl, hfl, hR.mod⟩
  · refine (reseat_walk b m' 0 cp Q (stay Q l) (homeless Q l) _ w' h0 (homeless_ok hwf) (fun h => absurd h hpos) hlen).mono ?_
    rintro e w2 ⟨rfl, k, hR⟩
    have hfl := hR.fl
    rw [List.take_length] at hfl
    exact ⟨rfl, hfl, hR.mod⟩

theorem refit_any {S : Nat → Prop} {b : Nat} {p q : Pla} {l : List Sea} {w : World} (h : FlH w S b p l) (hwf : Wf p l) (h1 : q.sized = true) (hn : ¬ q.rows * q.cols < (nFull l : Int)) :
    Calls Try.prog 134 #[.agg #[.int .i64 q.rows, .int .i64 q.cols, .int .i64 q.front], .pointer (some ⟨b, 0, none⟩)] w fun e w' =>
      e = .returned (.tuple #[]) ∧ FlH w' (fun k => k = b ∨ w.heap.size ≤ k) b (swapPla p q) (swapSeats (swapPla p q) l) ∧ Mod (fun k => k = b) w w' := by
  obtain ⟨m, es, clock, f1, f2, f3, f4, f5, f6⟩ := h
  have hx : FlX w b p l m es clock := ⟨f1, f2, f3, f4⟩
  have hlt := f1.lt
  have hml := (Array.getElem?_eq_some_iff.1 f2).1
  have hbm := f1.map_ne f2
  have hQ1 : (swapPre p q).sized = true := h1
  have hQ2 : (swapPre p q).limited = true := hwf.limited
  have HX := hide hx
  have H1 := hide h1
  -- the plane is fitted
  have HFIT := hide fun W (hW : Mod No w W) => (show Calls Try.prog 131 #[.pointer (some ⟨b, 0, none⟩), .agg #[.int .i64 q.rows, .int .i64 q.cols, .int .i64 q.front, .int .i64 p.l0, .int .i64 p.l1, .int .i64 p.l2, .int .i64 p.l3]] W fun e w' =>
      e = .returned (.tuple #[]) ∧ (∃ m' es0 clock0, FlX w' b (swapPre p q) (emptySeats (swapPre p q)) m' es0 clock0 ∧ W.heap.size ≤ m') ∧ Mod (fun k => k = b) W w' from by
    refine (fit_any (p := swapPre p q) p.ep ⟨_, _, _, _, _, _, _, _, _, _, _, _, _, _, _, _, _, _, _, _, _, _, _, _, hW.has f1 (fun x => x)⟩ hQ1 hQ2).mono ?_
    rintro e w' ⟨rfl, ⟨m', es0, clock0, g1, g2, g3, g4, g5, g6⟩, hm⟩
    have := g1.map_ne g2
    exact ⟨rfl, ⟨m', es0, clock0, ⟨g1, g2, g3, g4⟩, by rcases g6 with h | h; exact absurd h this; exact h⟩, hm⟩)
  have HSET := hide fun (W : World) (m' clock0 : Nat) (es0 : List MEnt) (hf : FlX W b (swapPre p q) (emptySeats (swapPre p q)) m' es0 clock0) (hm : W.heap[m]? = some (mapObj es clock)) (hmm : m ≠ m') =>
    settle_walk b m m' clock clock0 p (swapPre p q) l es es0 W hf hm f3 f4 hwf hQ1 hQ2 hmm
  have HRES := hide fun (W w' : World) (m' : Nat) (v : Value) (hS : SetI W w' b m m' clock p (swapPre p q) l es v l.length) (hb : b < W.heap.size) (hm' : m' < W.heap.size) => settle_reseat (clock0 := 0) (es0 := []) hS hwf hQ1 hQ2 hn hb hm'
  clear h1 hn hwf f3 f4 f5 f6 hQ1 hQ2 hx
  have F1 := hide f1
  have F2 := hide f2
  clear f1 f2
  go_enter Try.func134, Try.ntmps134
  go_upto_region 1 with fail
  have mA : Mod No w (w.alloc (.cells #[.int .i64 q.rows, .int .i64 q.cols, .int .i64 q.front] 182)) := (Mod.refl _ w).alloc _
  have FA := hide (mA.has (unhide F1) (fun x => x))
  have lA := (unhide FA).lt
  have MA := hide mA
  have BA := hide (Has.new w #[.int .i64 q.rows, .int .i64 q.cols, .int .i64 q.front] 182)
  have hsA : (w.alloc (.cells #[.int .i64 q.rows, .int .i64 q.cols, .int .i64 q.front] 182)).heap.size = w.heap.size + 1 := World.size_alloc ..
  clear mA
  generalize hwA : w.alloc (.cells #[.int .i64 q.rows, .int .i64 q.cols, .int .i64 q.front] 182) = wA at *
  clear hwA
  have ZB := hide (show Has (wA.alloc (.cells #[.int .i64 0, .int .i64 0, .int .i64 0, .int .i64 0, .int .i64 0, .int .i64 0, .int .i64 0, .map none, .int .i64 0, .int .i64 0, .int .i64 0, .int .i64 0, .int .i64 0, .int .i64 0, .int .i64 0, .int .i64 0, .int .i64 0, .int .i64 0, .int .i64 0, .int .i64 0, .int .i64 0, .int .i64 0, .int .i64 0, .int .i64 0, .int .i64 0] 138)) (w.heap.size + 1) zeroFl 138 from by have := Has.new wA zeroFl 138; rw [hsA] at this; exact this)
  have MZ := hide ((unhide MA).alloc (.cells zeroFl 138))
  go_upto_region 2 with (first
    | (refine wpList_load_has rfl 138 _ rfl b 0 rfl (fcells p (.map (some m)) l) 138 (unhide FA) (fcells p (.map (some m)) l) (fun j v h => by rw [Nat.zero_add]; simpa using h) rowFl sizeFl ?_)
    | (refine wpList_store_has rfl 138 _ _ rfl (w.heap.size + 1) (fcells p (.map (some m)) l) rfl rfl zeroFl 138 (unhide ZB) rfl sizeFl (oneFl p _ l) ?_; intro w5 h5 m5))
  have M5 := hide ((unhide MZ).trans' m5 (fun i hi hl => by omega))
  have B5 := hide (m5.has ((unhide BA).alloc (.cells zeroFl 138)) (by omega))
  have O5 := hide h5
  have X5 := hide (show FlX w5 b p l m es clock from by
    have := unhide HX
    exact ⟨(unhide M5).has this.has (fun x => x), (unhide M5).map this.map (fun x => x), this.ok, this.rel⟩)
  clear m5 h5 ZB MZ
  have b5 := (unhide B5).cell
  have o3 := (unhide O5).cell 3
  rw [show (fcells p (.map (some m)) l)[3]? = some (.int .i64 p.l0) from rfl] at o3
  have o4 := (unhide O5).cell 4
  rw [show (fcells p (.map (some m)) l)[4]? = some (.int .i64 p.l1) from rfl] at o4
  have o5 := (unhide O5).cell 5
  rw [show (fcells p (.map (some m)) l)[5]? = some (.int .i64 p.l2) from rfl] at o5
  have o6 := (unhide O5).cell 6
  rw [show (fcells p (.map (some m)) l)[6]? = some (.int .i64 p.l3) from rfl] at o6
  go_wp2_with fail
  refine ((unhide HFIT) _ (unhide M5)).mono ?_
  rintro e w6 ⟨rfl, ⟨m', es0, clock0, x6, hm'⟩, m6⟩
  clear b5 o3 o4 o5 o6
  have s5 := (unhide O5).lt
  have hmm : m ≠ m' := by omega
  have F6 := hide (m6.map (unhide X5).map (fun e => hbm e))
  have O6 := hide (m6.has (unhide O5) (fun e => by omega))
  have X6 := hide x6
  have M6 := hide (((unhide M5).mono (S' := fun k => k = b) (fun _ _ x => x.elim)).trans m6)
  have l6 := x6.has.lt
  have lm6 := (Array.getElem?_eq_some_iff.1 x6.map).1
  have HM' := hide (show w.heap.size ≤ m' from by have := (unhide M5).size; omega)
  have hbm' := x6.has.map_ne x6.map
  clear x6 m6 X5 B5 O5
  go_wp2_with (first
    | (refine wpList_load_has rfl 138 _ rfl (w.heap.size + 1) 0 rfl (fcells p (.map (some m)) l) 138 (unhide O6) (fcells p (.map (some m)) l) (fun j v h => by rw [Nat.zero_add]; simpa using h) rowFl sizeFl ?_))
  refine ((unhide HSET) _ m' clock0 es0 (unhide X6) (unhide F6) hmm).mono ?_
  rintro e w7 ⟨v, rfl, hS⟩
  have M7 := hide hS.mod
  obtain ⟨a, cp, rfl, hR⟩ := (unhide HRES) _ _ m' v hS l6 lm6
  have HR := hide hR
  clear hR hS HRES HSET HFIT
  go_wp2_with fail
  refine (unhide HR).mono ?_
  rintro e w8 ⟨rfl, ⟨es9, clock9, x8⟩, m8⟩
  have hfin : FlH w8 (fun k => k = b ∨ w.heap.size ≤ k) b (swapPre p q) (swapSeats (swapPre p q) l) := ⟨m', es9, clock9, x8.has, x8.map, x8.ok, x8.rel, .inl rfl, .inr (unhide HM')⟩
  have M8 := hide ((unhide M7).trans m8)
  obtain ⟨c24, z24, l24⟩ : w8.cell? ⟨b, 24, none⟩ = some (.int .i64 p.ep) ∧ w8.frozen? ⟨b, 24, none⟩ = false ∧ b < w8.heap.size := hfin.cell24
  have wE := nx_eq p.ep
  have HB := hide (show FlH (w8.setCell ⟨b, 24, none⟩ (.int .i64 (nx p.ep))) (fun k => k = b ∨ w.heap.size ≤ k) b (swapPla p q) (swapSeats (swapPla p q) l) from hfin.bump.1)
  clear hfin x8 m8 HR
  go_wp2
  go_end0
  refine ⟨rfl, unhide HB, ?_⟩
  exact (((unhide M6).trans' (unhide M8) (fun i hi hl => by rcases hi with e | e; exact e; have := unhide HM'; omega))).at 24 _
end Go.Proofs.Ythhibagcpjeihaa
/- A keeper does a command: what comes of it. -/
namespace Go.Proofs.Ythhibagcpjeihaa
open Go.RowKit
open Go.ChangeMaps (setBlock)
open M
set_option linter.unusedVariables false
set_option linter.unusedSimpArgs false
set_option maxRecDepth 100000

/-- The answer, the time and the flights behind a command. -/
def doK (now : Int) (fl : Nat → Option (Pla × List Sea)) (c : Cmd) : Int × Int × (Nat → Option (Pla × List Sea)) :=
  if c.kind < 1 ∨ c.kind > 9 then (1, now, fl)
  else if c.kind = 8 then (if 1 ≤ c.time ∧ c.time ≤ 100 then (0, now + c.time, fun n => (fl n).map (tickF (now + c.time))) else (8, now, fl))
  else if ¬ (1 ≤ c.flight ∧ c.flight ≤ 20) then (2, now, fl)
  else match fl c.flight.toNat with
    | none => if c.kind = 1 then (if c.pla.sized = true ∧ c.pla.limited = true then (0, now, fun j => if j = c.flight.toNat then some (c.pla.at 1, emptySeats c.pla) else fl j) else (4, now, fl)) else (2, now, fl)
    | some x => if c.kind = 1 then (3, now, fl) else if seatErr x.1 x.2 c now = 0 then (0, now, fun j => if j = c.flight.toNat then some (planNew x.1 c, seatNew x.1 x.2 c) else fl j) else (seatErr x.1 x.2 c now, now, fl)

/-- A keeper, whosesoever its blocks. -/
structure KeepH (w : World) (ow : Nat → Nat) (kb : Nat) (now : Int) (fl : Nat → Option (Pla × List Sea)) : Prop where
  ex : ∃ pt, KeepX w ow kb now pt fl

/-- What has become of a keeper's flights. -/
structure KeptX (w w' : World) (ow : Nat → Nat) (kb : Nat) (pt : Nat → Option Nat) (now : Int) (fl : Nat → Option (Pla × List Sea)) : Prop where
  keep : ∃ ow' pt', KeepX w' ow' kb now pt' fl ∧ (∀ k, k < w.heap.size → ow' k = ow k) ∧ ∀ i, 21 ≤ i → pt' i = pt i
  mod : Mod (fun k => ow k ≠ 0 ∧ ow k < 30) w w'

/-- The followers stand where they stood. -/
theorem fol_same {w w' : World} {kb : Nat} {now now' : Int} {pt pt' : Nat → Option Nat} (h : Has w kb (keepCells now pt) 117) (h' : Has w' kb (keepCells now' pt') 117) (hp : ∀ i, 21 ≤ i → i < 29 → pt' i = pt i) :
    ∀ i, i < 8 → w'.cell? ⟨kb, 22 + i, none⟩ = w.cell? ⟨kb, 22 + i, none⟩ := fun i hi => by
  rw [h.cell, h'.cell, keep_far _ _ i hi, keep_far _ _ i hi, hp _ (by omega) (by omega)]

theorem refuse_ne {e : Int} (h : e ≠ 0) (x : Int) (he : x = e) : x ≠ 0 := by rw [he]; exact h

theorem apply_start {w : World} {ow : Nat → Nat} {kb : Nat} {now : Int} {pt : Nat → Option Nat} {fl : Nat → Option (Pla × List Sea)} (h : KeepX w ow kb now pt fl) (n : Nat) (hn : 1 ≤ n ∧ n ≤ 20) (hfl : fl n = none) (p : Pla) (h1 : p.sized = true) (h2 : p.limited = true) :
    Calls Try.prog 50 #[.pointer (some ⟨kb, 0, none⟩), .agg #[.int .i64 n, startV p]] w fun e w' =>
      e = .returned (.tuple #[]) ∧ KeptX w w' ow kb pt now (fun j => if j = n then some (p.at 1, emptySeats p) else fl j) := by
  refine apply_new kb n hn now pt p w _ h.has (h.gone n (by omega) hfl) (fun W hW hk hb => ?_)
  have hs : w.heap.size ≤ W.heap.size := hW.size
  have hbl := hb.lt
  refine (start_any hb h1 h2).mono ?_
  rintro e w' ⟨rfl, hf, hm⟩
  refine ⟨rfl, ⟨fun k => if k < w.heap.size then ow k else if k = w.heap.size + 2 ∨ (W.heap.size ≤ k ∧ k < w'.heap.size) then n + 2 else 0, updP pt n (w.heap.size + 2), ?_, fun k hk => by simp [hk], fun i hi => by simp only [updP]; rw [if_neg (by omega)]⟩, ?_⟩
  · have kl : kb < w.heap.size := h.has.lt
    have hm' : Mod (fun k => k = w.heap.size + 2) W w' := hm
    have hsz : W.heap.size ≤ w'.heap.size := hm.size
    refine ⟨hm'.has hk (by omega), by simp [kl, h.mine], fun k hk' => ?_, fun j hj hn' => ?_, fun j p' l' hj hn' => ?_⟩
    · split at hk'
      · omega
      · split at hk'
        · rename_i e; rcases e with e | e <;> omega
        · exact absurd rfl hk'
    · by_cases e : j = n
      · rw [if_pos e] at hn'; exact absurd hn' (by simp)
      · rw [if_neg e] at hn'
        simp only [updP, if_neg e]
        exact h.gone j hj hn'
    · by_cases e : j = n
      · rw [if_pos e] at hn'
        simp only [Option.some.injEq, Prod.mk.injEq] at hn'
        obtain ⟨rfl, rfl⟩ := hn'
        subst e
        refine ⟨w.heap.size + 2, by simp [updP], (empty_wf h1 h2).at 1, ?_⟩
        refine hf.narrow.wide (fun k ⟨hk1, hk2⟩ => ?_)
        have : ¬ k < w.heap.size := by rcases hk1 with e | e <;> omega
        have h3 : k = w.heap.size + 2 ∨ (W.heap.size ≤ k ∧ k < w'.heap.size) := by rcases hk1 with e | e; exact .inl e; exact .inr ⟨e, hk2⟩
        simp only [if_neg this, if_pos h3]
      · rw [if_neg e] at hn'
        obtain ⟨b', e1, e2, e3⟩ := h.here j p' l' hj hn'
        refine ⟨b', by simp only [updP, if_neg e]; exact e1, e2, ?_⟩
        have f1 : FlH W (fun k => ow k = j + 2) b' p' l' := e3.mod hW (fun k hk' e => by subst e; rw [h.mine] at hk'; omega)
        have f2 : FlH w' (fun k => ow k = j + 2) b' p' l' := f1.mod hm' (fun k hk' e => by
          subst e
          have := h.old _ (show ow (w.heap.size + 2) ≠ 0 by omega)
          omega)
        refine f2.wide (fun k hk' => ?_)
        have := h.old k (by omega)
        simp only [if_pos this]
        exact hk'
  · refine (hW.mono (fun k _ (e : k = kb) => by subst e; show ow k ≠ 0 ∧ ow k < 30; rw [h.mine]; omega)).trans' hm (fun i (e : i = w.heap.size + 2) hl => by omega)

/-- A flight gets another plane. -/
theorem refit_keep {w : World} {ow : Nat → Nat} {kb : Nat} {now : Int} {pt : Nat → Option Nat} {fl : Nat → Option (Pla × List Sea)} (h : KeepX w ow kb now pt fl) (n : Nat) (hn : 1 ≤ n ∧ n ≤ 20) {p : Pla} {l : List Sea} (hfl : fl n = some (p, l)) (c : Cmd) (h9 : c.kind = 9) (he : seatErr p l c now = 0) :
    Calls Try.prog 50 #[.pointer (some ⟨kb, 0, none⟩), .agg #[.int .i64 n, changeV c]] w fun e w' =>
      e = .returned (.tuple #[]) ∧ KeptX w w' ow kb pt now (fun j => if j = n then some (planNew p c, seatNew p l c) else fl j) := by
  obtain ⟨b, hp, hwf, hf⟩ := h.here n p l (by omega) hfl
  have hc : (keepCells now pt)[1 + n]? = some (.pointer (some ⟨b, 0, none⟩)) := by rw [keep_at now pt n (by omega), hp]; rfl
  have hob : ow b = n + 2 := by obtain ⟨m, es, clock, _, _, _, _, q, _⟩ := hf; exact q
  have hbl : b < w.heap.size := by obtain ⟨m, es, clock, q, _⟩ := hf; exact q.lt
  have hq : c.pla.sized = true ∧ ¬ (c.pla.rows * c.pla.cols < (nFull l : Int)) := by
    unfold seatErr at he
    rw [if_pos h9] at he
    by_cases hq : c.pla.sized = true ∧ ¬ (c.pla.rows * c.pla.cols < (nFull l : Int))
    · exact hq
    · rw [if_neg hq] at he; exact absurd he (by omega)
  have ech : changeV c = refitV c.pla := by unfold changeV; rw [if_pos h9]
  have esn : seatNew p l c = swapSeats (swapPla p c.pla) l := by unfold seatNew; rw [if_pos h9]
  have epn : planNew p c = swapPla p c.pla := by unfold planNew; rw [if_pos h9]
  have hwf2 : Wf (swapPla p c.pla) (swapSeats (swapPla p c.pla) l) := swap_wf (q := swapPla p c.pla) hwf hq.1 hwf.limited hq.2
  rw [ech, esn, epn]
  unfold refitV
  refine apply_refit kb b n hn _ _ _ _ w _ h.has hc (fun W hW => (refit_any (hf.mod0 hW) hwf hq.1 hq.2).mono ?_)
  rintro e w' ⟨rfl, hf', hm⟩
  have hs : w.heap.size ≤ W.heap.size := hW.size
  have kl : kb < w.heap.size := h.has.lt
  have hsz : W.heap.size ≤ w'.heap.size := hm.size
  refine ⟨rfl, ⟨fun k => if k < w.heap.size then ow k else if W.heap.size ≤ k ∧ k < w'.heap.size then n + 2 else 0, pt, ?_, fun k hk => by simp [hk], fun _ _ => rfl⟩, (hW.mono (fun _ _ x => x.elim)).trans (hm.mono (fun k _ (e : k = b) => by subst e; show ow k ≠ 0 ∧ ow k < 30; omega))⟩
  refine ⟨hm.has (hW.has h.has (fun x => x)) (by intro e; have := h.mine; rw [e] at this; omega), by simp [kl, h.mine], fun k hk' => ?_, fun j hj hn' => ?_, fun j p' l' hj hn' => ?_⟩
  · split at hk'
    · omega
    · split at hk'
      · omega
      · exact absurd rfl hk'
  · by_cases e : j = n
    · rw [if_pos e] at hn'; exact absurd hn' (by simp)
    · rw [if_neg e] at hn'
      exact h.gone j hj hn'
  · by_cases e : j = n
    · rw [if_pos e] at hn'
      simp only [Option.some.injEq, Prod.mk.injEq] at hn'
      obtain ⟨rfl, rfl⟩ := hn'
      subst e
      refine ⟨b, hp, hwf2, hf'.narrow.wide (fun k ⟨hk1, hk2⟩ => ?_)⟩
      rcases hk1 with e | e
      · subst e
        simp only [if_pos hbl]
        exact hob
      · have : ¬ k < w.heap.size := by omega
        simp only [if_neg this, if_pos (And.intro e hk2)]
    · rw [if_neg e] at hn'
      obtain ⟨b', e1, e2, e3⟩ := h.here j p' l' hj hn'
      refine ⟨b', e1, e2, ?_⟩
      have f2 : FlH w' (fun k => ow k = j + 2) b' p' l' := (e3.mod0 hW).mod hm (fun k hk' e => by subst e; omega)
      refine f2.wide (fun k hk' => ?_)
      have := h.old k (by omega)
      simp only [if_pos this]
      exact hk'

end Go.Proofs.Ythhibagcpjeihaa
/- A keeper is opened and asked. -/
namespace Go.Proofs.Ythhibagcpjeihaa
open Go.RowKit
open Go.ChangeMaps (setBlock)
open M
set_option linter.unusedVariables false
set_option linter.unusedSimpArgs false
set_option maxRecDepth 100000
set_option maxHeartbeats 2000000
attribute [local go_sem] idx40_0 idx40_1 idx40_2 idx40_3
attribute [local go_sem ↓] run_min2 run_max2

theorem fleft_walk (b : Nat) (r c f l0 l1 l2 l3 : Int) (m : Value) (a0 a1 a2 a3 b0 b1 b2 b3 s0 s1 s2 s3 e0 e1 e2 e3 ep : Int) (w : World)
    (h : Has w b (fcs r c f l0 l1 l2 l3 m a0 a1 a2 a3 b0 b1 b2 b3 s0 s1 s2 s3 e0 e1 e2 e3 ep) 138) :
    Calls Try.prog 47 #[.pointer (some ⟨b, 0, none⟩)] w fun e w' => e = .returned (.agg #[.int .i64 (min e0 9), .int .i64 (min e1 9), .int .i64 (min e2 9), .int .i64 (min e3 9)]) ∧ Mod No w w' := by
  have hc := h.cell
  have hlt := h.lt
  unfold fcs at hc
  clear h
  go_enter Try.func47, Try.ntmps47
  go_wp2_with fail
  clear hc
  go_loopw [11] (fun i wr => Hid (Mod No w wr) ∧ Hid (Has wr w.heap.size #[.int .i64 0, .int .i64 0, .int .i64 0, .int .i64 0] 33) ∧
      ((i = .int .i64 0 ∧ Hid (Has wr (w.heap.size + 1) #[.int .i64 e0, .int .i64 e1, .int .i64 e2, .int .i64 e3] 33)) ∨
       (i = .int .i64 1 ∧ Hid (Has wr (w.heap.size + 1) #[.int .i64 (min e0 9), .int .i64 e1, .int .i64 e2, .int .i64 e3] 33)) ∨
       (i = .int .i64 2 ∧ Hid (Has wr (w.heap.size + 1) #[.int .i64 (min e0 9), .int .i64 (min e1 9), .int .i64 e2, .int .i64 e3] 33)) ∨
       (i = .int .i64 3 ∧ Hid (Has wr (w.heap.size + 1) #[.int .i64 (min e0 9), .int .i64 (min e1 9), .int .i64 (min e2 9), .int .i64 e3] 33)) ∨
       (i = .int .i64 4 ∧ Hid (Has wr (w.heap.size + 1) #[.int .i64 (min e0 9), .int .i64 (min e1 9), .int .i64 (min e2 9), .int .i64 (min e3 9)] 33)))) (fun i _ => 4 - (intOf i).toNat)
  case atStart =>
    refine ⟨((Mod.refl No w).alloc _).alloc _, (Has.new w _ _).alloc _, .inl ⟨rfl, hide ?_⟩⟩
    have := Has.new (w.alloc (.cells #[.int .i64 0, .int .i64 0, .int .i64 0, .int .i64 0] 33)) #[.int .i64 e0, .int .i64 e1, .int .i64 e2, .int .i64 e3] 33
    simpa using this
  case round =>
    obtain ⟨hm, h0, hr⟩ := hrel
    have hz0 := (unhide h0).frozen
    have hc0 := (unhide h0).cell
    have hl0 := (unhide h0).lt
    rcases hr with ⟨rfl, hr⟩ | ⟨rfl, hr⟩ | ⟨rfl, hr⟩ | ⟨rfl, hr⟩ | ⟨rfl, hr⟩
    case inr.inr.inr.inr =>
      have hc1 := (unhide hr).cell
      have hl1 := (unhide hr).lt
      have d0 : wr.cell? ⟨w.heap.size, 0, none⟩ = some (.int .i64 0) := hc0 0
      have d1 : wr.cell? ⟨w.heap.size, 1, none⟩ = some (.int .i64 0) := hc0 1
      have d2 : wr.cell? ⟨w.heap.size, 2, none⟩ = some (.int .i64 0) := hc0 2
      have d3 : wr.cell? ⟨w.heap.size, 3, none⟩ = some (.int .i64 0) := hc0 3
      go_wp2
      refine bodyPost_ret (by simp [results, Try.results47, go_sem, d0, d1, d2, d3]; try rfl) rfl ?_
      exact ⟨rfl, by repeat' (first | with_reducible exact unhide hm | refine Mod.setCell ?_ (Or.inr (Nat.le_refl _)) _)⟩
    all_goals
      have hc1 := (unhide hr).cell
      have hl1 := (unhide hr).lt
      have hz1 := (unhide hr).frozen
      go_wp2
      go_roundw
      · have s0 := (unhide hr).set 0 (.int .i64 (min e0 9))
        have s1 := (unhide hr).set 1 (.int .i64 (min e1 9))
        have s2 := (unhide hr).set 2 (.int .i64 (min e2 9))
        have s3 := (unhide hr).set 3 (.int .i64 (min e3 9))
        refine ⟨(unhide hm).setCell (.inr (Nat.le_succ _)) _, (unhide h0).set_ne (by simp) _, ?_⟩
        first
          | (refine .inr (.inl ⟨rfl, ?_⟩); exact s0)
          | (refine .inr (.inr (.inl ⟨rfl, ?_⟩)); exact s1)
          | (refine .inr (.inr (.inr (.inl ⟨rfl, ?_⟩))); exact s2)
          | (refine .inr (.inr (.inr (.inr ⟨rfl, ?_⟩))); exact s3)
      · simp [intOf]

theorem ftotals_walk (b : Nat) (r c f l0 l1 l2 l3 : Int) (m : Value) (a0 a1 a2 a3 b0 b1 b2 b3 s0 s1 s2 s3 e0 e1 e2 e3 ep : Int) (w : World)
    (h : Has w b (fcs r c f l0 l1 l2 l3 m a0 a1 a2 a3 b0 b1 b2 b3 s0 s1 s2 s3 e0 e1 e2 e3 ep) 138) :
    Calls Try.prog 45 #[.pointer (some ⟨b, 0, none⟩)] w fun e w' => e = .returned (.agg #[.int .i64 a0, .int .i64 a1, .int .i64 a2, .int .i64 a3, .int .i64 b0, .int .i64 b1, .int .i64 b2, .int .i64 b3, .int .i64 s0, .int .i64 s1, .int .i64 s2, .int .i64 s3]) ∧ Mod No w w' := by
  have hc := h.cell
  have hlt := h.lt
  unfold fcs at hc
  clear h
  go_enter Try.func45, Try.ntmps45
  go_wp2
  go_returns
  exact ⟨rfl, (Mod.refl _ _).alloc _⟩

theorem left_none (kb : Nat) (n c : Int) (w : World) (hF : Calls Try.prog 44 #[.pointer (some ⟨kb, 0, none⟩), .int .i64 n] w fun e w' => e = .returned (.pointer none) ∧ w' = w) :
    Calls Try.prog 25 #[.pointer (some ⟨kb, 0, none⟩), .int .i64 n, .int .i64 c] w fun e w' => e = .returned (.tuple #[.int .i64 0, .int .i64 2]) ∧ Mod No w w' := by
  have HF := hide hF
  clear hF
  go_enter Try.func25, Try.ntmps25
  go_wp2_with fail
  refine (unhide HF).mono ?_
  rintro e w1 ⟨rfl, rfl⟩
  go_wp2
  go_ret2
  exact ⟨rfl, Mod.refl _ _⟩

theorem left_class (kb b : Nat) (n c : Int) (hc : ¬ (0 ≤ c ∧ c < 4)) (w : World) (hF : Calls Try.prog 44 #[.pointer (some ⟨kb, 0, none⟩), .int .i64 n] w fun e w' => e = .returned (.pointer (some ⟨b, 0, none⟩)) ∧ w' = w) :
    Calls Try.prog 25 #[.pointer (some ⟨kb, 0, none⟩), .int .i64 n, .int .i64 c] w fun e w' => e = .returned (.tuple #[.int .i64 0, .int .i64 6]) ∧ Mod No w w' := by
  have HF := hide hF
  clear hF
  rcases Int.lt_or_le c 0 with h1 | h1
  · clear hc
    go_enter Try.func25, Try.ntmps25
    go_wp2_with fail
    refine (unhide HF).mono ?_
    rintro e w1 ⟨rfl, rfl⟩
    go_wp2
    go_ret2
    exact ⟨rfl, Mod.refl _ _⟩
  · have h2 : ¬ c < 0 := by omega
    have h3 : c ≥ 4 := by omega
    clear hc
    go_enter Try.func25, Try.ntmps25
    go_wp2_with fail
    refine (unhide HF).mono ?_
    rintro e w1 ⟨rfl, rfl⟩
    go_wp2
    go_ret2
    exact ⟨rfl, Mod.refl _ _⟩

theorem left_walk (kb b : Nat) (n : Int) (k : Nat) (hk : k < 4) (e0 e1 e2 e3 : Int) (w : World) (hF : Calls Try.prog 44 #[.pointer (some ⟨kb, 0, none⟩), .int .i64 n] w fun e w' => e = .returned (.pointer (some ⟨b, 0, none⟩)) ∧ w' = w)
    (hE : Calls Try.prog 47 #[.pointer (some ⟨b, 0, none⟩)] w fun e w' => e = .returned (.agg #[.int .i64 e0, .int .i64 e1, .int .i64 e2, .int .i64 e3]) ∧ Mod No w w') :
    Calls Try.prog 25 #[.pointer (some ⟨kb, 0, none⟩), .int .i64 n, .int .i64 k] w fun e w' => e = .returned (.tuple #[.int .i64 (if k = 0 then e0 else if k = 1 then e1 else if k = 2 then e2 else e3), .int .i64 0]) ∧ Mod No w w' := by
  have HF := hide hF
  have HE := hide hE
  clear hF hE
  have : k = 0 ∨ k = 1 ∨ k = 2 ∨ k = 3 := by omega
  rcases this with rfl | rfl | rfl | rfl
  all_goals
    go_enter Try.func25, Try.ntmps25
    go_wp2_with fail
    refine (unhide HF).mono ?_
    rintro e w1 ⟨rfl, rfl⟩
    go_wp2_with fail
    refine (unhide HE).mono ?_
    rintro e w2 ⟨rfl, m2⟩
    go_wp2
    go_ret2
    exact ⟨rfl, m2⟩

def zero51 : Array Value := #[.int .i64 0, .int .i64 0, .int .i64 0, .int .i64 0, .int .i64 0, .int .i64 0, .int .i64 0, .int .i64 0, .int .i64 0, .int .i64 0, .int .i64 0, .int .i64 0]

theorem count_none (kb : Nat) (n : Int) (w : World) (hF : ∀ W, Mod No w W → Calls Try.prog 44 #[.pointer (some ⟨kb, 0, none⟩), .int .i64 n] W fun e w' => e = .returned (.pointer none) ∧ w' = W) :
    Calls Try.prog 19 #[.pointer (some ⟨kb, 0, none⟩), .int .i64 n] w fun e w' => e = .returned (.tuple #[.agg zero51, .int .i64 2]) ∧ Mod No w w' := by
  have HF := hide hF
  have M0 := hide ((Mod.refl No w).alloc (.cells zero51 45))
  unfold zero51 at *
  clear hF
  go_enter Try.func19, Try.ntmps19
  go_wp2_with fail
  refine ((unhide HF) _ (unhide M0)).mono ?_
  rintro e w1 ⟨rfl, rfl⟩
  go_wp2
  go_returns
  exact ⟨rfl, unhide M0⟩

end Go.Proofs.Ythhibagcpjeihaa
/- A keeper's totals are told. -/
namespace Go.Proofs.Ythhibagcpjeihaa
open Go.RowKit
open M
set_option linter.unusedVariables false
set_option linter.unusedSimpArgs false
set_option maxRecDepth 100000
set_option maxHeartbeats 2000000

theorem set12 (z a0 a1 a2 a3 b0 b1 b2 b3 s0 s1 s2 s3 : Value) : (((((((((((((#[z, z, z, z, z, z, z, z, z, z, z, z] : Array Value).setIfInBounds 0 a0).setIfInBounds 1 a1).setIfInBounds 2 a2).setIfInBounds 3 a3).setIfInBounds 4 b0).setIfInBounds 5 b1).setIfInBounds 6 b2).setIfInBounds 7 b3).setIfInBounds 8 s0).setIfInBounds 9 s1).setIfInBounds 10 s2).setIfInBounds 11 s3) = #[a0, a1, a2, a3, b0, b1, b2, b3, s0, s1, s2, s3] := by
  simp

/-- The world at the end, forgotten but for what is said of it. -/
theorem post_world {P : Program} {f : Func} {post : Ending → World → Prop} {ex : Exit} {a : Act} {w : World} (R : World → Prop) (h : R w) (k : ∀ w, R w → bodyPost P f post ex a w) : bodyPost P f post ex a w := k w h

theorem count_walk (kb b : Nat) (n : Int) (a0 a1 a2 a3 b0 b1 b2 b3 s0 s1 s2 s3 : Int) (w : World) (hF : ∀ W, Mod No w W → Calls Try.prog 44 #[.pointer (some ⟨kb, 0, none⟩), .int .i64 n] W fun e w' => e = .returned (.pointer (some ⟨b, 0, none⟩)) ∧ w' = W)
    (hT : ∀ W, Mod No w W → Calls Try.prog 45 #[.pointer (some ⟨b, 0, none⟩)] W fun e w' => e = .returned (.agg #[.int .i64 a0, .int .i64 a1, .int .i64 a2, .int .i64 a3, .int .i64 b0, .int .i64 b1, .int .i64 b2, .int .i64 b3, .int .i64 s0, .int .i64 s1, .int .i64 s2, .int .i64 s3]) ∧ Mod No W w') :
    Calls Try.prog 19 #[.pointer (some ⟨kb, 0, none⟩), .int .i64 n] w fun e w' => e = .returned (.tuple #[.agg #[.int .i64 a0, .int .i64 a1, .int .i64 a2, .int .i64 a3, .int .i64 b0, .int .i64 b1, .int .i64 b2, .int .i64 b3, .int .i64 s0, .int .i64 s1, .int .i64 s2, .int .i64 s3], .int .i64 0]) ∧ Mod No w w' := by
  have HF := hide hF
  have HT := hide hT
  have M0 := hide ((Mod.refl No w).alloc (.cells zero51 45))
  have B0 := hide (Has.new w zero51 45)
  unfold zero51 at *
  clear hF hT
  go_enter Try.func19, Try.ntmps19
  go_wp2_with fail
  refine ((unhide HF) _ (unhide M0)).mono ?_
  rintro e w1 ⟨rfl, rfl⟩
  go_wp2_with fail
  refine ((unhide HT) _ (unhide M0)).mono ?_
  rintro e w2 ⟨rfl, m2⟩
  have h2 := m2.has (unhide B0) (fun x => x)
  have c2 := h2.cell
  have f2 := h2.frozen
  have l2 := h2.lt
  have M2 := hide ((unhide M0).trans m2)
  clear m2
  go_wp2
  refine post_world (fun W => Has W w.heap.size #[.int .i64 a0, .int .i64 a1, .int .i64 a2, .int .i64 a3, .int .i64 b0, .int .i64 b1, .int .i64 b2, .int .i64 b3, .int .i64 s0, .int .i64 s1, .int .i64 s2, .int .i64 s3] 45 ∧ Mod No w W) ?_ ?_
  · have q := (((((((((((h2.set 0 (.int .i64 a0)).set 1 (.int .i64 a1)).set 2 (.int .i64 a2)).set 3 (.int .i64 a3)).set 4 (.int .i64 b0)).set 5 (.int .i64 b1)).set 6 (.int .i64 b2)).set 7 (.int .i64 b3)).set 8 (.int .i64 s0)).set 9 (.int .i64 s1)).set 10 (.int .i64 s2)).set 11 (.int .i64 s3)
    rw [set12] at q
    refine ⟨q, ?_⟩
    have hp : ∀ (o : Nat), No (⟨w.heap.size, o, none⟩ : Addr).block ∨ w.heap.size ≤ (⟨w.heap.size, o, none⟩ : Addr).block := fun o => .inr (Nat.le_refl _)
    exact ((((((((((((unhide M2).setCell (hp 0) _).setCell (hp 1) _).setCell (hp 2) _).setCell (hp 3) _).setCell (hp 4) _).setCell (hp 5) _).setCell (hp 6) _).setCell (hp 7) _).setCell (hp 8) _).setCell (hp 9) _).setCell (hp 10) _).setCell (hp 11) _
  · clear h2 c2 f2 l2 M2
    intro w3 ⟨h3, m3⟩
    have d0 : w3.cell? ⟨w.heap.size, 0, none⟩ = some (.int .i64 a0) := h3.cell 0
    have d1 : w3.cell? ⟨w.heap.size, 1, none⟩ = some (.int .i64 a1) := h3.cell 1
    have d2 : w3.cell? ⟨w.heap.size, 2, none⟩ = some (.int .i64 a2) := h3.cell 2
    have d3 : w3.cell? ⟨w.heap.size, 3, none⟩ = some (.int .i64 a3) := h3.cell 3
    have d4 : w3.cell? ⟨w.heap.size, 4, none⟩ = some (.int .i64 b0) := h3.cell 4
    have d5 : w3.cell? ⟨w.heap.size, 5, none⟩ = some (.int .i64 b1) := h3.cell 5
    have d6 : w3.cell? ⟨w.heap.size, 6, none⟩ = some (.int .i64 b2) := h3.cell 6
    have d7 : w3.cell? ⟨w.heap.size, 7, none⟩ = some (.int .i64 b3) := h3.cell 7
    have d8 : w3.cell? ⟨w.heap.size, 8, none⟩ = some (.int .i64 s0) := h3.cell 8
    have d9 : w3.cell? ⟨w.heap.size, 9, none⟩ = some (.int .i64 s1) := h3.cell 9
    have d10 : w3.cell? ⟨w.heap.size, 10, none⟩ = some (.int .i64 s2) := h3.cell 10
    have d11 : w3.cell? ⟨w.heap.size, 11, none⟩ = some (.int .i64 s3) := h3.cell 11
    have l3 := h3.lt
    clear h3
    clear M0 B0 HF HT
    refine bodyPost_ret (by simp [results, Try.results19, go_sem, d0, d1, d2, d3, d4, d5, d6, d7, d8, d9, d10, d11]; try rfl) rfl ?_
    exact ⟨rfl, m3⟩
end Go.Proofs.Ythhibagcpjeihaa
/- How changes are spelt: plain lists of numbers. -/
namespace Go.Proofs.Ythhibagcpjeihaa
open M

/-- Seven bits a byte, the least ones first. -/
def numF : Nat → Nat → List Int
  | 0, n => [(n : Int)]
  | k + 1, n => if n < 128 then [(n : Int)] else ((n % 128 + 128 : Nat) : Int) :: numF k (n / 128)
def numB (x : Int) : List Int := numF 8 x.toNat

/-- A change to a flight, of whatever kind: 1 start, 2 fill, 3 empty, 4 shift, 5 refit, 6 pass, 7 whole. -/
structure Ent where
  fl : Int
  kind : Int
  pla : Pla
  sea : Sea
  tr : Int
  tc : Int
  now : Int
  seats : List Sea

def placeB (r c : Int) : List Int := numB ((r - 1) * 6 + c - 1)
def shapeB (p : Pla) : List Int := numB p.rows ++ numB p.cols ++ numB p.front
def planeB (p : Pla) : List Int := shapeB p ++ numB p.l0 ++ numB p.l1 ++ numB p.l2 ++ numB p.l3
def fillB (now : Int) (s : Sea) : List Int := placeB s.row s.col ++ numB (s.st * 4 + s.cl) ++ (if s.st = 3 then [] else numB s.pa) ++ (if s.st = 1 then numB (s.un - now) else [])
def fillsB (now : Int) : List Sea → List Int
  | [] => []
  | s :: r => fillB now s ++ fillsB now r
def wholeB (now : Int) (p : Pla) (l : List Sea) : List Int := planeB p ++ numB p.ep ++ numB l.length ++ fillsB now l
def entB (now : Int) (e : Ent) : List Int :=
  if e.kind = 1 then (32 + e.fl) :: planeB e.pla
  else if e.kind = 2 then (64 + e.fl) :: fillB now e.sea
  else if e.kind = 3 then (96 + e.fl) :: placeB e.sea.row e.sea.col
  else if e.kind = 4 then (128 + e.fl) :: (placeB e.sea.row e.sea.col ++ placeB e.tr e.tc)
  else if e.kind = 5 then (160 + e.fl) :: shapeB e.pla
  else if e.kind = 6 then 192 :: numB (e.now - now)
  else (224 + e.fl) :: wholeB now e.pla e.seats
/-- What time it is behind a change. -/
def entNow (now : Int) (e : Ent) : Int := if e.kind = 6 then e.now else now
def entsB : Int → List Ent → List Int
  | _, [] => []
  | now, e :: r => entB now e ++ entsB (entNow now e) r
def recB (now : Int) (es : List Ent) : List Int := numB es.length ++ entsB now es ++ [229]

theorem numF_len (k n : Nat) : 1 ≤ (numF k n).length ∧ (numF k n).length ≤ k + 1 := by
  induction k generalizing n with
  | zero => simp [numF]
  | succ k ih =>
    unfold numF
    split
    · simp
    · have := ih (n / 128)
      simp only [List.length_cons]
      omega
theorem numF_small (k n : Nat) (h : n < 128) : numF k n = [(n : Int)] := by
  cases k with
  | zero => rfl
  | succ k => unfold numF; rw [if_pos h]
theorem numF_two (k n : Nat) (h : n < 16384) : (numF k n).length ≤ 2 := by
  cases k with
  | zero => simp [numF]
  | succ k =>
    unfold numF
    split
    · simp
    · rw [numF_small k (n / 128) (by omega)]
      simp
theorem numF_byte (k n : Nat) (h : n < 128 ^ (k + 1)) : ∀ b ∈ numF k n, 0 ≤ b ∧ b < 256 := by
  induction k generalizing n with
  | zero =>
    simp only [numF, List.mem_singleton]
    rintro b rfl
    simp at h
    omega
  | succ k ih =>
    unfold numF
    split
    · simp only [List.mem_singleton]
      rintro b rfl
      omega
    · intro b hb
      rcases List.mem_cons.1 hb with rfl | hb
      · omega
      · refine ih (n / 128) ?_ b hb
        rw [Nat.pow_succ] at h
        omega
theorem numB_len (x : Int) : 1 ≤ (numB x).length ∧ (numB x).length ≤ 9 := numF_len 8 _
theorem numB_one {x : Int} (h0 : 0 ≤ x) (h : x < 128) : numB x = [x] := by
  unfold numB
  rw [numF_small 8 _ (by omega)]
  simp
  omega
theorem numB_two {x : Int} (h : x < 16384) : (numB x).length ≤ 2 := numF_two 8 _ (by omega)
theorem numB_byte {x : Int} (h : x < 9223372036854775808) : ∀ b ∈ numB x, 0 ≤ b ∧ b < 256 := numF_byte 8 _ (by
  have e : (128 : Nat) ^ (8 + 1) = 9223372036854775808 := by decide
  rw [e]
  omega)

end Go.Proofs.Ythhibagcpjeihaa
