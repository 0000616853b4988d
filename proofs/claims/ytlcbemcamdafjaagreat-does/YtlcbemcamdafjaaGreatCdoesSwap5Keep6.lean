import Derived.Test.YtlcbemcamdafjaaGreatCdoesSwap3Swap4
import Derived.Test.YtlcbemcamdafjaaGreatCdoesCellsRowS
import Derived.Deep.DeepCutAuto
import Derived.Test.YtlcbemcamdafjaaGreatCdoesKeep4Swap1
/- Another plane: the change, done. -/
namespace Go.Proofs.YtlcbemcamdafjaaGreat
open Go.RowKit Go.WideMaps
open Go.ChangeMaps (setBlock)
open M
set_option linter.unusedVariables false
set_option linter.unusedSimpArgs false
set_option maxRecDepth 100000
set_option maxHeartbeats 4000000

/-- A flight of nothing. -/
def zeroFl : Array Value := #[.int .i64 0, .int .i64 0, .int .i64 0, .int .i64 0, .int .i64 0, .int .i64 0, .int .i64 0, .map none, .int .i64 0, .int .i64 0, .int .i64 0, .int .i64 0, .int .i64 0, .int .i64 0, .int .i64 0, .int .i64 0, .int .i64 0, .int .i64 0, .int .i64 0, .int .i64 0, .int .i64 0, .int .i64 0, .int .i64 0, .int .i64 0, .int .i64 0]
theorem oneFl (p : Pla) (m : Option Nat) (l : List Sea) : (fcells p (.map m) l).all (·.oneCell') = true := by simp [fcells, fcf, fcs, Value.oneCell']
theorem rowFl : (Tryz.prog.underlying 154).map (·.isRow) = some true := by kernel_rfl
theorem sizeFl : (Tryz.prog.info? 154).map (·.size) = some 25 := by kernel_rfl

/-- A flight's plane, before a Swap is counted. -/
def swapPre (p q : Pla) : Pla := ⟨q.rows, q.cols, q.front, p.l0, p.l1, p.l2, p.l3, p.ep⟩

/-- Those who stay, then the homeless. -/
theorem settle_reseat {b m m' clock clock0 : Nat} {p Q : Pla} {l : List Sea} {es es0 : List MEnt} {w w' : World} {v : Value} (hS : SetI w w' b m m' clock p Q l es v l.length) (hwf : Wf p l) (h1 : Q.sized = true) (h2 : Q.limited = true) (hn : ¬ Q.rows * Q.cols < (nFull l : Int)) (hbl : b < w.heap.size) (hml : m' < w.heap.size) :
    ∃ a cp, v = .slice a (homeless Q l).length cp ∧ Calls Tryz.prog 124 #[.pointer (some ⟨b, 0, none⟩), .slice a (homeless Q l).length cp] w' fun e w2 => e = .returned (.tuple #[]) ∧ (∃ es' clock', FlX w2 b Q (swapSeats Q l) m' es' clock') ∧ Mod (fun k => k = b ∨ k = m') w' w2 := by
  have hrow := hS.row
  have hfl := hS.fl
  rw [List.take_length] at hrow hfl
  obtain ⟨a, cp, rfl⟩ := slice_of_owns hrow
  refine ⟨a, cp, rfl, ?_⟩
  have h0 : ReI w' w' b m' Q (stay Q l) (homeless Q l) 0 0 := ⟨hfl, reseat_start hwf h1 h2 hn, fun j h hj => by omega, Mod.refl _ _⟩
  have hlen : (homeless Q l).length ≤ 120 := Nat.le_trans (List.length_filter_le _ _) (Fli.wf.len_le hwf)
  by_cases hpos : 0 < (homeless Q l).length
  · obtain ⟨g, cp', hv, hE⟩ := rowE_of hrow hpos
    injection hv with e1 e2 e3
    subst e1 e3
    have hg := hS.new g rfl
    refine (reseat_walk b m' g cp Q (stay Q l) (homeless Q l) _ w' h0 (homeless_ok hwf) (fun _ => ⟨rfl, hE, by omega, by omega⟩) hlen).mono ?_
    rintro e w2 ⟨rfl, k, hR⟩
    have hfl := hR.fl
    rw [List.take_length] at hfl
    exact ⟨rfl, hfl, hR.mod⟩
  · refine (reseat_walk b m' 0 cp Q (stay Q l) (homeless Q l) _ w' h0 (homeless_ok hwf) (fun h => absurd h hpos) hlen).mono ?_
    rintro e w2 ⟨rfl, k, hR⟩
    have hfl := hR.fl
    rw [List.take_length] at hfl
    exact ⟨rfl, hfl, hR.mod⟩

theorem refit_any {S : Nat → Prop} {b : Nat} {p q : Pla} {l : List Sea} {w : World} (h : FlH w S b p l) (hwf : Wf p l) (h1 : q.sized = true) (hn : ¬ q.rows * q.cols < (nFull l : Int)) :
    Calls Tryz.prog 123 #[.agg #[.int .i64 q.rows, .int .i64 q.cols, .int .i64 q.front], .pointer (some ⟨b, 0, none⟩)] w fun e w' =>
      e = .returned (.tuple #[]) ∧ FlH w' (fun k => k = b ∨ w.heap.size ≤ k) b (swapPla p q) (swapSeats (swapPla p q) l) ∧ Mod (fun k => k = b) w w' := by
  obtain ⟨m, es, clock, f1, f2, f3, f4, f5, f6⟩ := h
  have hx : FlX w b p l m es clock := ⟨f1, f2, f3, f4⟩
  have hlt := f1.lt
  have hml := (Array.getElem?_eq_some_iff.1 f2).1
  have hbm := f1.map_ne f2
  have hQ1 : (swapPre p q).sized = true := h1
  have hQ2 : (swapPre p q).limited = true := hwf.limited
  have HX := hide hx
  have H1 := hide h1
  -- the plane is fitted
  have HFIT := hide fun W (hW : Mod No w W) => (show Calls Tryz.prog 122 #[.pointer (some ⟨b, 0, none⟩), .agg #[.int .i64 q.rows, .int .i64 q.cols, .int .i64 q.front, .int .i64 p.l0, .int .i64 p.l1, .int .i64 p.l2, .int .i64 p.l3]] W fun e w' =>
      e = .returned (.tuple #[]) ∧ (∃ m' es0 clock0, FlX w' b (swapPre p q) (emptySeats (swapPre p q)) m' es0 clock0 ∧ W.heap.size ≤ m') ∧ Mod (fun k => k = b) W w' from by
    refine (fit_any (p := swapPre p q) p.ep ⟨_, _, _, _, _, _, _, _, _, _, _, _, _, _, _, _, _, _, _, _, _, _, _, _, hW.has f1 (fun x => x)⟩ hQ1 hQ2).mono ?_
    rintro e w' ⟨rfl, ⟨m', es0, clock0, g1, g2, g3, g4, g5, g6⟩, hm⟩
    have := g1.map_ne g2
    exact ⟨rfl, ⟨m', es0, clock0, ⟨g1, g2, g3, g4⟩, by rcases g6 with h | h; exact absurd h this; exact h⟩, hm⟩)
  have HSET := hide fun (W : World) (m' clock0 : Nat) (es0 : List MEnt) (hf : FlX W b (swapPre p q) (emptySeats (swapPre p q)) m' es0 clock0) (hm : W.heap[m]? = some (mapObj es clock)) (hmm : m ≠ m') =>
    settle_walk b m m' clock clock0 p (swapPre p q) l es es0 W hf hm f3 f4 hwf hQ1 hQ2 hmm
  have HRES := hide fun (W w' : World) (m' : Nat) (v : Value) (hS : SetI W w' b m m' clock p (swapPre p q) l es v l.length) (hb : b < W.heap.size) (hm' : m' < W.heap.size) => settle_reseat (clock0 := 0) (es0 := []) hS hwf hQ1 hQ2 hn hb hm'
  clear h1 hn hwf f3 f4 f5 f6 hQ1 hQ2 hx
  have F1 := hide f1
  have F2 := hide f2
  clear f1 f2
  go_enter Tryz.func123, Tryz.ntmps123
  go_upto_region 1 with fail
  have mA : Mod No w (w.alloc (.cells #[.int .i64 q.rows, .int .i64 q.cols, .int .i64 q.front] 177)) := (Mod.refl _ w).alloc _
  have FA := hide (mA.has (unhide F1) (fun x => x))
  have lA := (unhide FA).lt
  have MA := hide mA
  have BA := hide (Has.new w #[.int .i64 q.rows, .int .i64 q.cols, .int .i64 q.front] 177)
  have hsA : (w.alloc (.cells #[.int .i64 q.rows, .int .i64 q.cols, .int .i64 q.front] 177)).heap.size = w.heap.size + 1 := World.size_alloc ..
  clear mA
  generalize hwA : w.alloc (.cells #[.int .i64 q.rows, .int .i64 q.cols, .int .i64 q.front] 177) = wA at *
  clear hwA
  have ZB := hide (show Has (wA.alloc (.cells #[.int .i64 0, .int .i64 0, .int .i64 0, .int .i64 0, .int .i64 0, .int .i64 0, .int .i64 0, .map none, .int .i64 0, .int .i64 0, .int .i64 0, .int .i64 0, .int .i64 0, .int .i64 0, .int .i64 0, .int .i64 0, .int .i64 0, .int .i64 0, .int .i64 0, .int .i64 0, .int .i64 0, .int .i64 0, .int .i64 0, .int .i64 0, .int .i64 0] 154)) (w.heap.size + 1) zeroFl 154 from by have := Has.new wA zeroFl 154; rw [hsA] at this; exact this)
  have MZ := hide ((unhide MA).alloc (.cells zeroFl 154))
  go_upto_region 2 with (first
    | (refine wpList_load_has rfl 154 _ rfl b 0 rfl (fcells p (.map (some m)) l) 154 (unhide FA) (fcells p (.map (some m)) l) (fun j v h => by rw [Nat.zero_add]; simpa using h) rowFl sizeFl ?_)
    | (refine wpList_store_has rfl 154 _ _ rfl (w.heap.size + 1) (fcells p (.map (some m)) l) rfl rfl zeroFl 154 (unhide ZB) rfl sizeFl (oneFl p _ l) ?_; intro w5 h5 m5))
  have M5 := hide ((unhide MZ).trans' m5 (fun i hi hl => by omega))
  have B5 := hide (m5.has ((unhide BA).alloc (.cells zeroFl 154)) (by omega))
  have O5 := hide h5
  have X5 := hide (show FlX w5 b p l m es clock from by
    have := unhide HX
    exact ⟨(unhide M5).has this.has (fun x => x), (unhide M5).map this.map (fun x => x), this.ok, this.rel⟩)
  clear m5 h5 ZB MZ
  have b5 := (unhide B5).cell
  have o3 := (unhide O5).cell 3
  rw [show (fcells p (.map (some m)) l)[3]? = some (.int .i64 p.l0) from rfl] at o3
  have o4 := (unhide O5).cell 4
  rw [show (fcells p (.map (some m)) l)[4]? = some (.int .i64 p.l1) from rfl] at o4
  have o5 := (unhide O5).cell 5
  rw [show (fcells p (.map (some m)) l)[5]? = some (.int .i64 p.l2) from rfl] at o5
  have o6 := (unhide O5).cell 6
  rw [show (fcells p (.map (some m)) l)[6]? = some (.int .i64 p.l3) from rfl] at o6
  go_wp2_with fail
  refine ((unhide HFIT) _ (unhide M5)).mono ?_
  rintro e w6 ⟨rfl, ⟨m', es0, clock0, x6, hm'⟩, m6⟩
  clear b5 o3 o4 o5 o6
  have s5 := (unhide O5).lt
  have hmm : m ≠ m' := by omega
  have F6 := hide (m6.map (unhide X5).map (fun e => hbm e))
  have O6 := hide (m6.has (unhide O5) (fun e => by omega))
  have X6 := hide x6
  have M6 := hide (((unhide M5).mono (S' := fun k => k = b) (fun _ _ x => x.elim)).trans m6)
  have l6 := x6.has.lt
  have lm6 := (Array.getElem?_eq_some_iff.1 x6.map).1
  have HM' := hide (show w.heap.size ≤ m' from by have := (unhide M5).size; omega)
  have hbm' := x6.has.map_ne x6.map
  clear x6 m6 X5 B5 O5
  go_wp2_with (first
    | (refine wpList_load_has rfl 154 _ rfl (w.heap.size + 1) 0 rfl (fcells p (.map (some m)) l) 154 (unhide O6) (fcells p (.map (some m)) l) (fun j v h => by rw [Nat.zero_add]; simpa using h) rowFl sizeFl ?_))
  refine ((unhide HSET) _ m' clock0 es0 (unhide X6) (unhide F6) hmm).mono ?_
  rintro e w7 ⟨v, rfl, hS⟩
  have M7 := hide hS.mod
  obtain ⟨a, cp, rfl, hR⟩ := (unhide HRES) _ _ m' v hS l6 lm6
  have HR := hide hR
  clear hR hS HRES HSET HFIT
  go_wp2_with fail
  refine (unhide HR).mono ?_
  rintro e w8 ⟨rfl, ⟨es9, clock9, x8⟩, m8⟩
  have hfin : FlH w8 (fun k => k = b ∨ w.heap.size ≤ k) b (swapPre p q) (swapSeats (swapPre p q) l) := ⟨m', es9, clock9, x8.has, x8.map, x8.ok, x8.rel, .inl rfl, .inr (unhide HM')⟩
  have M8 := hide ((unhide M7).trans m8)
  obtain ⟨c24, z24, l24⟩ : w8.cell? ⟨b, 24, none⟩ = some (.int .i64 p.ep) ∧ w8.frozen? ⟨b, 24, none⟩ = false ∧ b < w8.heap.size := hfin.cell24
  have wE := nx_eq p.ep
  have HB := hide (show FlH (w8.setCell ⟨b, 24, none⟩ (.int .i64 (nx p.ep))) (fun k => k = b ∨ w.heap.size ≤ k) b (swapPla p q) (swapSeats (swapPla p q) l) from hfin.bump.1)
  clear hfin x8 m8 HR
  go_wp2
  go_end0
  refine ⟨rfl, unhide HB, ?_⟩
  exact (((unhide M6).trans' (unhide M8) (fun i hi hl => by rcases hi with e | e; exact e; have := unhide HM'; omega))).at 24 _
end Go.Proofs.YtlcbemcamdafjaaGreat
/- A keeper does a command: what comes of it. -/
namespace Go.Proofs.YtlcbemcamdafjaaGreat
open Go.RowKit
open Go.ChangeMaps (setBlock)
open M
set_option linter.unusedVariables false
set_option linter.unusedSimpArgs false
set_option maxRecDepth 100000

/-- The answer, the time and the flights behind a command. -/
def doK (now : Int) (fl : Nat → Option (Pla × List Sea)) (c : Cmd) : Int × Int × (Nat → Option (Pla × List Sea)) :=
  if c.kind < 1 ∨ c.kind > 9 then (1, now, fl)
  else if c.kind = 8 then (if 1 ≤ c.time ∧ c.time ≤ 100 then (0, now + c.time, fun n => (fl n).map (tickF (now + c.time))) else (8, now, fl))
  else if ¬ (1 ≤ c.flight ∧ c.flight ≤ 20) then (2, now, fl)
  else match fl c.flight.toNat with
    | none => if c.kind = 1 then (if c.pla.sized = true ∧ c.pla.limited = true then (0, now, fun j => if j = c.flight.toNat then some (c.pla.at 1, emptySeats c.pla) else fl j) else (4, now, fl)) else (2, now, fl)
    | some x => if c.kind = 1 then (3, now, fl) else if seatErr x.1 x.2 c now = 0 then (0, now, fun j => if j = c.flight.toNat then some (planNew x.1 c, seatNew x.1 x.2 c) else fl j) else (seatErr x.1 x.2 c now, now, fl)

/-- A keeper, whosesoever its blocks. -/
structure KeepH (w : World) (ow : Nat → Nat) (kb : Nat) (now : Int) (fl : Nat → Option (Pla × List Sea)) : Prop where
  ex : ∃ pt, KeepX w ow kb now pt fl

/-- What has become of a keeper. -/
structure Kept (w w' : World) (ow : Nat → Nat) (kb : Nat) (now : Int) (fl : Nat → Option (Pla × List Sea)) : Prop where
  keep : ∃ ow', KeepH w' ow' kb now fl ∧ ∀ k, k < w.heap.size → ow' k = ow k
  mod : Mod (fun k => ow k ≠ 0) w w'
  fol : ∀ i, i < 8 → w'.cell? ⟨kb, 22 + i, none⟩ = w.cell? ⟨kb, 22 + i, none⟩

/-- The followers stand where they stood. -/
theorem fol_same {w w' : World} {kb : Nat} {now now' : Int} {pt pt' : Nat → Option Nat} (h : Has w kb (keepCells now pt) 116) (h' : Has w' kb (keepCells now' pt') 116) (hp : ∀ i, 21 ≤ i → pt' i = pt i) :
    ∀ i, i < 8 → w'.cell? ⟨kb, 22 + i, none⟩ = w.cell? ⟨kb, 22 + i, none⟩ := fun i hi => by
  rw [h.cell, h'.cell, keep_far _ _ i hi, keep_far _ _ i hi, hp _ (by omega)]
theorem Kept.first {a w w' : World} {ow : Nat → Nat} {kb : Nat} {now : Int} {fl : Nat → Option (Pla × List Sea)} {cs : Array Value} (h : Kept w w' ow kb now fl) (hm : Mod No a w) (hk : Has a kb cs 116) : Kept a w' ow kb now fl := by
  obtain ⟨⟨ow', q, ho⟩, m, f⟩ := h
  exact ⟨⟨ow', q, fun k hk => ho k (Nat.lt_of_lt_of_le hk hm.size)⟩, (hm.mono (fun _ _ x => x.elim)).trans m, fun i hi => by rw [f i hi, (hm.has hk (fun x => x)).cell, hk.cell]⟩

theorem Kept.same {w w' : World} {ow : Nat → Nat} {kb : Nat} {now : Int} {pt : Nat → Option Nat} {fl : Nat → Option (Pla × List Sea)} (h : KeepX w ow kb now pt fl) (hm : Mod No w w') : Kept w w' ow kb now fl :=
  ⟨⟨ow, ⟨pt, h.mod hm (fun _ _ x => x)⟩, fun _ _ => rfl⟩, hm.mono (fun _ _ x => x.elim), fol_same h.has (hm.has h.has (fun x => x)) (fun _ _ => rfl)⟩

theorem refuse_ne {e : Int} (h : e ≠ 0) (x : Int) (he : x = e) : x ≠ 0 := by rw [he]; exact h

theorem apply_start {w : World} {ow : Nat → Nat} {kb : Nat} {now : Int} {pt : Nat → Option Nat} {fl : Nat → Option (Pla × List Sea)} (h : KeepX w ow kb now pt fl) (n : Nat) (hn : 1 ≤ n ∧ n ≤ 20) (hfl : fl n = none) (p : Pla) (h1 : p.sized = true) (h2 : p.limited = true) :
    Calls Tryz.prog 48 #[.pointer (some ⟨kb, 0, none⟩), .int .i64 n, startV p] w fun e w' =>
      e = .returned (.tuple #[]) ∧ Kept w w' ow kb now (fun j => if j = n then some (p.at 1, emptySeats p) else fl j) := by
  refine apply_new kb n hn now pt p w _ h.has (h.gone n (by omega) hfl) (fun W hW hk hb => ?_)
  have hs : w.heap.size ≤ W.heap.size := hW.size
  have hbl := hb.lt
  refine (start_any hb h1 h2).mono ?_
  rintro e w' ⟨rfl, hf, hm⟩
  refine ⟨rfl, ⟨fun k => if k < w.heap.size then ow k else if k = w.heap.size + 1 ∨ (W.heap.size ≤ k ∧ k < w'.heap.size) then n + 2 else 0, ⟨updP pt n (w.heap.size + 1), ?_⟩, fun k hk => by simp [hk]⟩, ?_, fol_same h.has (Mod.has (S := fun k => k = w.heap.size + 1) hm hk (by have := h.has.lt; omega)) (fun i hi => by simp only [updP]; rw [if_neg (by omega)])⟩
  · have kl : kb < w.heap.size := h.has.lt
    have hm' : Mod (fun k => k = w.heap.size + 1) W w' := hm
    have hsz : W.heap.size ≤ w'.heap.size := hm.size
    refine ⟨hm'.has hk (by omega), by simp [kl, h.mine], fun k hk' => ?_, fun j hj hn' => ?_, fun j p' l' hj hn' => ?_⟩
    · split at hk'
      · omega
      · split at hk'
        · rename_i e; rcases e with e | e <;> omega
        · exact absurd rfl hk'
    · by_cases e : j = n
      · rw [if_pos e] at hn'; exact absurd hn' (by simp)
      · rw [if_neg e] at hn'
        simp only [updP, if_neg e]
        exact h.gone j hj hn'
    · by_cases e : j = n
      · rw [if_pos e] at hn'
        simp only [Option.some.injEq, Prod.mk.injEq] at hn'
        obtain ⟨rfl, rfl⟩ := hn'
        subst e
        refine ⟨w.heap.size + 1, by simp [updP], (empty_wf h1 h2).at 1, ?_⟩
        refine hf.narrow.wide (fun k ⟨hk1, hk2⟩ => ?_)
        have : ¬ k < w.heap.size := by rcases hk1 with e | e <;> omega
        have h3 : k = w.heap.size + 1 ∨ (W.heap.size ≤ k ∧ k < w'.heap.size) := by rcases hk1 with e | e; exact .inl e; exact .inr ⟨e, hk2⟩
        simp only [if_neg this, if_pos h3]
      · rw [if_neg e] at hn'
        obtain ⟨b', e1, e2, e3⟩ := h.here j p' l' hj hn'
        refine ⟨b', by simp only [updP, if_neg e]; exact e1, e2, ?_⟩
        have f1 : FlH W (fun k => ow k = j + 2) b' p' l' := e3.mod hW (fun k hk' e => by subst e; rw [h.mine] at hk'; omega)
        have f2 : FlH w' (fun k => ow k = j + 2) b' p' l' := f1.mod hm' (fun k hk' e => by
          subst e
          have := h.old _ (show ow (w.heap.size + 1) ≠ 0 by omega)
          omega)
        refine f2.wide (fun k hk' => ?_)
        have := h.old k (by omega)
        simp only [if_pos this]
        exact hk'
  · refine (hW.mono (fun k _ (e : k = kb) => by subst e; show ow k ≠ 0; rw [h.mine]; omega)).trans' hm (fun i (e : i = w.heap.size + 1) hl => by omega)

/-- A flight gets another plane. -/
theorem refit_keep {w : World} {ow : Nat → Nat} {kb : Nat} {now : Int} {pt : Nat → Option Nat} {fl : Nat → Option (Pla × List Sea)} (h : KeepX w ow kb now pt fl) (n : Nat) (hn : 1 ≤ n ∧ n ≤ 20) {p : Pla} {l : List Sea} (hfl : fl n = some (p, l)) (c : Cmd) (h9 : c.kind = 9) (he : seatErr p l c now = 0) :
    Calls Tryz.prog 48 #[.pointer (some ⟨kb, 0, none⟩), .int .i64 n, changeV c] w fun e w' =>
      e = .returned (.tuple #[]) ∧ Kept w w' ow kb now (fun j => if j = n then some (planNew p c, seatNew p l c) else fl j) := by
  obtain ⟨b, hp, hwf, hf⟩ := h.here n p l (by omega) hfl
  have hc : (keepCells now pt)[1 + n]? = some (.pointer (some ⟨b, 0, none⟩)) := by rw [keep_at now pt n (by omega), hp]; rfl
  have hob : ow b = n + 2 := by obtain ⟨m, es, clock, _, _, _, _, q, _⟩ := hf; exact q
  have hbl : b < w.heap.size := by obtain ⟨m, es, clock, q, _⟩ := hf; exact q.lt
  have hq : c.pla.sized = true ∧ ¬ (c.pla.rows * c.pla.cols < (nFull l : Int)) := by
    unfold seatErr at he
    rw [if_pos h9] at he
    by_cases hq : c.pla.sized = true ∧ ¬ (c.pla.rows * c.pla.cols < (nFull l : Int))
    · exact hq
    · rw [if_neg hq] at he; exact absurd he (by omega)
  have ech : changeV c = refitV c.pla := by unfold changeV; rw [if_pos h9]
  have esn : seatNew p l c = swapSeats (swapPla p c.pla) l := by unfold seatNew; rw [if_pos h9]
  have epn : planNew p c = swapPla p c.pla := by unfold planNew; rw [if_pos h9]
  have hwf2 : Wf (swapPla p c.pla) (swapSeats (swapPla p c.pla) l) := swap_wf (q := swapPla p c.pla) hwf hq.1 hwf.limited hq.2
  rw [ech, esn, epn]
  unfold refitV
  refine apply_refit kb b n hn _ _ _ _ w _ h.has hc (fun W hW => (refit_any (hf.mod0 hW) hwf hq.1 hq.2).mono ?_)
  rintro e w' ⟨rfl, hf', hm⟩
  have hs : w.heap.size ≤ W.heap.size := hW.size
  have kl : kb < w.heap.size := h.has.lt
  have hsz : W.heap.size ≤ w'.heap.size := hm.size
  refine ⟨rfl, ⟨fun k => if k < w.heap.size then ow k else if W.heap.size ≤ k ∧ k < w'.heap.size then n + 2 else 0, ⟨pt, ?_⟩, fun k hk => by simp [hk]⟩, (hW.mono (fun _ _ x => x.elim)).trans (hm.mono (fun k _ (e : k = b) => by subst e; show ow k ≠ 0; omega)), fol_same h.has (hm.has (hW.has h.has (fun x => x)) (by intro e; have := h.mine; rw [e] at this; omega)) (fun _ _ => rfl)⟩
  refine ⟨hm.has (hW.has h.has (fun x => x)) (by intro e; have := h.mine; rw [e] at this; omega), by simp [kl, h.mine], fun k hk' => ?_, fun j hj hn' => ?_, fun j p' l' hj hn' => ?_⟩
  · split at hk'
    · omega
    · split at hk'
      · omega
      · exact absurd rfl hk'
  · by_cases e : j = n
    · rw [if_pos e] at hn'; exact absurd hn' (by simp)
    · rw [if_neg e] at hn'
      exact h.gone j hj hn'
  · by_cases e : j = n
    · rw [if_pos e] at hn'
      simp only [Option.some.injEq, Prod.mk.injEq] at hn'
      obtain ⟨rfl, rfl⟩ := hn'
      subst e
      refine ⟨b, hp, hwf2, hf'.narrow.wide (fun k ⟨hk1, hk2⟩ => ?_)⟩
      rcases hk1 with e | e
      · subst e
        simp only [if_pos hbl]
        exact hob
      · have : ¬ k < w.heap.size := by omega
        simp only [if_neg this, if_pos (And.intro e hk2)]
    · rw [if_neg e] at hn'
      obtain ⟨b', e1, e2, e3⟩ := h.here j p' l' hj hn'
      refine ⟨b', e1, e2, ?_⟩
      have f2 : FlH w' (fun k => ow k = j + 2) b' p' l' := (e3.mod0 hW).mod hm (fun k hk' e => by subst e; omega)
      refine f2.wide (fun k hk' => ?_)
      have := h.old k (by omega)
      simp only [if_pos this]
      exact hk'

theorem do_any {w : World} {ow : Nat → Nat} {kb : Nat} {now : Int} {fl : Nat → Option (Pla × List Sea)} (h : KeepH w ow kb now fl) (hn : 0 ≤ now ∧ now ≤ 4611686018427387000) (c : Cmd) :
    Calls Tryz.prog 25 #[.pointer (some ⟨kb, 0, none⟩), .agg (cmdCells c)] w fun e w' =>
      e = .returned (.int .i64 (doK now fl c).1) ∧ Kept w w' ow kb (doK now fl c).2.1 (doK now fl c).2.2 := by
  obtain ⟨pt, h⟩ := h
  have no : ∀ x : Int, x ≠ 0 → (∀ W, Mod No w W → Calls Tryz.prog 47 #[.pointer (some ⟨kb, 0, none⟩), .agg (cmdCells c)] W fun e w' => e = .returned (refuse x) ∧ Mod No W w') →
      Calls Tryz.prog 25 #[.pointer (some ⟨kb, 0, none⟩), .agg (cmdCells c)] w fun e w' => e = .returned (.int .i64 x) ∧ Kept w w' ow kb now fl := fun x hx hL =>
    (do_refuse kb c x hx w hL).mono (fun e w' ⟨r, m⟩ => ⟨r, Kept.same h m⟩)
  unfold doK
  by_cases hbad : c.kind < 1 ∨ c.kind > 9
  · rw [if_pos hbad]
    exact no 1 (by omega) (fun W _ => klook_bad kb c hbad W)
  rw [if_neg hbad]
  by_cases h8 : c.kind = 8
  · rw [if_pos h8]
    have hN : ∀ W, Mod No w W → ∀ W', Mod No W W' → Calls Tryz.prog 32 #[.pointer (some ⟨kb, 0, none⟩)] W' fun e w' => e = .returned (.int .i64 now) ∧ w' = W' := fun W hW W' hW' => now_any (h.mod (hW.trans hW') (fun _ _ x => x))
    by_cases ht : 1 ≤ c.time ∧ c.time ≤ 100
    · rw [if_pos ht]
      refine do_grant kb c (passV (now + c.time)) w _ (fun W hW => klook_tick kb c now _ _ h8 W (hN W hW) (fun W' => tickLook_yes c.time now W' ht.1 ht.2 hn)) (fun W hW => ?_)
      exact apply_pass kb c.flight (now + c.time) W _ (fun W' hW' => (kpass_any (h.mod (hW.trans hW') (fun _ _ x => x)) (now + c.time)).mono (fun e w' ⟨r, k, m⟩ => ⟨r, ⟨ow, ⟨pt, k⟩, fun _ _ => rfl⟩, ((hW.trans hW').mono (fun _ _ x => x.elim)).trans m, fol_same h.has k.has (fun _ _ => rfl)⟩))
    · rw [if_neg ht]
      exact no 8 (by omega) (fun W hW => klook_tick kb c now _ _ h8 W (hN W hW) (fun W' => tickLook_out c.time now W' ht))
  rw [if_neg h8]
  by_cases hf : 1 ≤ c.flight ∧ c.flight ≤ 20
  case neg =>
    rw [if_pos hf]
    exact no 2 (by omega) (fun W _ => klook_num kb c (by omega) hf W)
  rw [if_neg (by simpa using hf)]
  have hfn : ((c.flight.toNat : Nat) : Int) = c.flight := by omega
  have hF : ∀ W, Mod No w W → ∀ W', Mod No W W' → Calls Tryz.prog 55 #[.pointer (some ⟨kb, 0, none⟩), .int .i64 c.flight] W' fun e w' => e = .returned (pv (pt c.flight.toNat)) ∧ w' = W' := fun W hW W' hW' => by
    have := find_any (h.mod (hW.trans hW') (fun _ _ x => x)) c.flight.toNat (by omega)
    rw [hfn] at this
    exact this
  cases hfl : fl c.flight.toNat with
  | none =>
    have hp := h.gone _ (by omega) hfl
    rw [hp] at hF
    simp only
    by_cases k1 : c.kind = 1
    · rw [if_pos k1]
      by_cases hs : c.pla.sized = true ∧ c.pla.limited = true
      · rw [if_pos hs]
        have hA : ∀ W, Calls Tryz.prog 68 #[plaV c.pla] W fun e w' => e = .returned (.tuple #[startV c.pla, .int .i64 0]) ∧ Mod No W w' := fun W => by
          have := lookAdd_walk c.pla W
          unfold addV at this
          rw [if_pos hs] at this
          exact this
        refine do_grant kb c (startV c.pla) w _ (fun W hW => klook_add kb c _ _ k1 hf W (hF W hW) hA) (fun W hW => ?_)
        have := apply_start (h.mod hW (fun _ _ x => x)) c.flight.toNat (by omega) hfl c.pla hs.1 hs.2
        rw [hfn] at this
        refine this.mono ?_
        rintro e w' ⟨r, k⟩
        exact ⟨r, k.first hW h.has⟩
      · rw [if_neg hs]
        have hA : ∀ W, Calls Tryz.prog 68 #[plaV c.pla] W fun e w' => e = .returned (.tuple #[.nilIface, .int .i64 4]) ∧ Mod No W w' := fun W => by
          have := lookAdd_walk c.pla W
          unfold addV at this
          rw [if_neg hs] at this
          exact this
        exact no 4 (by omega) (fun W hW => klook_add kb c _ _ k1 hf W (hF W hW) hA)
    · rw [if_neg k1]
      exact no 2 (by omega) (fun W hW => klook_miss kb c (by omega) hf W (hF W hW))
  | some x =>
    obtain ⟨p, l⟩ := x
    obtain ⟨b, hp, hwf, hfh⟩ := h.here _ p l (by omega) hfl
    rw [hp] at hF
    simp only
    by_cases k1 : c.kind = 1
    · rw [if_pos k1]
      exact no 3 (by omega) (fun W hW => klook_twice kb b c k1 hf W (hF W hW))
    · rw [if_neg k1]
      have hL : ∀ W, Mod No w W → ∀ W', Mod No W W' → Calls Tryz.prog 69 #[.pointer (some ⟨b, 0, none⟩), .agg (cmdCells c), .int .i64 now] W' fun e w' => e = .returned (lookV p l c now) ∧ Mod No W' w' := fun W hW W' hW' => by
        obtain ⟨m, es, clock, q1, q2, q3, q4, q5, q6⟩ := hfh.mod0 (hW.trans hW')
        exact flook_any ⟨q1, q2, q3, q4⟩ hwf c now hn (by omega)
      unfold lookV at hL
      by_cases hz : seatErr p l c now = 0
      · rw [if_pos hz] at hL ⊢
        refine do_grant kb c (changeV c) w _ (fun W hW => klook_fl kb b c now _ _ _ (by omega) hf W (hW.has h.has (fun x => x)) rfl (hF W hW) (hL W hW)) (fun W hW => ?_)
        by_cases h9 : c.kind = 9
        · have := refit_keep (h.mod hW (fun _ _ x => x)) c.flight.toNat (by omega) hfl c h9 hz
          rw [hfn] at this
          refine this.mono ?_
          rintro e w' ⟨r, k⟩
          exact ⟨r, k.first hW h.has⟩
        have := apply_seat (h.mod hW (fun _ _ x => x)) c.flight.toNat (by omega) hfl hn c (by omega) hz h9
        rw [hfn] at this
        refine this.mono ?_
        rintro e w' ⟨r, hk, m⟩
        have epn : planNew p c = p.next := by unfold planNew; rw [if_neg h9]
        rw [epn]
        exact ⟨r, ⟨ow, ⟨pt, hk⟩, fun _ _ => rfl⟩, (hW.mono (fun _ _ x => x.elim)).trans m, fol_same h.has hk.has (fun _ _ => rfl)⟩
      · rw [if_neg hz] at hL ⊢
        exact no _ hz (fun W hW => klook_fl kb b c now _ _ _ (by omega) hf W (hW.has h.has (fun x => x)) rfl (hF W hW) (hL W hW))
end Go.Proofs.YtlcbemcamdafjaaGreat
