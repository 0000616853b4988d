import Derived.Test.YtlcbemcamdafjaaCfoldedBaseMaps
import Derived.Deep.MidRow
import Derived.Test.YtlcbemcamdafjaaCfoldedSwap3Swap4
import Derived.Deep.DeepCutAuto
/- Whole boxes read and written at once. -/
namespace Go.Proofs.Ytlcbemcamdafjaa
open Go.RowKit
set_option linter.unusedVariables false

theorem Mod.setCells {S : Nat → Prop} {a : World} {b : Nat} (hb : S b ∨ a.heap.size ≤ b) : ∀ (vs : List Value) (o : Nat) (w : World), Mod S a w → Mod S a (w.setCells b o vs)
  | [], _, _, h => h
  | v :: r, o, w, h => Mod.setCells hb r (o + 1) _ (h.setCell (p := ⟨b, o, none⟩) hb v)

def setAll : Array Value → Nat → List Value → Array Value
  | cs, _, [] => cs
  | cs, o, v :: r => setAll (cs.setIfInBounds o v) (o + 1) r

theorem Has.setCells {b : Nat} {T : TypeId} : ∀ (vs : List Value) (o : Nat) (w : World) (cs : Array Value), Has w b cs T → Has (w.setCells b o vs) b (setAll cs o vs) T
  | [], _, _, _, h => h
  | v :: r, o, _, _, h => Has.setCells r (o + 1) _ _ (h.set o v)

theorem setAll_get : ∀ (vs : List Value) (o : Nat) (cs : Array Value) (i : Nat), (setAll cs o vs)[i]? = if o ≤ i ∧ i < o + vs.length ∧ i < cs.size then vs[i - o]? else cs[i]?
  | [], o, cs, i => by
    simp only [setAll, List.length_nil, Nat.add_zero]
    rw [if_neg (by omega)]
  | v :: r, o, cs, i => by
    simp only [setAll]
    rw [setAll_get r (o + 1) _ i]
    simp only [Array.size_setIfInBounds, List.length_cons]
    by_cases h : o + 1 ≤ i ∧ i < o + 1 + r.length ∧ i < cs.size
    · rw [if_pos h, if_pos ⟨by omega, by omega, h.2.2⟩]
      obtain ⟨k, rfl⟩ : ∃ k, i = o + 1 + k := ⟨i - (o + 1), by omega⟩
      rw [show o + 1 + k - (o + 1) = k by omega, show o + 1 + k - o = k + 1 by omega]
      rfl
    · rw [if_neg h]
      by_cases h' : o ≤ i ∧ i < o + (r.length + 1) ∧ i < cs.size
      · have : i = o := by omega
        subst this
        rw [if_pos h', Array.getElem?_setIfInBounds_self_of_lt h'.2.2, Nat.sub_self]
        rfl
      · rw [if_neg h']
        by_cases hi : o = i
        · subst hi
          rw [Array.getElem?_setIfInBounds, if_pos rfl, if_neg (by omega), Array.getElem?_eq_none (by omega)]
        · rw [Array.getElem?_setIfInBounds_ne hi]

theorem setAll_size : ∀ (vs : List Value) (o : Nat) (cs : Array Value), (setAll cs o vs).size = cs.size
  | [], _, _ => rfl
  | v :: r, o, cs => by simp only [setAll]; rw [setAll_size r (o + 1) _]; simp

theorem setAll_whole (cs vs : Array Value) (h : vs.size = cs.size) : setAll cs 0 vs.toList = vs := by
  apply Array.ext
  · rw [setAll_size, h]
  · intro i h1 h2
    have := setAll_get vs.toList 0 cs i
    rw [if_pos ⟨by omega, by simpa using h2, by omega⟩] at this
    rw [Array.getElem?_eq_getElem h1] at this
    simpa [Array.getElem?_eq_getElem h2] using this

theorem Has.range {w : World} {b : Nat} {cs : Array Value} {T : TypeId} (h : Has w b cs T) (o : Nat) (l : List Value) (hl : ∀ j v, l[j]? = some v → cs[o + j]? = some v) : w.rangeAt b o l :=
  fun j v hv => by rw [h.cell]; exact hl j v hv

/-- A box, or a part of it, is read. -/
theorem wpList_load_has {P : Program} {ops : Array Oper} {rest : List Oper} {op : Oper} {a : Act} {w : World} {Q : Exit → Act → World → Prop} (hgd : op.guard = none) (ty : TypeId) (x : Operand) (ho : op.op = .load ty x)
    (b o : Nat) (hx : a.eval x = .pointer (some ⟨b, o, none⟩)) (cs : Array Value) (T : TypeId) (hb : Has w b cs T) (l : Array Value) (hl : ∀ j v, l.toList[j]? = some v → cs[o + j]? = some v)
    (hu : (P.underlying ty).map (·.isRow) = some true) (hi : (P.info? ty).map (·.size) = some l.size)
    (h : wpList P ops Q rest (a.put op.dst (.agg l)) w) : wpList P ops Q (op :: rest) a w := by
  cases hd : P.underlying ty with
  | none => rw [hd] at hu; simp at hu
  | some d =>
    rw [hd] at hu
    exact wpList_load_mid hgd ty x ho b o hx l.toList d (hb.range o _ hl) hd (by simpa using hu) (by simpa using hi) h

/-- A whole box is written. -/
theorem wpList_store_has {P : Program} {ops : Array Oper} {rest : List Oper} {op : Oper} {a : Act} {w : World} {Q : Exit → Act → World → Prop} (hgd : op.guard = none) (ty : TypeId) (x y : Operand) (ho : op.op = .store ty x y)
    (b : Nat) (cells : Array Value) (hx : a.eval x = .pointer (some ⟨b, 0, none⟩)) (hy : a.eval y = .agg cells) (cs : Array Value) (T : TypeId) (hb : Has w b cs T) (hs : cells.size = cs.size)
    (hi : (P.info? ty).map (·.size) = some cells.size) (h1 : cells.all (·.oneCell') = true)
    (h : ∀ w', Has w' b cells T → Mod (fun k => k = b) w w' → wpList P ops Q rest (a.put op.dst undef) w') : wpList P ops Q (op :: rest) a w := by
  refine wpList_store_mid hgd ty x y ho b 0 cells hx hy (fun j hj => ⟨?_, hb.frozen _⟩) hi h1 (h _ ?_ ?_)
  · rw [hb.cell, Nat.zero_add, Array.getElem?_eq_getElem (by omega)]
    rfl
  · have := hb.setCells cells.toList 0
    rw [setAll_whole cs cells hs] at this
    exact this
  · exact Mod.setCells (S := fun k => k = b) (.inl rfl) _ _ _ (Mod.refl _ _)
end Go.Proofs.Ytlcbemcamdafjaa
/- Another plane: the change, done. -/
namespace Go.Proofs.Ytlcbemcamdafjaa
open Go.RowKit Go.WideMaps
open Go.ChangeMaps (setBlock)
open M
set_option linter.unusedVariables false
set_option linter.unusedSimpArgs false
set_option maxRecDepth 100000
set_option maxHeartbeats 4000000

/-- A flight of nothing. -/
def zeroFl : Array Value := #[.int .i64 0, .int .i64 0, .int .i64 0, .int .i64 0, .int .i64 0, .int .i64 0, .int .i64 0, .map none, .int .i64 0, .int .i64 0, .int .i64 0, .int .i64 0, .int .i64 0, .int .i64 0, .int .i64 0, .int .i64 0, .int .i64 0, .int .i64 0, .int .i64 0, .int .i64 0, .int .i64 0, .int .i64 0, .int .i64 0, .int .i64 0, .int .i64 0]
theorem oneFl (p : Pla) (m : Option Nat) (l : List Sea) : (fcells p (.map m) l).all (·.oneCell') = true := by simp [fcells, fcf, fcs, Value.oneCell']
theorem rowFl : (Try.prog.underlying 121).map (·.isRow) = some true := by kernel_rfl
theorem sizeFl : (Try.prog.info? 121).map (·.size) = some 25 := by kernel_rfl

/-- A flight's plane, before a Swap is counted. -/
def swapPre (p q : Pla) : Pla := ⟨q.rows, q.cols, q.front, p.l0, p.l1, p.l2, p.l3, p.ep⟩

/-- Those who stay, then the homeless. -/
theorem settle_reseat {b m m' clock clock0 : Nat} {p Q : Pla} {l : List Sea} {es es0 : List MEnt} {w w' : World} {v : Value} (hS : SetI w w' b m m' clock p Q l es v l.length) (hwf : Wf p l) (h1 : Q.sized = true) (h2 : Q.limited = true) (hn : ¬ Q.rows * Q.cols < (nFull l : Int)) (hbl : b < w.heap.size) (hml : m' < w.heap.size) :
    ∃ a cp, v = .slice a (homeless Q l).length cp ∧ Calls Try.prog 97 #[.pointer (some ⟨b, 0, none⟩), .slice a (homeless Q l).length cp] w' fun e w2 => e = .returned (.tuple #[]) ∧ (∃ es' clock', FlX w2 b Q (swapSeats Q l) m' es' clock') ∧ Mod (fun k => k = b ∨ k = m') w' w2 := by
  have hrow := hS.row
  have hfl := hS.fl
  rw [List.take_length] at hrow hfl
  obtain ⟨a, cp, rfl⟩ := slice_of_owns hrow
  refine ⟨a, cp, rfl, ?_⟩
  have h0 : ReI w' w' b m' Q (stay Q l) (homeless Q l) 0 0 := ⟨hfl, reseat_start hwf h1 h2 hn, fun j h hj => by omega, Mod.refl _ _⟩
  have hlen : (homeless Q l).length ≤ 120 := Nat.le_trans (List.length_filter_le _ _) (Fli.wf.len_le hwf)
  by_cases hpos : 0 < (homeless Q l).length
  · obtain ⟨g, cp', hv, hE⟩ := rowE_of hrow hpos
    injection hv with e1 e2 e3
    subst e1 e3
    have hg := hS.new g rfl
    refine (reseat_walk b m' g cp Q (stay Q l) (homeless Q l) _ w' h0 (homeless_ok hwf) (fun _ => ⟨rfl, hE, by omega, by omega⟩) hlen).mono ?_
    rintro e w2 ⟨rfl, k, hR⟩
    have hfl := hR.fl
    rw [List.take_length] at hfl
    exact ⟨rfl, hfl, hR.mod⟩
  · refine (reseat_walk b m' 0 cp Q (stay Q l) (homeless Q l) _ w' h0 (homeless_ok hwf) (fun h => absurd h hpos) hlen).mono ?_
    rintro e w2 ⟨rfl, k, hR⟩
    have hfl := hR.fl
    rw [List.take_length] at hfl
    exact ⟨rfl, hfl, hR.mod⟩

theorem refit_any {S : Nat → Prop} {b : Nat} {p q : Pla} {l : List Sea} {w : World} (h : FlH w S b p l) (hwf : Wf p l) (h1 : q.sized = true) (hn : ¬ q.rows * q.cols < (nFull l : Int)) :
    Calls Try.prog 96 #[.agg #[.int .i64 q.rows, .int .i64 q.cols, .int .i64 q.front], .pointer (some ⟨b, 0, none⟩)] w fun e w' =>
      e = .returned (.tuple #[]) ∧ FlH w' (fun k => k = b ∨ w.heap.size ≤ k) b (swapPla p q) (swapSeats (swapPla p q) l) ∧ Mod (fun k => k = b) w w' := by
  obtain ⟨m, es, clock, f1, f2, f3, f4, f5, f6⟩ := h
  have hx : FlX w b p l m es clock := ⟨f1, f2, f3, f4⟩
  have hlt := f1.lt
  have hml := (Array.getElem?_eq_some_iff.1 f2).1
  have hbm := f1.map_ne f2
  have hQ1 : (swapPre p q).sized = true := h1
  have hQ2 : (swapPre p q).limited = true := hwf.limited
  have HX := hide hx
  have H1 := hide h1
  -- the plane is fitted
  have HFIT := hide fun W (hW : Mod No w W) => (show Calls Try.prog 95 #[.pointer (some ⟨b, 0, none⟩), .agg #[.int .i64 q.rows, .int .i64 q.cols, .int .i64 q.front, .int .i64 p.l0, .int .i64 p.l1, .int .i64 p.l2, .int .i64 p.l3]] W fun e w' =>
      e = .returned (.tuple #[]) ∧ (∃ m' es0 clock0, FlX w' b (swapPre p q) (emptySeats (swapPre p q)) m' es0 clock0 ∧ W.heap.size ≤ m') ∧ Mod (fun k => k = b) W w' from by
    refine (fit_any (p := swapPre p q) p.ep ⟨_, _, _, _, _, _, _, _, _, _, _, _, _, _, _, _, _, _, _, _, _, _, _, _, hW.has f1 (fun x => x)⟩ hQ1 hQ2).mono ?_
    rintro e w' ⟨rfl, ⟨m', es0, clock0, g1, g2, g3, g4, g5, g6⟩, hm⟩
    have := g1.map_ne g2
    exact ⟨rfl, ⟨m', es0, clock0, ⟨g1, g2, g3, g4⟩, by rcases g6 with h | h; exact absurd h this; exact h⟩, hm⟩)
  have HSET := hide fun (W : World) (m' clock0 : Nat) (es0 : List MEnt) (hf : FlX W b (swapPre p q) (emptySeats (swapPre p q)) m' es0 clock0) (hm : W.heap[m]? = some (mapObj es clock)) (hmm : m ≠ m') =>
    settle_walk b m m' clock clock0 p (swapPre p q) l es es0 W hf hm f3 f4 hwf hQ1 hQ2 hmm
  have HRES := hide fun (W w' : World) (m' : Nat) (v : Value) (hS : SetI W w' b m m' clock p (swapPre p q) l es v l.length) (hb : b < W.heap.size) (hm' : m' < W.heap.size) => settle_reseat (clock0 := 0) (es0 := []) hS hwf hQ1 hQ2 hn hb hm'
  clear h1 hn hwf f3 f4 f5 f6 hQ1 hQ2 hx
  have F1 := hide f1
  have F2 := hide f2
  clear f1 f2
  go_enter Try.func96, Try.ntmps96
  go_upto_region 1 with fail
  have mA : Mod No w (w.alloc (.cells #[.int .i64 q.rows, .int .i64 q.cols, .int .i64 q.front] 147)) := (Mod.refl _ w).alloc _
  have FA := hide (mA.has (unhide F1) (fun x => x))
  have lA := (unhide FA).lt
  have MA := hide mA
  have BA := hide (Has.new w #[.int .i64 q.rows, .int .i64 q.cols, .int .i64 q.front] 147)
  have hsA : (w.alloc (.cells #[.int .i64 q.rows, .int .i64 q.cols, .int .i64 q.front] 147)).heap.size = w.heap.size + 1 := World.size_alloc ..
  clear mA
  generalize hwA : w.alloc (.cells #[.int .i64 q.rows, .int .i64 q.cols, .int .i64 q.front] 147) = wA at *
  clear hwA
  have ZB := hide (show Has (wA.alloc (.cells #[.int .i64 0, .int .i64 0, .int .i64 0, .int .i64 0, .int .i64 0, .int .i64 0, .int .i64 0, .map none, .int .i64 0, .int .i64 0, .int .i64 0, .int .i64 0, .int .i64 0, .int .i64 0, .int .i64 0, .int .i64 0, .int .i64 0, .int .i64 0, .int .i64 0, .int .i64 0, .int .i64 0, .int .i64 0, .int .i64 0, .int .i64 0, .int .i64 0] 121)) (w.heap.size + 1) zeroFl 121 from by have := Has.new wA zeroFl 121; rw [hsA] at this; exact this)
  have MZ := hide ((unhide MA).alloc (.cells zeroFl 121))
  go_upto_region 2 with (first
    | (refine wpList_load_has rfl 121 _ rfl b 0 rfl (fcells p (.map (some m)) l) 121 (unhide FA) (fcells p (.map (some m)) l) (fun j v h => by rw [Nat.zero_add]; simpa using h) rowFl sizeFl ?_)
    | (refine wpList_store_has rfl 121 _ _ rfl (w.heap.size + 1) (fcells p (.map (some m)) l) rfl rfl zeroFl 121 (unhide ZB) rfl sizeFl (oneFl p _ l) ?_; intro w5 h5 m5))
  have M5 := hide ((unhide MZ).trans' m5 (fun i hi hl => by omega))
  have B5 := hide (m5.has ((unhide BA).alloc (.cells zeroFl 121)) (by omega))
  have O5 := hide h5
  have X5 := hide (show FlX w5 b p l m es clock from by
    have := unhide HX
    exact ⟨(unhide M5).has this.has (fun x => x), (unhide M5).map this.map (fun x => x), this.ok, this.rel⟩)
  clear m5 h5 ZB MZ
  have b5 := (unhide B5).cell
  have o3 := (unhide O5).cell 3
  rw [show (fcells p (.map (some m)) l)[3]? = some (.int .i64 p.l0) from rfl] at o3
  have o4 := (unhide O5).cell 4
  rw [show (fcells p (.map (some m)) l)[4]? = some (.int .i64 p.l1) from rfl] at o4
  have o5 := (unhide O5).cell 5
  rw [show (fcells p (.map (some m)) l)[5]? = some (.int .i64 p.l2) from rfl] at o5
  have o6 := (unhide O5).cell 6
  rw [show (fcells p (.map (some m)) l)[6]? = some (.int .i64 p.l3) from rfl] at o6
  go_wp2_with fail
  refine ((unhide HFIT) _ (unhide M5)).mono ?_
  rintro e w6 ⟨rfl, ⟨m', es0, clock0, x6, hm'⟩, m6⟩
  clear b5 o3 o4 o5 o6
  have s5 := (unhide O5).lt
  have hmm : m ≠ m' := by omega
  have F6 := hide (m6.map (unhide X5).map (fun e => hbm e))
  have O6 := hide (m6.has (unhide O5) (fun e => by omega))
  have X6 := hide x6
  have M6 := hide (((unhide M5).mono (S' := fun k => k = b) (fun _ _ x => x.elim)).trans m6)
  have l6 := x6.has.lt
  have lm6 := (Array.getElem?_eq_some_iff.1 x6.map).1
  have HM' := hide (show w.heap.size ≤ m' from by have := (unhide M5).size; omega)
  have hbm' := x6.has.map_ne x6.map
  clear x6 m6 X5 B5 O5
  go_wp2_with (first
    | (refine wpList_load_has rfl 121 _ rfl (w.heap.size + 1) 0 rfl (fcells p (.map (some m)) l) 121 (unhide O6) (fcells p (.map (some m)) l) (fun j v h => by rw [Nat.zero_add]; simpa using h) rowFl sizeFl ?_))
  refine ((unhide HSET) _ m' clock0 es0 (unhide X6) (unhide F6) hmm).mono ?_
  rintro e w7 ⟨v, rfl, hS⟩
  have M7 := hide hS.mod
  obtain ⟨a, cp, rfl, hR⟩ := (unhide HRES) _ _ m' v hS l6 lm6
  have HR := hide hR
  clear hR hS HRES HSET HFIT
  go_wp2_with fail
  refine (unhide HR).mono ?_
  rintro e w8 ⟨rfl, ⟨es9, clock9, x8⟩, m8⟩
  have hfin : FlH w8 (fun k => k = b ∨ w.heap.size ≤ k) b (swapPre p q) (swapSeats (swapPre p q) l) := ⟨m', es9, clock9, x8.has, x8.map, x8.ok, x8.rel, .inl rfl, .inr (unhide HM')⟩
  have M8 := hide ((unhide M7).trans m8)
  obtain ⟨c24, z24, l24⟩ : w8.cell? ⟨b, 24, none⟩ = some (.int .i64 p.ep) ∧ w8.frozen? ⟨b, 24, none⟩ = false ∧ b < w8.heap.size := hfin.cell24
  have wE := nx_eq p.ep
  have HB := hide (show FlH (w8.setCell ⟨b, 24, none⟩ (.int .i64 (nx p.ep))) (fun k => k = b ∨ w.heap.size ≤ k) b (swapPla p q) (swapSeats (swapPla p q) l) from hfin.bump.1)
  clear hfin x8 m8 HR
  go_wp2
  go_end0
  refine ⟨rfl, unhide HB, ?_⟩
  exact (((unhide M6).trans' (unhide M8) (fun i hi hl => by rcases hi with e | e; exact e; have := unhide HM'; omega))).at 24 _
end Go.Proofs.Ytlcbemcamdafjaa
