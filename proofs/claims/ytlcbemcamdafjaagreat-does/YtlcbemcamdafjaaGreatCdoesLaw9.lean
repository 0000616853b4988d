import Derived.Test.YtlcbemcamdafjaaGreatCdoesPg5Law8
/- A tape is made, and a keeper opened on it. -/
namespace Go.Proofs.YtlcbemcamdafjaaGreat
open Go.RowKit
open M
set_option linter.unusedVariables false
set_option linter.unusedSimpArgs false
set_option maxRecDepth 100000
set_option maxHeartbeats 4000000

/-- What a step comes to. -/
structure PlayD (w0 w' : World) (yb : Nat) (av bv : Value) (n : Nat) : Prop where
  ex : ∃ who' lv' os', PlayX w0 w' who' yb lv' av bv os' (n + 1)

/-- All that is made for a new keeper, ahead of its opening. -/
structure NewX (w w5 : World) (bb tb wb tob ob : Nat) (S ts : Array Value) (room : Int) : Prop where
  box : Has w5 bb S 45
  tape : Has w5 tb ts 108
  room : ts[8]? = some (.int .i64 room)
  wor : Has w5 wb #[.slice none 0 0, .int .i64 0] 72
  told : Has w5 tob #[.slice none 0 0, .slice none 0 0, .slice none 0 0, .slice none 0 0, .slice none 0 0, .slice none 0 0, .slice none 0 0, .slice none 0 0, .bool false, .bool false, .bool false, .bool false, .bool false, .bool false, .bool false, .bool false] 76
  one : Has w5 ob #[.pointer (some ⟨tb, 0, none⟩), .pointer none, .pointer (some ⟨wb, 0, none⟩), .pointer none, .pointer (some ⟨tob, 0, none⟩), .int .i64 200, .int .i64 0, .bool false, .int .i64 0, .int .i64 0, .int .i64 0] 55
  ord : w.heap.size = bb ∧ tb = bb + 1 ∧ wb = bb + 2 ∧ tob = bb + 3 ∧ ob = bb + 4 ∧ w5.heap.size = bb + 5
  mod : Mod No w w5
theorem newX (w : World) (S : Array Value) (room : Int) : NewX w (((((w.alloc (.cells S 45)).alloc (.cells (⟨⟨.slice none 0 0, [], 0⟩, ⟨.slice none 0 0, [], 0⟩, ⟨.slice none 0 0, [], 0⟩, ⟨.slice none 0 0, [], 0⟩, room, -1⟩ : TTape).cells 108)).alloc (.cells #[.slice none 0 0, .int .i64 0] 72)).alloc (.cells #[.slice none 0 0, .slice none 0 0, .slice none 0 0, .slice none 0 0, .slice none 0 0, .slice none 0 0, .slice none 0 0, .slice none 0 0, .bool false, .bool false, .bool false, .bool false, .bool false, .bool false, .bool false, .bool false] 76)).alloc (.cells #[.pointer (some ⟨w.heap.size + 1, 0, none⟩), .pointer none, .pointer (some ⟨w.heap.size + 1 + 1, 0, none⟩), .pointer none, .pointer (some ⟨w.heap.size + 1 + 1 + 1, 0, none⟩), .int .i64 200, .int .i64 0, .bool false, .int .i64 0, .int .i64 0, .int .i64 0] 55)) w.heap.size (w.heap.size + 1) (w.heap.size + 1 + 1) (w.heap.size + 1 + 1 + 1) (w.heap.size + 1 + 1 + 1 + 1) S (⟨⟨.slice none 0 0, [], 0⟩, ⟨.slice none 0 0, [], 0⟩, ⟨.slice none 0 0, [], 0⟩, ⟨.slice none 0 0, [], 0⟩, room, -1⟩ : TTape).cells room := by
  have m2 : Mod No (w.alloc (.cells S 45)) ((w.alloc (.cells S 45)).alloc (.cells (⟨⟨.slice none 0 0, [], 0⟩, ⟨.slice none 0 0, [], 0⟩, ⟨.slice none 0 0, [], 0⟩, ⟨.slice none 0 0, [], 0⟩, room, -1⟩ : TTape).cells 108)) := (Mod.refl _ _).alloc _
  have m3 : Mod No ((w.alloc (.cells S 45)).alloc (.cells (⟨⟨.slice none 0 0, [], 0⟩, ⟨.slice none 0 0, [], 0⟩, ⟨.slice none 0 0, [], 0⟩, ⟨.slice none 0 0, [], 0⟩, room, -1⟩ : TTape).cells 108)) (((w.alloc (.cells S 45)).alloc (.cells (⟨⟨.slice none 0 0, [], 0⟩, ⟨.slice none 0 0, [], 0⟩, ⟨.slice none 0 0, [], 0⟩, ⟨.slice none 0 0, [], 0⟩, room, -1⟩ : TTape).cells 108)).alloc (.cells #[.slice none 0 0, .int .i64 0] 72)) := (Mod.refl _ _).alloc _
  have m4 : Mod No (((w.alloc (.cells S 45)).alloc (.cells (⟨⟨.slice none 0 0, [], 0⟩, ⟨.slice none 0 0, [], 0⟩, ⟨.slice none 0 0, [], 0⟩, ⟨.slice none 0 0, [], 0⟩, room, -1⟩ : TTape).cells 108)).alloc (.cells #[.slice none 0 0, .int .i64 0] 72)) ((((w.alloc (.cells S 45)).alloc (.cells (⟨⟨.slice none 0 0, [], 0⟩, ⟨.slice none 0 0, [], 0⟩, ⟨.slice none 0 0, [], 0⟩, ⟨.slice none 0 0, [], 0⟩, room, -1⟩ : TTape).cells 108)).alloc (.cells #[.slice none 0 0, .int .i64 0] 72)).alloc (.cells #[.slice none 0 0, .slice none 0 0, .slice none 0 0, .slice none 0 0, .slice none 0 0, .slice none 0 0, .slice none 0 0, .slice none 0 0, .bool false, .bool false, .bool false, .bool false, .bool false, .bool false, .bool false, .bool false] 76)) := (Mod.refl _ _).alloc _
  have m5 : Mod No ((((w.alloc (.cells S 45)).alloc (.cells (⟨⟨.slice none 0 0, [], 0⟩, ⟨.slice none 0 0, [], 0⟩, ⟨.slice none 0 0, [], 0⟩, ⟨.slice none 0 0, [], 0⟩, room, -1⟩ : TTape).cells 108)).alloc (.cells #[.slice none 0 0, .int .i64 0] 72)).alloc (.cells #[.slice none 0 0, .slice none 0 0, .slice none 0 0, .slice none 0 0, .slice none 0 0, .slice none 0 0, .slice none 0 0, .slice none 0 0, .bool false, .bool false, .bool false, .bool false, .bool false, .bool false, .bool false, .bool false] 76)) (((((w.alloc (.cells S 45)).alloc (.cells (⟨⟨.slice none 0 0, [], 0⟩, ⟨.slice none 0 0, [], 0⟩, ⟨.slice none 0 0, [], 0⟩, ⟨.slice none 0 0, [], 0⟩, room, -1⟩ : TTape).cells 108)).alloc (.cells #[.slice none 0 0, .int .i64 0] 72)).alloc (.cells #[.slice none 0 0, .slice none 0 0, .slice none 0 0, .slice none 0 0, .slice none 0 0, .slice none 0 0, .slice none 0 0, .slice none 0 0, .bool false, .bool false, .bool false, .bool false, .bool false, .bool false, .bool false, .bool false] 76)).alloc (.cells #[.pointer (some ⟨w.heap.size + 1, 0, none⟩), .pointer none, .pointer (some ⟨w.heap.size + 1 + 1, 0, none⟩), .pointer none, .pointer (some ⟨w.heap.size + 1 + 1 + 1, 0, none⟩), .int .i64 200, .int .i64 0, .bool false, .int .i64 0, .int .i64 0, .int .i64 0] 55)) := (Mod.refl _ _).alloc _
  have h1 := Has.new w S 45
  have h2 := Has.new (w.alloc (.cells S 45)) (⟨⟨.slice none 0 0, [], 0⟩, ⟨.slice none 0 0, [], 0⟩, ⟨.slice none 0 0, [], 0⟩, ⟨.slice none 0 0, [], 0⟩, room, -1⟩ : TTape).cells 108
  have h3 := Has.new ((w.alloc (.cells S 45)).alloc (.cells (⟨⟨.slice none 0 0, [], 0⟩, ⟨.slice none 0 0, [], 0⟩, ⟨.slice none 0 0, [], 0⟩, ⟨.slice none 0 0, [], 0⟩, room, -1⟩ : TTape).cells 108)) #[.slice none 0 0, .int .i64 0] 72
  have h4 := Has.new (((w.alloc (.cells S 45)).alloc (.cells (⟨⟨.slice none 0 0, [], 0⟩, ⟨.slice none 0 0, [], 0⟩, ⟨.slice none 0 0, [], 0⟩, ⟨.slice none 0 0, [], 0⟩, room, -1⟩ : TTape).cells 108)).alloc (.cells #[.slice none 0 0, .int .i64 0] 72)) #[.slice none 0 0, .slice none 0 0, .slice none 0 0, .slice none 0 0, .slice none 0 0, .slice none 0 0, .slice none 0 0, .slice none 0 0, .bool false, .bool false, .bool false, .bool false, .bool false, .bool false, .bool false, .bool false] 76
  have h5 := Has.new ((((w.alloc (.cells S 45)).alloc (.cells (⟨⟨.slice none 0 0, [], 0⟩, ⟨.slice none 0 0, [], 0⟩, ⟨.slice none 0 0, [], 0⟩, ⟨.slice none 0 0, [], 0⟩, room, -1⟩ : TTape).cells 108)).alloc (.cells #[.slice none 0 0, .int .i64 0] 72)).alloc (.cells #[.slice none 0 0, .slice none 0 0, .slice none 0 0, .slice none 0 0, .slice none 0 0, .slice none 0 0, .slice none 0 0, .slice none 0 0, .bool false, .bool false, .bool false, .bool false, .bool false, .bool false, .bool false, .bool false] 76)) #[.pointer (some ⟨w.heap.size + 1, 0, none⟩), .pointer none, .pointer (some ⟨w.heap.size + 1 + 1, 0, none⟩), .pointer none, .pointer (some ⟨w.heap.size + 1 + 1 + 1, 0, none⟩), .int .i64 200, .int .i64 0, .bool false, .int .i64 0, .int .i64 0, .int .i64 0] 55
  simp only [World.size_alloc] at h1 h2 h3 h4 h5
  refine ⟨(((m2.trans m3).trans m4).trans m5).has h1 (fun x => x), ((m3.trans m4).trans m5).has h2 (fun x => x), rfl, (m4.trans m5).has h3 (fun x => x), m5.has h4 (fun x => x), h5, ⟨rfl, rfl, rfl, rfl, rfl, by simp only [World.size_alloc]⟩, (((((Mod.refl No w).alloc _).trans m2).trans m3).trans m4).trans m5⟩

theorem NewX.still {w w5 w6 : World} {bb tb wb tob ob : Nat} {S ts : Array Value} {room : Int} (h : NewX w w5 bb tb wb tob ob S ts room) (hm : Mod No w5 w6) (hs : w6.heap.size = w5.heap.size) : NewX w w6 bb tb wb tob ob S ts room :=
  ⟨hm.has h.box (fun x => x), hm.has h.tape (fun x => x), h.room, hm.has h.wor (fun x => x), hm.has h.told (fun x => x), hm.has h.one (fun x => x), by rw [hs]; exact h.ord, h.mod.trans hm⟩

def newI (tb kb wb tob : Nat) (room : Int) (ts : Array Value) : OneI :=
  { tb := tb, kb := kb, wb := wb, tob := tob, okp := fun k => if k = kb then 1 else 0, owr := fun k => if k = wb then 1 else 0, v := .slice none 0 0, xs := [], now := 0, fl := noFl, room := room, most := 200, ch := 0, n0 := 0, n1 := 0, n2 := 0, ts := ts }

theorem one_new {w w5 w8 : World} {bb tb wb tob ob : Nat} {S ts : Array Value} {room : Int} (h : NewX w w5 bb tb wb tob ob S ts room) (hm : Mod No (((w5.alloc (.cells (keepCells 0 noP) 116)).setCell ⟨ob, 1, none⟩ (.pointer (some ⟨w5.heap.size, 0, none⟩)))) w8) :
    OneX w8 (fun k => bb + 1 ≤ k ∧ k ≤ bb + 5) ob (newI tb w5.heap.size wb tob room ts) ∧ Mod No w w8 ∧ bb + 6 ≤ w8.heap.size := by
  obtain ⟨o1, o2, o3, o4, o5, o6⟩ := h.ord
  have m6 : Mod No w5 (w5.alloc (.cells (keepCells 0 noP) 116)) := (Mod.refl _ _).alloc _
  have m7 : Mod (fun k => k = ob) (w5.alloc (.cells (keepCells 0 noP) 116)) ((w5.alloc (.cells (keepCells 0 noP) 116)).setCell ⟨ob, 1, none⟩ (.pointer (some ⟨w5.heap.size, 0, none⟩))) := (Mod.refl _ _).at 1 _
  have hk := keep_start w5
  have hsz := hm.size
  simp only [World.size_setCell, World.size_alloc] at hsz
  have hone : Has w8 ob (oneV (newI tb w5.heap.size wb tob room ts)) 55 := hm.has ((m6.has h.one (fun x => x)).set 1 _) (fun x => x)
  have ht : Has w8 tb ts 108 := hm.has (m7.has (m6.has h.tape (fun x => x)) (by omega)) (fun x => x)
  have hw : Has w8 wb #[.slice none 0 0, .int .i64 0] 72 := hm.has (m7.has (m6.has h.wor (fun x => x)) (by omega)) (fun x => x)
  refine ⟨⟨hone, ht, h.room, (hk.mod m7 (fun k hk e => by
      by_cases c : k = w5.heap.size
      · omega
      · exact hk (if_neg c))).mod hm (fun _ _ x => x), ⟨hw, .inl ⟨rfl, rfl⟩, if_pos rfl, fun k hk => ?_, fun i hi => absurd hi (Nat.not_lt_zero _), Nat.zero_le _⟩, ⟨List.Pairwise.nil, fun x hx => (by cases hx), fun n hn => rfl⟩, fun _ => rfl, ⟨by omega, by show bb + 1 ≤ tb ∧ tb ≤ bb + 5; omega, fun k hk => ?_, fun k hk => ?_⟩, ⟨?_, ?_, ?_, ?_, by show ob ≠ tb; omega, fun k hk => ?_⟩, fun k hk => by omega, Int.le_refl _, by show (0 : Int) ≤ 100 * 0; omega, Int.le_refl _, by show (0 : Int) ≤ 200 ∧ (200 : Int) ≤ 1000000; omega⟩, ?_, by omega⟩
  · by_cases c : k = wb
    · omega
    · exact absurd (if_neg c) hk
  · by_cases c : k = w5.heap.size
    · omega
    · exact absurd (if_neg c) hk
  · by_cases c : k = wb
    · omega
    · exact absurd (if_neg c) hk
  · exact if_neg (by omega)
  · exact if_neg (by show ¬ tb = w5.heap.size; omega)
  · exact if_neg (by omega)
  · exact if_neg (by show ¬ tb = wb; omega)
  · by_cases c : k = w5.heap.size
    · exact if_neg (by omega)
    · exact absurd (if_neg c) hk
  · exact ((h.mod.trans m6).trans' m7 (fun k hk hl => by omega)).trans hm

theorem infoOne : (Tryz.prog.info? 48).map (fun i => (i.zero, i.size, i.bytes)) = some (some (.pointer none), 1, 8) := by kernel_rfl
theorem reads_ptr (w : World) (T : TypeId) (ob : Nat) : Reads (w.alloc (.cells #[ptrTo ob] T)) (.slice (some ⟨w.heap.size, 0, none⟩) 1 1) 1 [ptrTo ob] :=
  .inr ⟨⟨w.heap.size, 0, none⟩, 1, rfl, fun j u hu => by
    have hN := Has.new w #[ptrTo ob] T
    rw [Addr.add_mid, Nat.zero_add, hN.cell, ← Array.getElem?_toList]
    exact hu⟩

theorem opened_end {w0 w w8 w10 : World} {who : Nat → Nat} {yb bb tb kb wb tob ob n c8 c10 : Nat} {a8 a10 : Option Addr} {av bv : Value} {os : List Nat} {room : Int} {ts : Array Value} (h : PlayX w0 w who yb (.slice a8 os.length c8) av bv os n)
    (hN : OneX w8 (fun k => bb + 1 ≤ k ∧ k ≤ bb + 5) ob (newI tb kb wb tob room ts) ∧ Mod No w w8 ∧ bb + 6 ≤ w8.heap.size) (h8 : PlayX w0 w8 who yb (.slice a8 os.length c8) av bv os n) (hbb : w.heap.size = bb)
    (ho : w10.ownsRow 0 48 1 (.slice a10 (os.length + 1) c10) (os.length + 1) (os.map ptrTo ++ [ptrTo ob])) (hg : (w8.alloc (.cells #[ptrTo ob] 48)).grownBy w10 (Value.slice a8 os.length c8).ownBlock) (hs : Stays (w8.alloc (.cells #[ptrTo ob] 48)) (.slice a8 os.length c8) (.slice a10 (os.length + 1) c10)) :
    PlayD w0 (w10.setCell ⟨yb, 0, none⟩ (.slice a10 (os.length + 1) c10)) yb av bv n := by
  obtain ⟨hN1, hN2, hN3⟩ := hN
  have hyb := h.has.lt
  have hrow := fun k hk => owns_lt h.row k hk
  have m9 : Mod (fun k => k = yb ∨ (Value.slice a8 os.length c8).ownBlock = some k) w8 w10 := ((Mod.refl _ w8).alloc _).grown hg (fun k hk => .inl (.inr hk))
  have mY : Mod (fun k => k = yb ∨ (Value.slice a8 os.length c8).ownBlock = some k) w10 (w10.setCell ⟨yb, 0, none⟩ (.slice a10 (os.length + 1) c10)) := (Mod.refl _ w10).setCell (p := ⟨yb, 0, none⟩) (.inl (.inl rfl)) _
  have mm := m9.trans mY
  have hw : Mod (fun k => k = yb ∨ (Value.slice a8 os.length c8).ownBlock = some k) w (w10.setCell ⟨yb, 0, none⟩ (.slice a10 (os.length + 1) c10)) := (hN2.mono (fun _ _ x => x.elim)).trans mm
  have hny : ∀ k, (bb + 1 ≤ k ∧ k ≤ bb + 5) → ¬ (k = yb ∨ (Value.slice a8 os.length c8).ownBlock = some k) := fun k hk e => by
    rcases e with rfl | e
    · omega
    · have := hrow k e; omega
  have hst : ∀ k, (Value.slice a10 (os.length + 1) c10).ownBlock = some k → (Value.slice a8 os.length c8).ownBlock = some k ∨ bb + 6 ≤ k := fun k hk => by
    rcases hs k hk with e | e
    · exact .inl e
    · rw [World.size_alloc] at e
      exact .inr (by omega)
  have hnew := hN1.mod mm hny
  have hh : Has (w10.setCell ⟨yb, 0, none⟩ (.slice a10 (os.length + 1) c10)) yb #[.slice a10 (os.length + 1) c10, av, bv] 34 := by
    have h1 := Has.grown (((Mod.refl No w8).alloc (.cells #[ptrTo ob] 48)).has h8.has (fun x => x)) hg (fun e => (h.lv0 yb e.symm).2.2 rfl)
    exact h1.set 0 (.slice a10 (os.length + 1) c10)
  have hyn : (Value.slice a10 (os.length + 1) c10).ownBlock ≠ some yb := fun e => by
    rcases hst yb e with q | q
    · exact (h.lv0 yb q).2.2 rfl
    · omega
  obtain ⟨who', q1, q2⟩ := h.add (I := newI tb kb wb tob room ts) (by show (0 : Int) ≤ (n : Int); omega) hnew (fun k hk => by omega) hw hh (owns_setCell_ne ho (a := ⟨yb, 0, none⟩) hyn _) (fun k hk => by
    rcases hst k hk with q | q
    · exact ⟨fun e => by have := hrow k q; omega, .inl q⟩
    · exact ⟨fun e => by omega, .inr (by omega)⟩)
  exact ⟨⟨who', _, _, q1⟩⟩

theorem opened_any {w0 w : World} {who : Nat → Nat} {yb : Nat} {lv av bv : Value} {os : List Nat} {n : Nat} (h : PlayX w0 w who yb lv av bv os n) (hn : n ≤ 1099511627776) {S : Array Value} {room : Int} (hS : OpV S 1 room 0) :
    Calls Tryz.prog 12 #[.pointer (some ⟨yb, 0, none⟩), .agg S] w fun e w' => e = .returned (.bool true) ∧ PlayD w0 w' yb av bv n := by
  have B0 := Has.new w S 45
  have b2 := (B0.cell 2).trans hS.b2
  have b3 := (B0.cell 3).trans hS.c3
  have bl := B0.lt
  have HH := hide h
  have HB := hide B0
  have M0 := hide ((Mod.refl No w).alloc (.cells S 45))
  clear h B0
  go_enter Tryz.func12, Tryz.ntmps12
  go_wp2_with fail
  refine (new_any _ _).mono ?_
  rintro e w1 ⟨rfl, rfl⟩
  go_upto_region 2 with fail
  have NX := hide (newX w S room)
  clear b2 b3 bl HB M0
  generalize (((((w.alloc (.cells S 45)).alloc (.cells (⟨⟨.slice none 0 0, [], 0⟩, ⟨.slice none 0 0, [], 0⟩, ⟨.slice none 0 0, [], 0⟩, ⟨.slice none 0 0, [], 0⟩, room, -1⟩ : TTape).cells 108)).alloc (.cells #[.slice none 0 0, .int .i64 0] 72)).alloc (.cells #[.slice none 0 0, .slice none 0 0, .slice none 0 0, .slice none 0 0, .slice none 0 0, .slice none 0 0, .slice none 0 0, .slice none 0 0, .bool false, .bool false, .bool false, .bool false, .bool false, .bool false, .bool false, .bool false] 76)).alloc (.cells #[.pointer (some ⟨w.heap.size + 1, 0, none⟩), .pointer none, .pointer (some ⟨w.heap.size + 1 + 1, 0, none⟩), .pointer none, .pointer (some ⟨w.heap.size + 1 + 1 + 1, 0, none⟩), .int .i64 200, .int .i64 0, .bool false, .int .i64 0, .int .i64 0, .int .i64 0] 55)) = w5 at *
  generalize w.heap.size + 1 + 1 + 1 + 1 = ob at *
  generalize w.heap.size + 1 + 1 + 1 = tob at *
  generalize w.heap.size + 1 + 1 = wb at *
  generalize w.heap.size + 1 = tb at *
  generalize w.heap.size = bb at *
  generalize (⟨⟨.slice none 0 0, [], 0⟩, ⟨.slice none 0 0, [], 0⟩, ⟨.slice none 0 0, [], 0⟩, ⟨.slice none 0 0, [], 0⟩, room, -1⟩ : TTape).cells = ts at *
  have b2 : w5.cell? ⟨bb, 2, none⟩ = some (.int .i64 room) := ((unhide NX).box.cell 2).trans hS.b2
  have b3 : w5.cell? ⟨bb, 3, none⟩ = some (.int .i64 0) := ((unhide NX).box.cell 3).trans hS.c3
  have bl := (unhide NX).box.lt
  have o0 : w5.cell? ⟨ob, 0, none⟩ = some (.pointer (some ⟨tb, 0, none⟩)) := (unhide NX).one.cell 0
  have ol := (unhide NX).one.lt
  by_cases hr : room < 200
  · have HOP := hide (open_low tb room ts w5 (unhide NX).tape (unhide NX).room hr)
    have hrb : decide (room < 200) = true := by simpa using hr
    go_wp2_with fail
    refine (unhide HOP).mono ?_
    rintro e w6 ⟨rfl, rfl⟩
    have FIN := hide (show PlayD w0 w6 yb av bv n from ⟨⟨who, lv, os, ((unhide HH).still (unhide NX).mod).more⟩⟩)
    clear HOP NX HH
    go_wp2
    go_ret
    exact ⟨rfl, unhide FIN⟩
  · have HOP := hide (open_walk tb room ts w5 (unhide NX).tape (unhide NX).room hr)
    have hrb : decide (room < 200) = false := by simpa using hr
    go_wp2_with fail
    refine (unhide HOP).mono ?_
    rintro e w6 ⟨rfl, rfl⟩
    have NK := hide fun w8 hm => one_new (w8 := w8) (unhide NX) hm
    have m6 : Mod No w5 (w5.alloc (.cells (keepCells 0 noP) 116)) := (Mod.refl _ _).alloc _
    have b26 : (w5.alloc (.cells (keepCells 0 noP) 116)).cell? ⟨bb, 2, none⟩ = some (.int .i64 room) := mod_cell0 m6 b2
    have bl6 := Nat.lt_of_lt_of_le bl m6.size
    have h16 := m6.has (unhide NX).one (fun x => x)
    have c16 : (w5.alloc (.cells (keepCells 0 noP) 116)).cell? ⟨ob, 1, none⟩ = some (.pointer none) := h16.cell 1
    have c56 : (w5.alloc (.cells (keepCells 0 noP) 116)).cell? ⟨ob, 5, none⟩ = some (.int .i64 200) := h16.cell 5
    have f16 := h16.frozen
    have l16 := h16.lt
    have hord := (unhide NX).ord
    have hbo : bb ≠ ob := by omega
    have HORD := hide hord.1
    clear HOP b2 b3 bl o0 ol h16 m6 hord
    generalize hkb : w5.heap.size = kb at *
    generalize hw6 : w5.alloc (.cells (keepCells 0 noP) 116) = w6 at *
    clear hw6 hkb
    have HFI := hide fun n => rfits_any 200 0 room (by omega) (by omega) ((w6.setCell ⟨ob, 1, none⟩ (.pointer (some ⟨kb, 0, none⟩))).drewN n)
    go_upto_region 8 with fail
    go_cut [8] (fun s wx => (∃ b, s = .bool b) ∧ ∃ n, wx = (w6.setCell ⟨ob, 1, none⟩ (.pointer (some ⟨kb, 0, none⟩))).drewN n)
    case first =>
      go_quiet ((go_at_call 21; exact Calls.quiet_of_same ((unhide HFI) _)))
      go_wp2
      go_meet
      exact ⟨⟨_, rfl⟩, _, rfl⟩
    case rest =>
      obtain ⟨⟨bz, rfl⟩, n8, rfl⟩ := hcut
      apply_assumption
      have N8 := hide ((unhide NK) ((w6.setCell ⟨ob, 1, none⟩ (.pointer (some ⟨kb, 0, none⟩))).drewN n8) ((Mod.refl _ _).drewN n8))
      clear NK HFI b26 bl6 c16 c56 f16 l16
      generalize (w6.setCell ⟨ob, 1, none⟩ (.pointer (some ⟨kb, 0, none⟩))).drewN n8 = w8 at *
      have hp8 := ((unhide HH).still (unhide N8).2.1)
      have HP8 := hide hp8
      obtain ⟨a8, c8, rfl⟩ := slice_of_owns hp8.row
      have y8 : w8.cell? ⟨yb, 0, none⟩ = some (.slice a8 os.length c8) := hp8.has.cell 0
      have yl8 := hp8.has.lt
      have yf8 := hp8.has.frozen
      have m9 : Mod No w8 (w8.alloc (.cells #[ptrTo ob] 48)) := (Mod.refl _ _).alloc _
      have HO9 := hide (m9.owns hp8.row (fun _ _ x => x))
      have HR9 := hide (reads_ptr w8 48 ob)
      have HY9 := hide (m9.has hp8.has (fun x => x))
      have hcnt := hp8.cnt
      have HNE := hide (show Option.some yb ≠ (Value.slice a8 os.length c8).ownBlock from fun e => (hp8.lv0 yb e.symm).2.2 rfl)
      have hp1 : ∀ u ∈ [ptrTo ob], u.oneCell' = true := fun u hu => by simp at hu; subst hu; rfl
      have HP1 := hide hp1
      obtain ⟨ip, p0, p1, p2, p3⟩ := info_parts infoOne
      clear hp8 m9 hp1
      unfold ptrTo at HO9 HR9 HY9 HP1
      go_wp2_with (at_builtin; refine wpList_append_row rfl (.tmp 70) (.tmp 72) 28 rfl 48 ip _ 1 8 Tryz.underlying28 p0 p1 p2 p3 rfl (by decide) (.slice a8 os.length c8) os.length (os.map ptrTo) (by simp [Act.eval]) (by exact unhide HO9) (.slice (some ⟨w8.heap.size, 0, none⟩) 1 1) 1 [.pointer (some ⟨ob, 0, none⟩)] (by simp [Act.eval]) (by exact unhide HR9) rfl (unhide HP1) (by unfold maxLen; omega) (by omega) ?_; intro v10 w10 ho10 hg10 hs10; obtain ⟨a10, c10, rfl⟩ := slice_of_owns ho10; have hy10 := Has.grown (unhide HY9) hg10 (unhide HNE); have y10 := hy10.cell 0; have yl10 := hy10.lt; have yf10 := hy10.frozen)
      have FIN := hide (opened_end (unhide HH) (unhide N8) (unhide HP8) (unhide HORD) ho10 hg10 hs10)
      clear ho10 hg10 hs10 hy10 HO9 HR9 HY9 HP8 N8 HH
      go_wp2
      go_ret
      exact ⟨rfl, unhide FIN⟩
end Go.Proofs.YtlcbemcamdafjaaGreat
