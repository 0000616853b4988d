import Derived.Test.YthhibagcpjeihaaGreatHPg5ToLaw8
namespace Go.Proofs.YthhibagcpjeihaaGreat
open Go.RowKit
open M
set_option linter.unusedVariables false
set_option linter.unusedSimpArgs false
set_option maxRecDepth 100000
set_option maxHeartbeats 4000000
structure PlayD (P : Nat → OneI → Prop) (B : World → (Nat → Prop) → Prop) (w0 w' : World) (yb : Nat) (av bv : Value) (n : Nat) : Prop where
 ex : ∃ who' lv' os', PlayX P B w0 w' who' yb lv' av bv os' (n + 1)
structure NewX (w w5 : World) (bb tb wb tob ob : Nat) (S : Array Value) (room : Int) : Prop where
 box : Has w5 bb S 45
 tape : TapeH w5 (fun k => k = tb) tb ⟨fun _ => [], fun _ => 0, room, -1⟩
 wor : Has w5 wb #[.slice none 0 0, .int .i64 0] 72
 told : Has w5 tob #[.slice none 0 0, .slice none 0 0, .slice none 0 0, .slice none 0 0, .slice none 0 0, .slice none 0 0, .slice none 0 0, .slice none 0 0, .bool false, .bool false, .bool false, .bool false, .bool false, .bool false, .bool false, .bool false] 76
 one : Has w5 ob #[.pointer (some ⟨tb, 0, none⟩), .pointer none, .pointer (some ⟨wb, 0, none⟩), .pointer none, .pointer (some ⟨tob, 0, none⟩), .int .i64 200, .int .i64 0, .bool false, .int .i64 0, .int .i64 0, .int .i64 0] 55
 ord : w.heap.size = bb ∧ tb = bb + 1 ∧ wb = bb + 2 ∧ tob = bb + 3 ∧ ob = bb + 4 ∧ w5.heap.size = bb + 5
 mod : Mod No w w5
theorem newX (w : World) (S : Array Value) (room : Int) : NewX w (((((w.alloc (.cells S 45)).alloc (.cells (⟨⟨.slice none 0 0, [], 0⟩, ⟨.slice none 0 0, [], 0⟩, ⟨.slice none 0 0, [], 0⟩, ⟨.slice none 0 0, [], 0⟩, room, -1⟩ : TTape).cells 108)).alloc (.cells #[.slice none 0 0, .int .i64 0] 72)).alloc (.cells #[.slice none 0 0, .slice none 0 0, .slice none 0 0, .slice none 0 0, .slice none 0 0, .slice none 0 0, .slice none 0 0, .slice none 0 0, .bool false, .bool false, .bool false, .bool false, .bool false, .bool false, .bool false, .bool false] 76)).alloc (.cells #[.pointer (some ⟨w.heap.size + 1, 0, none⟩), .pointer none, .pointer (some ⟨w.heap.size + 1 + 1, 0, none⟩), .pointer none, .pointer (some ⟨w.heap.size + 1 + 1 + 1, 0, none⟩), .int .i64 200, .int .i64 0, .bool false, .int .i64 0, .int .i64 0, .int .i64 0] 55)) w.heap.size (w.heap.size + 1) (w.heap.size + 1 + 1) (w.heap.size + 1 + 1 + 1) (w.heap.size + 1 + 1 + 1 + 1) S room := by
 have m2 : Mod No (w.alloc (.cells S 45)) ((w.alloc (.cells S 45)).alloc (.cells (⟨⟨.slice none 0 0, [], 0⟩, ⟨.slice none 0 0, [], 0⟩, ⟨.slice none 0 0, [], 0⟩, ⟨.slice none 0 0, [], 0⟩, room, -1⟩ : TTape).cells 108)) := (Mod.refl _ _).alloc _
 have m3 : Mod No ((w.alloc (.cells S 45)).alloc (.cells (⟨⟨.slice none 0 0, [], 0⟩, ⟨.slice none 0 0, [], 0⟩, ⟨.slice none 0 0, [], 0⟩, ⟨.slice none 0 0, [], 0⟩, room, -1⟩ : TTape).cells 108)) (((w.alloc (.cells S 45)).alloc (.cells (⟨⟨.slice none 0 0, [], 0⟩, ⟨.slice none 0 0, [], 0⟩, ⟨.slice none 0 0, [], 0⟩, ⟨.slice none 0 0, [], 0⟩, room, -1⟩ : TTape).cells 108)).alloc (.cells #[.slice none 0 0, .int .i64 0] 72)) := (Mod.refl _ _).alloc _
 have m4 : Mod No (((w.alloc (.cells S 45)).alloc (.cells (⟨⟨.slice none 0 0, [], 0⟩, ⟨.slice none 0 0, [], 0⟩, ⟨.slice none 0 0, [], 0⟩, ⟨.slice none 0 0, [], 0⟩, room, -1⟩ : TTape).cells 108)).alloc (.cells #[.slice none 0 0, .int .i64 0] 72)) ((((w.alloc (.cells S 45)).alloc (.cells (⟨⟨.slice none 0 0, [], 0⟩, ⟨.slice none 0 0, [], 0⟩, ⟨.slice none 0 0, [], 0⟩, ⟨.slice none 0 0, [], 0⟩, room, -1⟩ : TTape).cells 108)).alloc (.cells #[.slice none 0 0, .int .i64 0] 72)).alloc (.cells #[.slice none 0 0, .slice none 0 0, .slice none 0 0, .slice none 0 0, .slice none 0 0, .slice none 0 0, .slice none 0 0, .slice none 0 0, .bool false, .bool false, .bool false, .bool false, .bool false, .bool false, .bool false, .bool false] 76)) := (Mod.refl _ _).alloc _
 have m5 : Mod No ((((w.alloc (.cells S 45)).alloc (.cells (⟨⟨.slice none 0 0, [], 0⟩, ⟨.slice none 0 0, [], 0⟩, ⟨.slice none 0 0, [], 0⟩, ⟨.slice none 0 0, [], 0⟩, room, -1⟩ : TTape).cells 108)).alloc (.cells #[.slice none 0 0, .int .i64 0] 72)).alloc (.cells #[.slice none 0 0, .slice none 0 0, .slice none 0 0, .slice none 0 0, .slice none 0 0, .slice none 0 0, .slice none 0 0, .slice none 0 0, .bool false, .bool false, .bool false, .bool false, .bool false, .bool false, .bool false, .bool false] 76)) (((((w.alloc (.cells S 45)).alloc (.cells (⟨⟨.slice none 0 0, [], 0⟩, ⟨.slice none 0 0, [], 0⟩, ⟨.slice none 0 0, [], 0⟩, ⟨.slice none 0 0, [], 0⟩, room, -1⟩ : TTape).cells 108)).alloc (.cells #[.slice none 0 0, .int .i64 0] 72)).alloc (.cells #[.slice none 0 0, .slice none 0 0, .slice none 0 0, .slice none 0 0, .slice none 0 0, .slice none 0 0, .slice none 0 0, .slice none 0 0, .bool false, .bool false, .bool false, .bool false, .bool false, .bool false, .bool false, .bool false] 76)).alloc (.cells #[.pointer (some ⟨w.heap.size + 1, 0, none⟩), .pointer none, .pointer (some ⟨w.heap.size + 1 + 1, 0, none⟩), .pointer none, .pointer (some ⟨w.heap.size + 1 + 1 + 1, 0, none⟩), .int .i64 200, .int .i64 0, .bool false, .int .i64 0, .int .i64 0, .int .i64 0] 55)) := (Mod.refl _ _).alloc _
 have h1 := Has.new w S 45
 have h2 := tape_new (w.alloc (.cells S 45)) room
 have h3 := Has.new ((w.alloc (.cells S 45)).alloc (.cells (⟨⟨.slice none 0 0, [], 0⟩, ⟨.slice none 0 0, [], 0⟩, ⟨.slice none 0 0, [], 0⟩, ⟨.slice none 0 0, [], 0⟩, room, -1⟩ : TTape).cells 108)) #[.slice none 0 0, .int .i64 0] 72
 have h4 := Has.new (((w.alloc (.cells S 45)).alloc (.cells (⟨⟨.slice none 0 0, [], 0⟩, ⟨.slice none 0 0, [], 0⟩, ⟨.slice none 0 0, [], 0⟩, ⟨.slice none 0 0, [], 0⟩, room, -1⟩ : TTape).cells 108)).alloc (.cells #[.slice none 0 0, .int .i64 0] 72)) #[.slice none 0 0, .slice none 0 0, .slice none 0 0, .slice none 0 0, .slice none 0 0, .slice none 0 0, .slice none 0 0, .slice none 0 0, .bool false, .bool false, .bool false, .bool false, .bool false, .bool false, .bool false, .bool false] 76
 have h5 := Has.new ((((w.alloc (.cells S 45)).alloc (.cells (⟨⟨.slice none 0 0, [], 0⟩, ⟨.slice none 0 0, [], 0⟩, ⟨.slice none 0 0, [], 0⟩, ⟨.slice none 0 0, [], 0⟩, room, -1⟩ : TTape).cells 108)).alloc (.cells #[.slice none 0 0, .int .i64 0] 72)).alloc (.cells #[.slice none 0 0, .slice none 0 0, .slice none 0 0, .slice none 0 0, .slice none 0 0, .slice none 0 0, .slice none 0 0, .slice none 0 0, .bool false, .bool false, .bool false, .bool false, .bool false, .bool false, .bool false, .bool false] 76)) #[.pointer (some ⟨w.heap.size + 1, 0, none⟩), .pointer none, .pointer (some ⟨w.heap.size + 1 + 1, 0, none⟩), .pointer none, .pointer (some ⟨w.heap.size + 1 + 1 + 1, 0, none⟩), .int .i64 200, .int .i64 0, .bool false, .int .i64 0, .int .i64 0, .int .i64 0] 55
 simp only [World.size_alloc] at h1 h2 h3 h4 h5
 refine ⟨(((m2.trans m3).trans m4).trans m5).has h1 (fun x => x), h2.mod0 ((m3.trans m4).trans m5), (m4.trans m5).has h3 (fun x => x), m5.has h4 (fun x => x), h5, ⟨rfl, rfl, rfl, rfl, rfl, by simp only [World.size_alloc]⟩, (((((Mod.refl No w).alloc _).trans m2).trans m3).trans m4).trans m5⟩
def newI (tb kb wb tob : Nat) (room : Int) : OneI :=
 {kb := some kb, W := ⟨wb, fun k => if k = wb then 1 else 0, .slice none 0 0, [], 0, noFl⟩, mb := none, tob := tob, okp := fun k => if k = kb then 1 else if k = tb then 30 else 0, owt := fun k => if k = tob then 1 else 0, om := fun _ => 0, now := 0, fl := noFl,
  K := ⟨tb, 0, false, true, ⟨fun _ => [], fun _ => 0, room, -1⟩⟩, most := 200, ch := 0, sh := false, n0 := 0, n1 := 0, n2 := 0, tl := fun _ => none, vs := fun _ => .slice none 0 0, ns := fun _ => [], bs := fun _ => false }
theorem one_new {w w5 w6 w8 : World} {bb tb wb tob ob kb : Nat} {S : Array Value} {room : Int} (h : NewX w w5 bb tb wb tob ob S room) (ho : OpenedX w5 w6 (fun k => k = tb) kb tb ⟨fun _ => [], fun _ => 0, room, -1⟩) (hm : Mod No (w6.setCell ⟨ob, 1, none⟩ (.pointer (some ⟨kb, 0, none⟩))) w8) :
  OneX w8 (fun k => bb + 1 ≤ k ∧ k < w8.heap.size) ob (newI tb kb wb tob room) ∧ Mod No w w8 ∧ bb + 6 ≤ w8.heap.size := by
 obtain ⟨o1, o2, o3, o4, o5, o6⟩ := h.ord
 have hkn := ho.new
 have hkl := ho.has.lt
 have m6 := ho.mod
 have m7 : Mod (fun k => k = ob) w6 (w6.setCell ⟨ob, 1, none⟩ (.pointer (some ⟨kb, 0, none⟩))) := (Mod.refl _ _).at 1 _
 have hsz := hm.size
 simp only [World.size_setCell] at hsz
 have hs6 := m6.size
 have mm : Mod (fun k => k = tb ∨ k = ob) w5 w8 := ((m6.mono (fun k _ e => Or.inl e)).trans (m7.mono (fun k _ e => Or.inr e))).trans (hm.mono (fun _ _ x => x.elim))
 have hone : Has w8 ob (oneV (newI tb kb wb tob room)) 55 := hm.has ((m6.has h.one (by omega)).set 1 _) (fun x => x)
 have hw : Has w8 wb #[.slice none 0 0, .int .i64 0] 72 := mm.has h.wor (by omega)
 have ht : Has w8 tob (tolC (fun _ => .slice none 0 0) (fun _ => false)) 76 := mm.has h.told (by omega)
 have hk6 := ho.keep (fun k hk => by rw [hk, o6, o2]; omega) (newI tb kb wb tob room).okp (if_pos rfl) (fun k hk => by
  show (if k = kb then 1 else if k = tb then 30 else 0) = 30
  rw [if_neg (by omega), if_pos hk]) (fun k hk => by
  have hk : (if k = kb then 1 else if k = tb then 30 else 0) ≠ 0 := hk
  by_cases e : k = kb
  ·exact .inl e
  ·rw [if_neg e] at hk
   by_cases e2 : k = tb
   ·exact .inr e2
   ·rw [if_neg e2] at hk; exact absurd rfl hk)
 have hok : ∀ k, (newI tb kb wb tob room).okp k ≠ 0 → k = kb ∨ k = tb := fun k hk => by
  have hk : (if k = kb then 1 else if k = tb then 30 else 0) ≠ 0 := hk
  by_cases e : k = kb
  ·exact .inl e
  ·rw [if_neg e] at hk
   by_cases e2 : k = tb
   ·exact .inr e2
   ·rw [if_neg e2] at hk; exact absurd rfl hk
 have hk8 := (hk6.mod m7 (fun k hk e => by rcases hok k hk with q | q <;> omega)).mod0 hm
 refine ⟨⟨hone, ⟨fun b hb => ?_, fun hn => (by cases hn)⟩, ⟨⟨hw, .inl ⟨rfl, rfl⟩, if_pos rfl, fun k hk => ?_, fun i hi => absurd hi (Nat.not_lt_zero _), Nat.zero_le _⟩, ⟨List.Pairwise.nil, fun x hx => (by cases hx), fun n hn => rfl⟩, fun _ => rfl⟩, fun M hM => (by cases hM), ⟨ht, fun i hi => World.ownsRow_nil _ _ _ _, fun i hi k hk => by simp [newI, Value.ownBlock] at hk, if_pos rfl⟩, ?_, fun k hk => hk.2⟩, ?_, by omega⟩
 ·obtain rfl : kb = b := by injection hb
  exact ⟨⟨_, hk8⟩, ⟨fun i hi _ => by
   rw [(hk8.keep.has).cell]
   have : i = 0 ∨ i = 1 ∨ i = 2 ∨ i = 3 ∨ i = 4 ∨ i = 5 ∨ i = 6 ∨ i = 7 := by omega
   rcases this with rfl | rfl | rfl | rfl | rfl | rfl | rfl | rfl <;> rfl, fun i hi es ht => (by cases ht), fun k hk => absurd rfl hk⟩⟩
 ·have hk : (if k = wb then 1 else 0) ≠ 0 := hk
  by_cases c : k = wb
  ·omega
  ·exact absurd (if_neg c) hk
 ·refine ⟨fun k => if k = ob then 1 else if k = kb ∨ k = tb then 2 else if k = wb then 3 else if k = tob then 4 else 0, if_pos rfl, fun k hk => ?_, fun k hk => ?_, fun k hk => ?_, fun k hk => absurd rfl hk, fun M hM => (by cases hM), fun k hk => ?_⟩
  ·have := hok k hk
   show (if k = ob then 1 else if k = kb ∨ k = tb then 2 else if k = wb then 3 else if k = tob then 4 else 0) = 2
   rw [if_neg (by omega), if_pos this]
  ·have hk : (if k = wb then 1 else 0) ≠ 0 := hk
   have c : k = wb := by
    by_cases c : k = wb
    ·exact c
    ·exact absurd (if_neg c) hk
   show (if k = ob then 1 else if k = kb ∨ k = tb then 2 else if k = wb then 3 else if k = tob then 4 else 0) = 3
   rw [if_neg (by omega), if_neg (by omega), if_pos c]
  ·have hk : (if k = tob then 1 else 0) ≠ 0 := hk
   have c : k = tob := by
    by_cases c : k = tob
    ·exact c
    ·exact absurd (if_neg c) hk
   show (if k = ob then 1 else if k = kb ∨ k = tb then 2 else if k = wb then 3 else if k = tob then 4 else 0) = 4
   rw [if_neg (by omega), if_neg (by omega), if_neg (by omega), if_pos c]
  ·have hk : (if k = ob then 1 else if k = kb ∨ k = tb then 2 else if k = wb then 3 else if k = tob then 4 else 0) ≠ 0 := hk
   by_cases a1 : k = ob
   ·omega
   by_cases a2 : k = kb ∨ k = tb
   ·omega
   by_cases a3 : k = wb
   ·omega
   by_cases a4 : k = tob
   ·omega
   ·rw [if_neg a1, if_neg a2, if_neg a3, if_neg a4] at hk; exact absurd rfl hk
 ·exact (h.mod.trans' mm (fun k hk hl => by omega))
theorem infoOne : (Tryz.prog.info? 48).map (fun i => (i.zero, i.size, i.bytes)) = some (some (.pointer none), 1, 8) := by kernel_rfl
theorem reads_ptr (w : World) (T : TypeId) (ob : Nat) : Reads (w.alloc (.cells #[ptrTo ob] T)) (.slice (some ⟨w.heap.size, 0, none⟩) 1 1) 1 [ptrTo ob] :=
 .inr ⟨⟨w.heap.size, 0, none⟩, 1, rfl, fun j u hu => by
  have hN := Has.new w #[ptrTo ob] T
  rw [Addr.add_mid, Nat.zero_add, hN.cell, ← Array.getElem?_toList]
  exact hu⟩
theorem opened_end {P : Nat → OneI → Prop} {B : World → (Nat → Prop) → Prop} (hB : BookOk B) (hP : ∀ n I, P n I → P (n + 1) I) {w0 w w8 w10 : World} {who : Nat → Nat} {yb bb tb kb wb tob ob n c8 c10 : Nat} {a8 a10 : Option Addr} {av bv : Value} {os : List Nat} {room : Int} (hPN : P (n + 1) (newI tb kb wb tob room)) (h : PlayX P B w0 w who yb (.slice a8 os.length c8) av bv os n)
  (hN : OneX w8 (fun k => bb + 1 ≤ k ∧ k < w8.heap.size) ob (newI tb kb wb tob room) ∧ Mod No w w8 ∧ bb + 6 ≤ w8.heap.size) (h8 : PlayX P B w0 w8 who yb (.slice a8 os.length c8) av bv os n) (hbb : w.heap.size = bb)
  (ho : w10.ownsRow 0 48 1 (.slice a10 (os.length + 1) c10) (os.length + 1) (os.map ptrTo ++ [ptrTo ob])) (hg : (w8.alloc (.cells #[ptrTo ob] 48)).grownBy w10 (Value.slice a8 os.length c8).ownBlock) (hs : Stays (w8.alloc (.cells #[ptrTo ob] 48)) (.slice a8 os.length c8) (.slice a10 (os.length + 1) c10)) :
  PlayD P B w0 (w10.setCell ⟨yb, 0, none⟩ (.slice a10 (os.length + 1) c10)) yb av bv n := by
 obtain ⟨hN1, hN2, hN3⟩ := hN
 have hyb := h.has.lt
 have hrow := fun k hk => owns_lt h.row k hk
 have m9 : Mod (fun k => k = yb ∨ (Value.slice a8 os.length c8).ownBlock = some k) w8 w10 := ((Mod.refl _ w8).alloc _).grown hg (fun k hk => .inl (.inr hk))
 have mY : Mod (fun k => k = yb ∨ (Value.slice a8 os.length c8).ownBlock = some k) w10 (w10.setCell ⟨yb, 0, none⟩ (.slice a10 (os.length + 1) c10)) := (Mod.refl _ w10).setCell (p := ⟨yb, 0, none⟩) (.inl (.inl rfl)) _
 have mm := m9.trans mY
 have hw : Mod (fun k => k = yb ∨ (Value.slice a8 os.length c8).ownBlock = some k) w (w10.setCell ⟨yb, 0, none⟩ (.slice a10 (os.length + 1) c10)) := (hN2.mono (fun _ _ x => x.elim)).trans mm
 have hny : ∀ k, (bb + 1 ≤ k ∧ k < w8.heap.size) → ¬ (k = yb ∨ (Value.slice a8 os.length c8).ownBlock = some k) := fun k hk e => by
  rcases e with rfl | e
  ·omega
  ·have := hrow k e; omega
 have hst : ∀ k, (Value.slice a10 (os.length + 1) c10).ownBlock = some k → (Value.slice a8 os.length c8).ownBlock = some k ∨ w8.heap.size ≤ k := fun k hk => by
  rcases hs k hk with e | e
  ·exact .inl e
  ·rw [World.size_alloc] at e
   exact .inr (by omega)
 have hnew := hN1.mod mm hny
 have hh : Has (w10.setCell ⟨yb, 0, none⟩ (.slice a10 (os.length + 1) c10)) yb #[.slice a10 (os.length + 1) c10, av, bv] 34 := by
  have h1 := Has.grown (((Mod.refl No w8).alloc (.cells #[ptrTo ob] 48)).has h8.has (fun x => x)) hg (fun e => (h.lv0 yb e.symm).2.2 rfl)
  exact h1.set 0 (.slice a10 (os.length + 1) c10)
 have hyn : (Value.slice a10 (os.length + 1) c10).ownBlock ≠ some yb := fun e => by
  rcases hst yb e with q | q
  ·exact (h.lv0 yb q).2.2 rfl
  ·omega
 obtain ⟨who', q1, q2⟩ := h.add hB hP (I := newI tb kb wb tob room) hPN hnew (fun k hk => by omega) hw hh (owns_setCell_ne ho (a := ⟨yb, 0, none⟩) hyn _) (fun k hk => by
  rcases hst k hk with q | q
  ·exact ⟨fun e => by have := hrow k q; omega, .inl q⟩
  ·exact ⟨fun e => by omega, .inr (by omega)⟩)
 exact ⟨⟨who', _, _, q1⟩⟩
theorem opened_any {P : Nat → OneI → Prop} {B : World → (Nat → Prop) → Prop} (hB : BookOk B) (hP : ∀ n I, P n I → P (n + 1) I) {w0 w : World} {who : Nat → Nat} {yb : Nat} {lv av bv : Value} {os : List Nat} {n : Nat} (h : PlayX P B w0 w who yb lv av bv os n) (hn : n ≤ 1099511627776) {S : Array Value} {room : Int} (hS : OpV S 1 room 0) (hPN : ∀ tb kb wb tob, ¬ room < 200 → P (n + 1) (newI tb kb wb tob room)) :
  Calls Tryz.prog 12 #[.pointer (some ⟨yb, 0, none⟩), .agg S] w fun e w' => e = .returned (.bool true) ∧ PlayD P B w0 w' yb av bv n := by
 have B0 := Has.new w S 45
 have b2 := (B0.cell 2).trans hS.b2
 have b3 := (B0.cell 3).trans hS.c3
 have bl := B0.lt
 have HH := hide h
 have HPN := hide hPN
 have HB := hide B0
 have M0 := hide ((Mod.refl No w).alloc (.cells S 45))
 clear h B0 hPN
 go_enter Tryz.func12, Tryz.ntmps12
 go_wp2_with fail
 refine (new_any _ _).mono ?_
 rintro e w1 ⟨rfl, rfl⟩
 go_upto_region 2 with fail
 have NX := hide (newX w S room)
 clear b2 b3 bl HB M0
 generalize (((((w.alloc (.cells S 45)).alloc (.cells (⟨⟨.slice none 0 0, [], 0⟩, ⟨.slice none 0 0, [], 0⟩, ⟨.slice none 0 0, [], 0⟩, ⟨.slice none 0 0, [], 0⟩, room, -1⟩ : TTape).cells 108)).alloc (.cells #[.slice none 0 0, .int .i64 0] 72)).alloc (.cells #[.slice none 0 0, .slice none 0 0, .slice none 0 0, .slice none 0 0, .slice none 0 0, .slice none 0 0, .slice none 0 0, .slice none 0 0, .bool false, .bool false, .bool false, .bool false, .bool false, .bool false, .bool false, .bool false] 76)).alloc (.cells #[.pointer (some ⟨w.heap.size + 1, 0, none⟩), .pointer none, .pointer (some ⟨w.heap.size + 1 + 1, 0, none⟩), .pointer none, .pointer (some ⟨w.heap.size + 1 + 1 + 1, 0, none⟩), .int .i64 200, .int .i64 0, .bool false, .int .i64 0, .int .i64 0, .int .i64 0] 55)) = w5 at *
 generalize w.heap.size + 1 + 1 + 1 + 1 = ob at *
 generalize w.heap.size + 1 + 1 + 1 = tob at *
 generalize w.heap.size + 1 + 1 = wb at *
 generalize w.heap.size + 1 = tb at *
 generalize w.heap.size = bb at *
 have b2 : w5.cell? ⟨bb, 2, none⟩ = some (.int .i64 room) := ((unhide NX).box.cell 2).trans hS.b2
 have b3 : w5.cell? ⟨bb, 3, none⟩ = some (.int .i64 0) := ((unhide NX).box.cell 3).trans hS.c3
 have bl := (unhide NX).box.lt
 have o0 : w5.cell? ⟨ob, 0, none⟩ = some (.pointer (some ⟨tb, 0, none⟩)) := (unhide NX).one.cell 0
 have ol := (unhide NX).one.lt
 by_cases hr : room < 200
 ·obtain ⟨tcs, tr1, tr2⟩ := (unhide NX).tape.room
  have HOP := hide (open_low tb room tcs w5 tr1 tr2 hr)
  clear tr1 tr2
  have hrb : decide (room < 200) = true := by simpa using hr
  go_wp2_with fail
  refine (unhide HOP).mono ?_
  rintro e w6 ⟨rfl, rfl⟩
  have FIN := hide (show PlayD P B w0 w6 yb av bv n from ⟨⟨who, lv, os, ((unhide HH).still hB (unhide NX).mod).more hP⟩⟩)
  clear HOP NX HH
  go_wp2
  go_ret
  exact ⟨rfl, unhide FIN⟩
 ·have HOP := hide (open_nil (unhide NX).tape (fun k hk => by have := (unhide NX).ord; omega) rfl rfl hr)
  have hrb : decide (room < 200) = false := by simpa using hr
  have HPK := hide fun kb => (unhide HPN) tb kb wb tob (by omega)
  clear HPN
  go_wp2_with fail
  refine (unhide HOP).mono ?_
  rintro e w6 ⟨kb, rfl, ho⟩
  have NK := hide fun w8 hm => one_new (w8 := w8) (unhide NX) ho hm
  have HPK := hide ((unhide HPK) kb)
  have hord := (unhide NX).ord
  have m6 := ho.mod
  have h26 := m6.has (unhide NX).box (by omega)
  have b26 : w6.cell? ⟨bb, 2, none⟩ = some (.int .i64 room) := (h26.cell 2).trans hS.b2
  have b36 : w6.cell? ⟨bb, 3, none⟩ = some (.int .i64 0) := (h26.cell 3).trans hS.c3
  have bl6 := h26.lt
  have h16 := m6.has (unhide NX).one (by omega)
  have c16 : w6.cell? ⟨ob, 1, none⟩ = some (.pointer none) := h16.cell 1
  have c56 : w6.cell? ⟨ob, 5, none⟩ = some (.int .i64 200) := h16.cell 5
  have f16 := h16.frozen
  have l16 := h16.lt
  have hbo : bb ≠ ob := by omega
  have HORD := hide hord.1
  clear HOP b2 b3 bl o0 ol h16 m6 hord ho h26
  have HFI := hide fun n => rfits_any 200 0 room (by omega) (by omega) ((w6.setCell ⟨ob, 1, none⟩ (.pointer (some ⟨kb, 0, none⟩))).drewN n)
  go_upto_region 8 with fail
  go_cut [8] (fun s wx => (∃ b, s = .bool b) ∧ ∃ n, wx = (w6.setCell ⟨ob, 1, none⟩ (.pointer (some ⟨kb, 0, none⟩))).drewN n)
  case first =>
   go_quiet ((go_at_call 21; exact Calls.quiet_of_same ((unhide HFI) _)))
   go_wp2
   go_meet
   exact ⟨⟨_, rfl⟩, _, rfl⟩
  case rest =>
   obtain ⟨⟨bz, rfl⟩, n8, rfl⟩ := hcut
   apply_assumption
   have N8 := hide ((unhide NK) ((w6.setCell ⟨ob, 1, none⟩ (.pointer (some ⟨kb, 0, none⟩))).drewN n8) ((Mod.refl _ _).drewN n8))
   clear NK HFI b26 b36 bl6 c16 c56 f16 l16
   generalize (w6.setCell ⟨ob, 1, none⟩ (.pointer (some ⟨kb, 0, none⟩))).drewN n8 = w8 at *
   have hp8 := ((unhide HH).still hB (unhide N8).2.1)
   have HP8 := hide hp8
   obtain ⟨a8, c8, rfl⟩ := slice_of_owns hp8.row
   have y8 : w8.cell? ⟨yb, 0, none⟩ = some (.slice a8 os.length c8) := hp8.has.cell 0
   have yl8 := hp8.has.lt
   have yf8 := hp8.has.frozen
   have m9 : Mod No w8 (w8.alloc (.cells #[ptrTo ob] 48)) := (Mod.refl _ _).alloc _
   have HO9 := hide (m9.owns hp8.row (fun _ _ x => x))
   have HR9 := hide (reads_ptr w8 48 ob)
   have HY9 := hide (m9.has hp8.has (fun x => x))
   have hcnt := hp8.cnt
   have HNE := hide (show Option.some yb ≠ (Value.slice a8 os.length c8).ownBlock from fun e => (hp8.lv0 yb e.symm).2.2 rfl)
   have hp1 : ∀ u ∈ [ptrTo ob], u.oneCell' = true := fun u hu => by simp at hu; subst hu; rfl
   have HP1 := hide hp1
   obtain ⟨ip, p0, p1, p2, p3⟩ := info_parts infoOne
   clear hp8 m9 hp1
   unfold ptrTo at HO9 HR9 HY9 HP1
   go_wp2_with (at_builtin; refine wpList_append_row rfl (.tmp 70) (.tmp 72) 28 rfl 48 ip _ 1 8 Tryz.underlying28 p0 p1 p2 p3 rfl (by decide) (.slice a8 os.length c8) os.length (os.map ptrTo) (by simp [Act.eval]) (by exact unhide HO9) (.slice (some ⟨w8.heap.size, 0, none⟩) 1 1) 1 [.pointer (some ⟨ob, 0, none⟩)] (by simp [Act.eval]) (by exact unhide HR9) rfl (unhide HP1) (by unfold maxLen; omega) (by omega) ?_; intro v10 w10 ho10 hg10 hs10; obtain ⟨a10, c10, rfl⟩ := slice_of_owns ho10; have hy10 := Has.grown (unhide HY9) hg10 (unhide HNE); have y10 := hy10.cell 0; have yl10 := hy10.lt; have yf10 := hy10.frozen)
   have FIN := hide (opened_end hB hP (unhide HPK) (unhide HH) (unhide N8) (unhide HP8) (unhide HORD) ho10 hg10 hs10)
   clear ho10 hg10 hs10 hy10 HO9 HR9 HY9 HP8 N8 HH
   go_wp2
   go_ret
   exact ⟨rfl, unhide FIN⟩
theorem sizeOp : (Tryz.prog.info? 45).map (·.size) = some 25 := by kernel_rfl
theorem rowOp : (Tryz.prog.underlying 45).map (·.isRow) = some true := by kernel_rfl
theorem sizeCmd : (Tryz.prog.info? 41).map (·.size) = some 16 := by kernel_rfl
theorem OpS.nums {S : Array Value} (h : OpS S) : ∃ (k a b c : Int) (cm : Cmd), OpV S k b c ∧ S[1]? = some (.int .i64 a) ∧ (-9223372036854775808 ≤ a ∧ a ≤ 9223372036854775807) ∧ (∀ j v, (cmdCells cm).toList[j]? = some v → S[4 + j]? = some v) ∧ (-9223372036854775808 ≤ cm.time ∧ cm.time ≤ 9223372036854775807) := by
 have hz := h.size
 obtain ⟨x0, x1, x2, x3, x4, x5, x6, x7, x8, x9, x10, x11, x12, x13, x14, x15, x16, x17, x18, x19, x20, x21, x22, v23, v24, rfl, r1, r12⟩ := h.lits
 refine ⟨x0, x1, x2, x3, ⟨x4, x5, x6, x7, x8, x9, x10, x11, x12, ⟨x13, x14, x15, x16, x17, x18, x19, 0⟩⟩, ⟨hz, rfl, rfl, rfl⟩, rfl, r1, fun j v hj => ?_, r12⟩
 have hl : j < 16 := by
  have := (List.getElem?_eq_some_iff.1 hj).1
  simpa [cmdCells] using this
 have : j = 0 ∨ j = 1 ∨ j = 2 ∨ j = 3 ∨ j = 4 ∨ j = 5 ∨ j = 6 ∨ j = 7 ∨ j = 8 ∨ j = 9 ∨ j = 10 ∨ j = 11 ∨ j = 12 ∨ j = 13 ∨ j = 14 ∨ j = 15 := by omega
 rcases this with rfl | rfl | rfl | rfl | rfl | rfl | rfl | rfl | rfl | rfl | rfl | rfl | rfl | rfl | rfl | rfl <;> exact hj
theorem step_new {P : Nat → OneI → Prop} {B : World → (Nat → Prop) → Prop} (hB : BookOk B) (hP : ∀ n I, P n I → P (n + 1) I) {w0 w : World} {who : Nat → Nat} {yb : Nat} {lv av bv : Value} {os : List Nat} {n : Nat} (h : PlayX P B w0 w who yb lv av bv os n) (hn : n ≤ 1099511627776) {S : Array Value} {room : Int} (hS : OpV S 1 room 0) (hPN : ∀ tb kb wb tob, ¬ room < 200 → P (n + 1) (newI tb kb wb tob room)) :
  Calls Tryz.prog 10 #[.pointer (some ⟨yb, 0, none⟩), .agg S] w fun e w' => e = .returned (.bool true) ∧ PlayD P B w0 w' yb av bv n := by
 have B0 := Has.new w S 45
 have b0 := (B0.cell 0).trans hS.k0
 have bl := B0.lt
 have HB := hide B0
 have hz := hS.size
 have HO := hide (opened_any hB hP (h.still hB ((Mod.refl No w).alloc (.cells S 45))) hn hS hPN)
 clear h B0
 go_enter Tryz.func10, Tryz.ntmps10
 go_wp2_with (refine (wpList_load_has rfl 45 _ rfl w.heap.size 0 rfl S 45 (unhide HB) S (fun j v h => by rw [Nat.zero_add]; simpa using h) rowOp (by rw [hz]; exact sizeOp) ?_))
 refine (unhide HO).mono ?_
 rintro e w1 ⟨rfl, hp⟩
 have HP := hide hp
 clear hp HO
 go_wp2
 go_ret
 exact ⟨rfl, unhide HP⟩
theorem step_none {P : Nat → OneI → Prop} {B : World → (Nat → Prop) → Prop} (hB : BookOk B) (hP : ∀ n I, P n I → P (n + 1) I) {w0 w : World} {who : Nat → Nat} {yb : Nat} {lv av bv : Value} {n : Nat} (h : PlayX P B w0 w who yb lv av bv [] n) {S : Array Value} {k b c : Int} (hS : OpV S k b c) (hk : k ≠ 1) :
  Calls Tryz.prog 10 #[.pointer (some ⟨yb, 0, none⟩), .agg S] w fun e w' => e = .returned (.bool true) ∧ PlayD P B w0 w' yb av bv n := by
 have B0 := Has.new w S 45
 have b0 := (B0.cell 0).trans hS.k0
 have bl := B0.lt
 have h1 := h.still hB ((Mod.refl No w).alloc (.cells S 45))
 obtain ⟨a0, c0, rfl⟩ := slice_of_owns h1.row
 have y0 : (w.alloc (.cells S 45)).cell? ⟨yb, 0, none⟩ = some (.slice a0 ([] : List Nat).length c0) := h1.has.cell 0
 simp only [List.length_nil] at y0
 have yl := h1.has.lt
 have HP := hide (show PlayD P B w0 (w.alloc (.cells S 45)) yb av bv n from ⟨⟨_, _, _, h1.more hP⟩⟩)
 have kb : (k == 1) = false := by simpa using hk
 clear h B0 h1 hS
 go_enter Tryz.func10, Tryz.ntmps10
 go_wp2
 go_ret
 exact ⟨rfl, unhide HP⟩
theorem PlayX.at {P : Nat → OneI → Prop} {B : World → (Nat → Prop) → Prop} {w0 w : World} {who : Nat → Nat} {yb : Nat} {lv av bv : Value} {os : List Nat} {n : Nat} (h : PlayX P B w0 w who yb lv av bv os n) (hne : 0 < os.length) :
  ∃ lb cap, lv = .slice (some ⟨lb, 0, none⟩) os.length cap ∧ lb < w.heap.size ∧ ∀ j (hj : j < os.length), w.cell? ⟨lb, j, none⟩ = some (ptrTo os[j]) := by
 have hr := h.row
 obtain ⟨h0, h1 | ⟨g, cap, cur, hv, _⟩⟩ := h.row
 ·omega
 ·refine ⟨g, cap, hv, owns_lt h.row g (by rw [hv]; rfl), fun j hj => ?_⟩
  have := hr.cells (by rw [hv]; rfl) j (ptrTo os[j]) (by rw [List.getElem?_map, List.getElem?_eq_getElem hj]; rfl)
  rw [Addr.add_mid, Nat.zero_add] at this
  exact this
theorem step_pick {P : Nat → OneI → Prop} {B : World → (Nat → Prop) → Prop} (hB : BookOk B) (hPK : ∀ n I, P n I → (∃ b, I.kb = some b) ∧ I.sh = false) {w0 w : World} {who : Nat → Nat} {yb : Nat} {lv av bv : Value} {os : List Nat} {n : Nat} (h : PlayX P B w0 w who yb lv av bv os n) (hn : n ≤ 1099511627776) (hne : 0 < os.length) {S : Array Value} {k b c a : Int} (hS : OpV S k b c) (ha : S[1]? = some (.int .i64 a)) (hr : -9223372036854775808 ≤ a ∧ a ≤ 9223372036854775807)
  (hk : 2 ≤ k ∧ k ≤ 8) (C4 : Array Value) (hex : C4.size = 16) (hC4 : ∀ q v, C4.toList[q]? = some v → S[4 + q]? = some v) (j : Nat) (hj : j < os.length) (hja : pickN a (os.length : Int) = (j : Int)) {Q : Value → World → Prop}
  (H2 : k = 2 → ∀ n', Calls Tryz.prog 15 #[ptrTo os[j], .agg C4] ((w.alloc (.cells S 45)).drewN n') fun e w' => e = .returned (.bool true) ∧ Q (.bool true) w')
  (H3 : k ≠ 2 → ∀ n', Calls Tryz.prog 17 #[ptrTo yb, ptrTo os[j], .agg S] ((w.alloc (.cells S 45)).drewN n') fun e w' => e = .returned (.bool true) ∧ Q (.bool true) w') :
  Calls Tryz.prog 10 #[.pointer (some ⟨yb, 0, none⟩), .agg S] w fun e w' => e = .returned (.bool true) ∧ Q (.bool true) w' := by
 have B0 := Has.new w S 45
 have b0 := (B0.cell 0).trans hS.k0
 have b1 := (B0.cell 1).trans ha
 have bl := B0.lt
 have HB := hide fun n' => B0.drewN n'
 have h1 := h.still hB ((Mod.refl No w).alloc (.cells S 45))
 obtain ⟨lb, cap, rfl, ll, lc⟩ := h1.at hne
 have y0 : (w.alloc (.cells S 45)).cell? ⟨yb, 0, none⟩ = some (.slice (some ⟨lb, 0, none⟩) os.length cap) := h1.has.cell 0
 have yl := h1.has.lt
 have cj := lc j hj
 have hcnt := h1.cnt
 obtain ⟨I, hI, hPI⟩ := h1.ones j hj
 obtain ⟨⟨kb, hkb⟩, hshI⟩ := hPK _ _ hPI
 have HI := hide fun n' => (show ((w.alloc (.cells S 45)).drewN n').cell? ⟨os[j], 1, none⟩ = some (.pointer (some ⟨kb, 0, none⟩)) ∧ ((w.alloc (.cells S 45)).drewN n').cell? ⟨os[j], 7, none⟩ = some (.bool false) ∧ os[j] < ((w.alloc (.cells S 45)).drewN n').heap.size from
  ⟨by
   have := (hI.has.drewN n').cell 1
   rw [show (oneV I)[1]? = some (ptrOf I.kb) from rfl, hkb] at this
   exact this, by
   have := (hI.has.drewN n').cell 7
   rw [show (oneV I)[7]? = some (.bool I.sh) from rfl, hshI] at this
   exact this, (hI.has.drewN n').lt⟩)
 have HPI := hide fun n' => lpick_any a (os.length : Int) hr (by omega) ((w.alloc (.cells S 45)).drewN n')
 rw [hja] at HPI
 have hz := hS.size
 have HZ := hide hz
 have HR := hide fun n' => (show ((w.alloc (.cells S 45)).drewN n').rangeAt w.heap.size 4 C4.toList from (B0.drewN n').range 4 _ hC4)
 have k1 : (k == 1) = false := by simp; omega
 have k2 : decide (k < 2) = false := by simp; omega
 have k3 : decide (k > 13) = false := by simp; omega
 have k10 : decide (k ≥ 10) = false := by simp; omega
 have k9 : (k == 9) = false := by simp; omega
 have j0 : (0 : Int) ≤ j := by omega
 have jl : (j : Int) < (os.length : Int) := by omega
 have k2' : ¬ k < 2 := by omega
 have k3' : ¬ k > 13 := by omega
 have k10' : ¬ k ≥ 10 := by omega
 have H2 := hide H2
 have H3 := hide H3
 generalize hob : os[j] = ob at *
 clear h h1 hS ha B0 lc hI hob hC4 hPI hPK hkb hshI
 generalize hL : os.length = L at *
 have ln : ((L : Int) == 0) = false := by rw [beq_eq_false_iff_ne]; omega
 have ln2 : ¬ L = 0 := by omega
 unfold ptrTo at cj H2 H3
 go_enter Tryz.func10, Tryz.ntmps10
 go_upto_region 5 with fail
 go_cut [5] (fun s wx => s = .pointer (some ⟨ob, 0, none⟩) ∧ ∃ n', wx = (w.alloc (.cells S 45)).drewN n')
 case first =>
  go_quiet ((go_at_call 13; exact Calls.quiet_of_same ((unhide HPI) _)))
  go_wp2
  go_meet
  exact ⟨rfl, _, rfl⟩
 case rest =>
  obtain ⟨rfl, n', rfl⟩ := hcut
  apply_assumption
  have b0 : ((w.alloc (.cells S 45)).drewN n').cell? ⟨w.heap.size, 0, none⟩ = some (.int .i64 k) := b0
  have bl : w.heap.size < ((w.alloc (.cells S 45)).drewN n').heap.size := bl
  obtain ⟨o1, o7, ol⟩ := (unhide HI) n'
  have HB := hide ((unhide HB) n')
  have HR := hide ((unhide HR) n')
  have H2 := hide fun e => (unhide H2) e n'
  have H3 := hide fun e => (unhide H3) e n'
  clear y0 yl cj b1 HPI HI
  generalize (w.alloc (.cells S 45)).drewN n' = w1 at *
  by_cases h2 : k = 2
  ·subst h2
   have HC := hide ((unhide H2) rfl)
   clear H2 H3
   go_wp2_with (refine wpList_load_mid rfl 41 _ rfl w.heap.size 4 rfl C4.toList _ (unhide HR) Tryz.underlying41 rfl (by rw [Array.length_toList, hex]; exact sizeCmd) ?_)
   refine (unhide HC).mono ?_
   rintro e w2 ⟨rfl, hp⟩
   have HP := hide hp
   clear hp HC
   go_wp2
   go_ret
   exact ⟨rfl, unhide HP⟩
  ·have h2b : (k == 2) = false := by simp [h2]
   have HC := hide ((unhide H3) h2)
   clear H2 H3
   go_wp2_with (refine (wpList_load_has rfl 45 _ rfl w.heap.size 0 rfl S 45 (unhide HB) S (fun j v h => by rw [Nat.zero_add]; simpa using h) rowOp (by rw [unhide HZ]; exact sizeOp) ?_))
   refine (unhide HC).mono ?_
   rintro e w2 ⟨rfl, hp⟩
   have HP := hide hp
   clear hp HC
   go_wp2
   go_ret
   exact ⟨rfl, unhide HP⟩
set_option maxHeartbeats 8000000
theorem OpL.kind (x : OpL) : ∃ k ck : Int, x.S[0]? = some (.int .i64 k) ∧ x.S[4]? = some (.int .i64 ck) := by
 have hs := x.ok.size
 have e : ∀ i, i < 23 → ∃ z : Int, x.S[i]? = some (.int .i64 z) := fun i hi => by
  have e : x.S[i]? = some (x.S[i]'(by omega)) := Array.getElem?_eq_getElem (by omega)
  obtain ⟨z, hz, _⟩ := x.ok.ints i hi _ e
  exact ⟨z, by rw [e, hz]⟩
 obtain ⟨k, h1⟩ := e 0 (by omega)
 obtain ⟨ck, h2⟩ := e 4 (by omega)
 exact ⟨k, ck, h1, h2⟩
def inK (k : Int) (K : List Int) : Bool := K.any (fun q => k == q)
theorem inK_succ (k : Int) (K : List Int) (q : Nat) (hq : q < K.length) : inK k (K.take (q + 1)) = (inK k (K.take q) || (k == K[q])) := by
 unfold inK
 rw [List.take_add_one, List.getElem?_eq_getElem hq, Option.toList_some, List.any_append]
 simp only [List.any_cons, List.any_nil, Bool.or_false]
theorem plays_any {w : World} (a : Option Addr) (n cap : Nat) (hn : n ≤ 651562446089) (hL : Live w a n) (kb kc : Nat) (K : List Int) (hK : ∀ q (h : q < K.length), w.cell? ⟨kb, q, none⟩ = some (.int .i64 K[q])) (hkb : kb < w.heap.size) (hK9 : K.length ≤ 100) (swap : Bool)
  (J : Nat → World → Prop) (J0 : J 0 (w.alloc (.cells #[.slice none 0 0, .slice none 0 0, .slice none 0 0] 34))) (HM : ∀ m W, J m W → Mod No w W) (HN : ∀ m W, J m W → J (m + 1) W) (HD : ∀ m W W', J m W → Mod No W W' → J m W')
  (HS : ∀ m W (x : OpL) (k ck : Int), m < n → J m W → x.S[0]? = some (.int .i64 k) → x.S[4]? = some (.int .i64 ck) → inK k K = true → (swap = true ∨ ¬ (k = 2 ∧ ck = 9)) → Calls Tryz.prog 10 #[ptrTo w.heap.size, .agg x.S] W fun e w' => e = .returned (.bool true) ∧ J (m + 1) w')
  (HW : ∀ m W, J m W → Calls Tryz.prog 11 #[.pointer (some ⟨w.heap.size, 1, none⟩)] W fun e w' => e = .returned (.bool true) ∧ J m w') :
  Calls Tryz.prog 8 #[.slice a n cap, .slice (some ⟨kb, 0, none⟩) K.length kc, .bool swap] w fun e w' => e = .returned (.bool true) ∧ Mod No w w' := by
 have HL := hide hL
 have HK := hide hK
 have J0 := hide J0
 have HM := hide HM
 have HN := hide HN
 have HD := hide HD
 have HS := hide HS
 have HW := hide HW
 unfold ptrTo at HS
 clear hL hK
 go_enter Tryz.func8, Tryz.ntmps8
 go_wp2_with fail
 go_loopw [8] (fun s8 wr => ∃ i : Nat, s8 = .int .i64 i ∧ i ≤ n ∧ Hid (J i wr)) (fun s _ => n - (intOf s).toNat)
 case atStart => exact ⟨0, rfl, by omega, J0⟩
 case round =>
  obtain ⟨i, rfl, hi, J1⟩ := hrel
  clear J0
  by_cases hin : i < n
  ·have hini : (i : Int) < (n : Int) := by omega
   have hi0 : (0 : Int) ≤ i := by omega
   have hi1 : IntKind.i64.wrap ((i : Int) + 1) = ((i + 1 : Nat) : Int) := by rw [wrap_id _ (by omega) (by omega)]; rfl
   have mr := (unhide HM) _ _ (unhide J1)
   obtain ⟨b, off, x, rfl, hR, hb⟩ := (unhide HL).mod mr (fun _ _ _ _ => fun z => z) i hin
   obtain ⟨k, ck, hk, hck⟩ := x.kind
   have hxs := x.ok.size
   have c0 : wr.cell? ⟨b, off + i * 25, none⟩ = some (.int .i64 k) := by
    have := hR 0 (.int .i64 k) (by rw [Array.getElem?_toList]; exact hk)
    rw [Nat.add_zero] at this
    exact this
   have c4 : wr.cell? ⟨b, off + i * 25 + 4, none⟩ = some (.int .i64 ck) := hR 4 (.int .i64 ck) (by rw [Array.getElem?_toList]; exact hck)
   have HR := hide hR
   have HKK := hide hk
   have HCK := hide hck
   have HXS := hide hxs
   have MR := hide mr
   clear hR hk hck hxs mr
   go_upto_block 2 with fail
   go_cut [9, 10] from 20 to 38 (fun s9 s10 wx => s9 = .bool (inK k K) ∧ s10 = .int .i64 (K.length : Nat) ∧ Hid (Mod No wr wx))
   case first =>
    go_wp2_with fail
    go_loopw [9, 10] (fun s9 s10 wx => ∃ q : Nat, s10 = .int .i64 q ∧ q ≤ K.length ∧ s9 = .bool (inK k (K.take q)) ∧ Hid (Mod No wr wx)) (fun _ s10 _ => K.length - (intOf s10).toNat)
    case atStart => exact ⟨0, rfl, by omega, rfl, Mod.refl _ _⟩
    case round =>
     obtain ⟨q, rfl, hq, rfl, M2⟩ := hrel
     by_cases hql : q < K.length
     ·have hqi : (q : Int) < (K.length : Int) := by omega
      have hq0 : (0 : Int) ≤ q := by omega
      have hq1 : IntKind.i64.wrap ((q : Int) + 1) = ((q + 1 : Nat) : Int) := by rw [wrap_id _ (by omega) (by omega)]; rfl
      have ck9 := mod_cell0 ((unhide MR).trans (unhide M2)) ((unhide HK) q hql)
      have c02 := mod_cell0 (unhide M2) c0
      have HSU := hide (inK_succ k K q hql)
      have bl2 := Nat.lt_of_lt_of_le hb (unhide M2).size
      have kl2 := Nat.lt_of_lt_of_le (Nat.lt_of_lt_of_le hkb (unhide MR).size) (unhide M2).size
      clear c0 c4
      generalize K[q] = kq at *
      generalize inK k (K.take q) = old at *
      cases old with
      | true =>
       go_wp2_with fail
       go_quiet (fail)
       go_wp2
       exact ⟨⟨q + 1, rfl, by omega, by rw [unhide HSU]; rfl, (unhide M2).drewN _⟩, by simp [intOf]; omega⟩
      | false =>
       go_wp2_with fail
       go_quiet (fail)
       go_wp2
       exact ⟨⟨q + 1, rfl, by omega, by rw [unhide HSU]; simp, (unhide M2).drewN _⟩, by simp [intOf]; omega⟩
     ·have hqi : ¬ (q : Int) < (K.length : Int) := by omega
      obtain rfl : q = K.length := by omega
      rw [List.take_length]
      go_wp2
      go_meet
      exact ⟨rfl, rfl, M2⟩
   case rest =>
    obtain ⟨rfl, rfl, M2⟩ := hcut
    apply_assumption
    have c0 := mod_cell0 (unhide M2) c0
    have c4 := mod_cell0 (unhide M2) c4
    have bl2 := Nat.lt_of_lt_of_le hb (unhide M2).size
    have J2 := hide ((unhide HD) _ _ _ (unhide J1) (unhide M2))
    have HR2 := hide (mod_range0 (unhide M2) (unhide HR))
    clear J1 HR M2 MR
    go_upto_region 10 with fail
    go_cut [61] from 20 to 61 (fun s wx => s = .bool (!inK k K || (!swap && (k == 2 && ck == 9))) ∧ wx = wc)
    case first =>
     generalize inK k K = ink at *
     cases ink with
     | false =>
      go_wp2
      go_meet
      exact ⟨rfl, rfl⟩
     | true =>
      cases swap with
      | true =>
       go_wp2
       go_meet
       exact ⟨rfl, rfl⟩
      | false =>
       by_cases h2 : k = 2
       ·subst h2
        by_cases h9 : ck = 9
        ·subst h9
         go_wp2
         go_meet
         exact ⟨rfl, rfl⟩
        ·have h9b : (ck == 9) = false := by simp [h9]
         go_wp2
         go_meet
         exact ⟨by simp [h9], rfl⟩
       ·have h2b : (k == 2) = false := by simp [h2]
        go_wp2
        go_meet
        exact ⟨by simp [h2], rfl⟩
    case rest =>
     obtain ⟨rfl, rfl⟩ := hcut
     apply_assumption
     generalize hsk : (!inK k K || (!swap && (k == 2 && ck == 9))) = skip at *
     have HSK := hide hsk
     clear hsk
     cases skip with
     | true =>
      have JN := hide ((unhide HN) _ _ (unhide J2))
      clear J2 c0 c4
      go_wp2
      exact ⟨⟨i + 1, rfl, by omega, JN⟩, by simp [intOf]; omega⟩
     | false =>
      have hq := unhide HSK
      simp only [Bool.or_eq_false_iff, Bool.not_eq_false', Bool.and_eq_false_iff, beq_eq_false_iff_ne, Bool.not_eq_false'] at hq
      have HST := hide ((unhide HS) i _ x k ck hin (unhide J2) (unhide HKK) (unhide HCK) hq.1 (by
       rcases hq.2 with e | e | e
       ·exact .inl e
       ·exact .inr (fun z => e z.1)
       ·exact .inr (fun z => e z.2)))
      clear hq
      go_wp2_with (refine wpList_load_mid rfl 45 _ rfl b (off + i * 25) rfl x.S.toList _ (unhide HR2) Tryz.underlying45 rfl (by rw [Array.length_toList, unhide HXS]; exact sizeOp) ?_)
      refine (unhide HST).mono ?_
      rintro e w5 ⟨rfl, j5⟩
      have HWW := hide ((unhide HW) _ _ j5)
      clear HST j5 J2 c0 c4 bl2
      go_wp2_with fail
      refine (unhide HWW).mono ?_
      rintro e w6 ⟨rfl, j6⟩
      have J6 := hide j6
      clear HWW j6
      go_wp2
      exact ⟨⟨i + 1, rfl, by omega, J6⟩, by simp [intOf]; omega⟩
  ·have hini : ¬ (i : Int) < (n : Int) := by omega
   have MF := hide ((unhide HM) _ _ (unhide J1))
   clear J1
   go_wp2
   go_ret
   exact ⟨rfl, unhide MF⟩
end Go.Proofs.YthhibagcpjeihaaGreat
