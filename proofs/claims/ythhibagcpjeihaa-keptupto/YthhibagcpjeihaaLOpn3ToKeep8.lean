import Derived.Test.YthhibagcpjeihaaLOpn2
import Derived.Test.YthhibagcpjeihaaLKeepDToOpn1
import Derived.Test.YthhibagcpjeihaaLChangeToSwap1
import Derived.Test.YthhibagcpjeihaaLSwap4ToWho1
import Derived.Handy
import Derived.Deep.DeepCutAuto
namespace Go.Proofs.Ythhibagcpjeihaa
open Go.RowKit
open M
set_option linter.unusedVariables false
set_option linter.unusedSimpArgs false
set_option maxRecDepth 100000
set_option maxHeartbeats 4000000
theorem read_zero (a : Option Addr) (c : Nat) (w : World) : Calls Try.prog 92 #[.slice a 0 c] w fun e w' => e = .returned (.tuple #[.slice none 0 0, .bool true]) ∧ Mod No w w' := by
 have M0 := hide ((Mod.refl No w).alloc (.cells #[.slice a 0 c, .int .i64 0, .bool false] 198))
 go_enter Try.func92, Try.ntmps92
 go_wp2_with fail
 go_loopw [2] (fun s wr => s = .slice none 0 0 ∧ wr = w.alloc (.cells #[.slice a 0 c, .int .i64 0, .bool false] 198)) (fun _ _ => 0)
 case atStart => exact ⟨rfl, rfl⟩
 case round =>
  obtain ⟨rfl, rfl⟩ := hrel
  go_wp2
  go_ret2
  exact ⟨rfl, unhide M0⟩
theorem sfind_nil {w : World} {S : Nat → Prop} {tb : Nat} {T : TP} (ht : TapeH w S tb T) (i : Nat) (hi : i < 4) (h : T.b i = []) :
  Calls Try.prog 71 #[.pointer (some ⟨tb, 0, none⟩), .int .i64 i] w fun e w' => ∃ a c, e = .returned (foundV i 0 (.slice a 0 c) true) ∧ (.slice a 0 c : Value) = .slice none 0 0 ∧ Mod No w w' := by
 have := sfind_any ht i hi 0 true (fun _ _ v _ => v = .slice none 0 0) (fun W v hW ho => by
  obtain ⟨a, c, rfl⟩ := slice_of_owns ho
  rw [h]
  refine (read_zero a c W).mono ?_
  rintro e w' ⟨rfl, hm⟩
  exact ⟨none, 0, rfl, rfl, hm⟩) (fun _ _ _ _ _ q _ => q) (fun _ _ _ _ _ _ _ _ q => q)
 rw [h] at this
 exact this
theorem betP_zero : betP 0 0 0 0 = false := by decide
theorem openP_zero (T : TP) (i : Nat) : openP T i 0 0 = (0, T) := by unfold openP; simp
theorem sopen_nil {w : World} {S : Nat → Prop} {tb : Nat} {T : TP} (ht : TapeH w S tb T) (hS : ∀ k, S k → k < w.heap.size) (h0 : T.b 0 = []) (h1 : T.b 1 = []) :
  Calls Try.prog 53 #[.pointer (some ⟨tb, 0, none⟩)] w fun e w' => e = .returned (.tuple #[.agg #[.pointer (some ⟨tb, 0, none⟩), .int .i64 0, .bool false], .slice none 0 0, .int .i64 0]) ∧ TapeH w' S tb T ∧ Mod S w w' := by
 refine (sopen_0 ht hS 0 0 0 0 true true (fun _ _ v _ => v = .slice none 0 0) (fun W hW => ?_) (fun W hW => ?_) (fun _ _ _ _ _ q _ => q) (fun _ _ _ _ _ _ _ _ q => q) betP_zero).mono ?_
 ·exact sfind_nil (ht.mod0 hW) 0 (by omega) h0
 ·exact sfind_nil (ht.mod0 hW) 1 (by omega) h1
 ·rintro e w' ⟨q1, q2, q3, _⟩
  rw [openP_zero] at q1 q3
  obtain ⟨a, c, he, hs⟩ := q3 rfl
  rw [hs] at he
  exact ⟨he, q1, q2⟩
def ptS (tb : Nat) : Nat → Option Nat := fun j => if j = 29 then some tb else none
def noFl : Nat → Option (Pla × List Sea) := fun _ => none
theorem open_low (tb : Nat) (n : Int) (cs : Array Value) (w : World) (h : Has w tb cs 103) (h8 : cs[8]? = some (.int .i64 n)) (hn : n < 200) :
  Calls Try.prog 33 #[.pointer (some ⟨tb, 0, none⟩)] w fun e w' => e = .returned (.tuple #[.pointer none, .int .i64 15]) ∧ w' = w := by
 have HR := hide (room_any tb n w cs h h8)
 clear h h8
 go_enter Try.func33, Try.ntmps33
 go_wp2_with fail
 refine (unhide HR).mono ?_
 rintro e w1 ⟨rfl, rfl⟩
 go_wp2
 go_ret2
 exact ⟨rfl, rfl⟩
structure OpenedX (w w' : World) (S : Nat → Prop) (kb tb : Nat) (T : TP) : Prop where
 has : Has w' kb (keepCells 0 (ptS tb)) 117
 new : w.heap.size ≤ kb
 tape : TapeH w' S tb T
 mod : Mod S w w'
theorem open_nil {w : World} {S : Nat → Prop} {tb : Nat} {T : TP} (ht : TapeH w S tb T) (hS : ∀ k, S k → k < w.heap.size) (h0 : T.b 0 = []) (h1 : T.b 1 = []) (hn : ¬ T.room < 200) :
  Calls Try.prog 33 #[.pointer (some ⟨tb, 0, none⟩)] w fun e w' => ∃ kb, e = .returned (.tuple #[.pointer (some ⟨kb, 0, none⟩), .int .i64 0]) ∧ OpenedX w w' S kb tb T := by
 obtain ⟨cs, hr1, hr2⟩ := ht.room
 have HR := hide (room_any tb T.room w cs hr1 hr2)
 have HO := hide (sopen_nil ht hS h0 h1)
 have HSS := hide hS
 clear ht hr1 hr2 hS
 go_enter Try.func33, Try.ntmps33
 go_wp2_with fail
 refine (unhide HR).mono ?_
 rintro e w1 ⟨rfl, rfl⟩
 go_wp2_with fail
 refine (unhide HO).mono ?_
 rintro e w2 ⟨rfl, t2, m2⟩
 have T2 := hide t2
 have M2 := hide m2
 clear t2 m2 HO HR
 go_wp2_with fail
 go_loopw [31] (fun s wr => s = .int .i64 0 ∧ Hid (OpenedX w1 wr S (w2.heap.size + 1) tb T)) (fun _ _ => 0)
 case atStart =>
  have m3 : Mod No w2 ((w2.alloc (.cells #[.pointer (some ⟨tb, 0, none⟩), .int .i64 0, .bool false] 115)).alloc (.cells (keepCells 0 (ptS tb)) 117)) := ((Mod.refl _ w2).alloc _).alloc _
  have hk := Has.new2' w2 (.cells #[.pointer (some ⟨tb, 0, none⟩), .int .i64 0, .bool false] 115) (keepCells 0 (ptS tb)) 117
  exact ⟨rfl, hide ⟨hk, Nat.le_succ_of_le (unhide M2).size, (unhide T2).mod0 m3, (unhide M2).trans (m3.mono (fun _ _ x => x.elim))⟩⟩
 case round =>
  obtain ⟨rfl, hX⟩ := hrel
  go_wp2
  go_ret2
  exact ⟨_, rfl, unhide hX⟩
theorem OpenedX.keep {w w' : World} {S : Nat → Prop} {kb tb : Nat} {T : TP} (h : OpenedX w w' S kb tb T) (hS : ∀ k, S k → k < w.heap.size) (ow : Nat → Nat) (hk : ow kb = 1) (ht : ∀ k, S k → ow k = 30) (ho : ∀ k, ow k ≠ 0 → k = kb ∨ S k) : KeepT w' ow kb 0 (ptS tb) noFl ⟨tb, 0, false, true, T⟩ := by
 refine ⟨⟨h.has, hk, fun k hk => ?_, fun n hn _ => ?_, fun n p l hn hf => by cases hf⟩, rfl, rfl, rfl, h.tape.wide ht⟩
 ·rcases ho k hk with e | e
  ·rw [e]; exact h.has.lt
  ·exact Nat.lt_of_lt_of_le (hS k e) h.mod.size
 ·unfold ptS
  exact if_neg (by omega)
def kEnts (T : TP) (i : Nat) : List Ent := (fileP (T.b i)).1
def kAll (T : TP) (i : Nat) : Bool := (fileP (T.b i)).2
def keptI (T : TP) : Nat := if betP (kEnts T 1).length (kEnts T 0).length (T.b 1).length (T.b 0).length = true then 1 else 0
def openT (T : TP) : Int × TP := openP T (keptI T) (T.b (keptI T)).length (T.b (1 - keptI T)).length
theorem EntV.mod' {w w' : World} {lo : Nat} {v : Value} {e : Ent} {S : Nat → Prop} (h : EntV w lo v e) (hm : Mod S w w') (hs : ∀ k, lo ≤ k → k < w.heap.size → ¬ S k) : EntV w' lo v e := by
 unfold EntV at h ⊢
 split
 ·rename_i h7
  rw [if_pos h7] at h
  obtain ⟨a, c, h1, h2, h3⟩ := h
  exact ⟨a, c, h1, hm.owns h2 (fun k hk => hs k (h3 k hk) (h2.lt k hk).2), h3⟩
 ·rename_i h7
  rw [if_neg h7] at h
  exact h
theorem EntsL.mod' {w w' : World} {lo : Nat} {S : Nat → Prop} (hm : Mod S w w') (hs : ∀ k, lo ≤ k → k < w.heap.size → ¬ S k) : ∀ {L : List (Int × Value)} {es : List Ent}, EntsL w lo L es → EntsL w' lo L es
 | [], [], _ => trivial
 | x :: L, e :: es, h => ⟨⟨h.1.1, h.1.2.mod' hm hs⟩, EntsL.mod' hm hs h.2⟩
 | [], _ :: _, h => h.elim
 | _ :: _, [], h => h.elim
theorem RowEn.mod' {w w' : World} {lo : Nat} {v : Value} {L : List (Int × Value)} {S : Nat → Prop} (h : RowEn w lo v L) (hm : Mod S w w') (hs : ∀ k, lo ≤ k → k < w.heap.size → ¬ S k) : RowEn w' lo v L := ⟨hm.owns h.row (fun k hk => hs k (h.own k hk) (h.row.lt k hk).2), h.own, h.one⟩
def QE (T : TP) (l h : Nat) (v : Value) (W : World) : Prop := ∃ l' h' W0 L es, l ≤ l' ∧ h' ≤ h ∧ RowEn W0 l' v L ∧ EntsL W0 l' L es ∧ W0.heap.size ≤ h' ∧ Mod (fun k => k < l' ∨ h' ≤ k) W0 W ∧ (es = kEnts T 0 ∨ es = kEnts T 1)
theorem QE.step {T : TP} (l h : Nat) (v : Value) (W W' : World) (q : QE T l h v W) (hm : Mod (fun k => k < l ∨ h ≤ k) W W') : QE T l h v W' := by
 obtain ⟨l', h', W0, L, es, e1, e2, h1, h2, h3, h4, h5⟩ := q
 exact ⟨l', h', W0, L, es, e1, e2, h1, h2, h3, h4.trans (hm.mono (fun k _ e => by omega)), h5⟩
theorem QE.low {T : TP} (l l' h h' : Nat) (v : Value) (W : World) (hl : l ≤ l') (hh : h' ≤ h) (q : QE T l' h' v W) : QE T l h v W := by
 obtain ⟨l2, h2, W0, L, es, e1, e2, q⟩ := q
 exact ⟨l2, h2, W0, L, es, by omega, by omega, q⟩
theorem QE.get {T : TP} {l h : Nat} {v : Value} {W : World} (q : QE T l h v W) : ∃ L es, RowEn W l v L ∧ EntsL W l L es ∧ (es = kEnts T 0 ∨ es = kEnts T 1) := by
 obtain ⟨l', h', W0, L, es, e1, e2, h1, h2, h3, h4, h5⟩ := q
 exact ⟨L, es, (h1.mod' h4 (fun k hk hl e => by omega)).low e1, (h2.mod' h4 (fun k hk hl e => by omega)).low e1, h5⟩
theorem sfind_T {w : World} {S : Nat → Prop} {tb : Nat} {T : TP} (ht : TapeH w S tb T) (i : Nat) (hi : i < 2) (hl : (T.b i).length ≤ 1099511627776) :
  Calls Try.prog 71 #[.pointer (some ⟨tb, 0, none⟩), .int .i64 i] w fun e w' => ∃ a c, e = .returned (foundV i (T.b i).length (.slice a (kEnts T i).length c) (kAll T i)) ∧ QE T w.heap.size w'.heap.size (.slice a (kEnts T i).length c) w' ∧ Mod No w w' := by
 refine sfind_any ht i (by omega) (kEnts T i).length (kAll T i) (QE T) (fun W v hW ho => ?_) QE.step QE.low
 obtain ⟨a, c, rfl⟩ := slice_of_owns ho
 refine (read_file ho hl (ht.bytes i (by omega)) (by have := ht.lt; have := hW.size; omega)).mono ?_
 rintro e w' ⟨a', c', L, rfl, h1, h2, h3⟩
 have hL : L.length = (kEnts T i).length := h2.len
 rw [hL] at h1 ⊢
 refine ⟨a', c', rfl, ⟨W.heap.size, w'.heap.size, w', L, kEnts T i, Nat.le_refl _, Nat.le_refl _, h1, h2, Nat.le_refl _, Mod.refl _ _, ?_⟩, h3⟩
 have : i = 0 ∨ i = 1 := by omega
 rcases this with rfl | rfl
 ·exact .inl rfl
 ·exact .inr rfl
theorem sopen_T {w : World} {S : Nat → Prop} {tb : Nat} {T : TP} (ht : TapeH w S tb T) (hS : ∀ k, S k → k < w.heap.size) (h0 : (T.b 0).length ≤ 1099511627776) (h1 : (T.b 1).length ≤ 1099511627776) :
  Calls Try.prog 53 #[.pointer (some ⟨tb, 0, none⟩)] w fun e w' =>
   TapeH w' S tb (openT T).2 ∧ Mod S w w' ∧
   ((openT T).1 = 0 → ∃ a c, e = .returned (.tuple #[.agg #[.pointer (some ⟨tb, 0, none⟩), .int .i64 (keptI T : Nat), .bool (!(kAll T (keptI T)))], .slice a (kEnts T (keptI T)).length c, .int .i64 0]) ∧ QE T w.heap.size w'.heap.size (.slice a (kEnts T (keptI T)).length c) w') ∧
   ((openT T).1 ≠ 0 → e = .returned (.tuple #[.agg #[.pointer none, .int .i64 0, .bool false], .slice none 0 0, .int .i64 16])) := by
 unfold openT
 have f0 : ∀ W, Mod No w W → _ := fun W hW => sfind_T (ht.mod0 hW) 0 (by omega) h0
 have f1 : ∀ W, Mod No w W → _ := fun W hW => sfind_T (ht.mod0 hW) 1 (by omega) h1
 by_cases hb : betP (kEnts T 1).length (kEnts T 0).length (T.b 1).length (T.b 0).length = true
 ·have hk : keptI T = 1 := by unfold keptI; rw [if_pos hb]
  rw [hk]
  exact sopen_1 ht hS _ _ _ _ _ _ (QE T) f0 f1 QE.step QE.low hb
 ·have hk : keptI T = 0 := by unfold keptI; rw [if_neg hb]
  rw [hk]
  exact sopen_0 ht hS _ _ _ _ _ _ (QE T) f0 f1 QE.step QE.low (by simpa using hb)
theorem doK_late {now now' : Int} {fl fl' : Fls} {c : Cmd} (h : doK now fl c = (0, now', fl')) : now ≤ now' ∧ now' ≤ now + 100 := by
 unfold doK at h
 repeat' split at h
 all_goals first
  |(injection h with h1 h2; injection h2 with h2 h3; subst h2; omega)
  |(injection h with h1 h2; injection h2 with h2 h3; omega)
theorem stepE_late {now now' : Int} {fl fl' : Fls} {e : Ent} (h : StepE now fl e now' fl') : now ≤ now' := by
 rcases h with ⟨c, _, h⟩ | ⟨_, _, _, h⟩ | ⟨n, p, l, _, _, _, _, _, h, _⟩
 ·exact (doK_late h).1
 ·exact h
 ·omega
theorem playE_late : ∀ (es : List Ent) {now now' : Int} {fl fl' : Fls}, PlayE now fl es now' fl' → now ≤ now'
 | [], _, _, _, _, h => by have := h.1; omega
 | e :: es, _, _, _, _, h => by
  obtain ⟨n1, f1, h1, h2⟩ := h
  have a := stepE_late h1
  have b := playE_late es h2
  omega
theorem EntsL.get {w : World} {lo : Nat} : ∀ {L : List (Int × Value)} {es : List Ent}, EntsL w lo L es → ∀ (i : Nat) (h : i < L.length) (h' : i < es.length), L[i].1 = es[i].fl ∧ EntV w lo L[i].2 es[i]
 | x :: L, e :: es, h, 0, _, _ => h.1
 | x :: L, e :: es, h, i + 1, h1, h2 => EntsL.get h.2 i (by simpa using h1) (by simpa using h2)
 | [], [], _, i, h1, _ => by simp at h1
 | [], _ :: _, h, _, _, _ => h.elim
 | _ :: _, [], h, _, _, _ => h.elim
theorem flat2 : ∀ (l : List (Int × Value)) (j t : Nat) (hj : j < l.length) (ht : t < 2), (l.flatMap entL)[j * 2 + t]? = (entL l[j])[t]?
 | x :: l, 0, t, _, ht => by
  rw [List.flatMap_cons, Nat.zero_mul, Nat.zero_add, List.getElem?_append_left (by simpa [entL] using ht)]
  rfl
 | x :: l, j + 1, t, hj, ht => by
  rw [List.flatMap_cons, List.getElem?_append_right (by simp [entL]; omega)]
  have := flat2 l j t (by simpa using hj) ht
  rw [show (j + 1) * 2 + t - (entL x).length = j * 2 + t by simp [entL]; omega, this]
  rfl
theorem ent_cells {w : World} {lo n c : Nat} {a : Option Addr} {L : List (Int × Value)} (h : RowEn w lo (.slice a n c) L) (j : Nat) (hj : j < L.length) :
  ∃ g, a = some ⟨g, 0, none⟩ ∧ g < w.heap.size ∧ w.cell? ⟨g, j * 2, none⟩ = some (.int .i64 L[j].1) ∧ w.cell? ⟨g, j * 2 + 1, none⟩ = some L[j].2 := by
 have h' := h.row
 rcases h.row.2 with ⟨h1, h2⟩ | ⟨g, cp, cur, hv, hr⟩
 ·omega
 ·injection hv with e1 e2 e3
  have hc := fun t (ht : t < 2) v (hv : (entL L[j])[t]? = some v) => h'.cells (by rw [e1]; rfl) (j * 2 + t) v (by rw [flat2 L j t hj ht]; exact hv)
  refine ⟨g, e1, (h'.lt g (by rw [e1]; rfl)).2, ?_, ?_⟩
  ·have := hc 0 (by omega) _ rfl
   rw [Addr.add_mid] at this
   simpa using this
  ·have := hc 1 (by omega) _ rfl
   rw [Addr.add_mid, Nat.zero_add] at this
   exact this
def ptO (tb f : Nat) (torn : Bool) : Nat → Option Nat := fun j => if j = 29 then some tb else if j = 30 then (if f = 1 then some 0 else none) else if j = 31 then (if torn = true then some 0 else none) else none
theorem keep_newO (tb : Nat) {f : Nat} (hf : f = 0 ∨ f = 1) (torn : Bool) : keepCells 0 (ptO tb f torn) = #[.int .i64 0, .pointer none, .pointer none, .pointer none, .pointer none, .pointer none, .pointer none, .pointer none, .pointer none, .pointer none, .pointer none, .pointer none, .pointer none, .pointer none, .pointer none, .pointer none, .pointer none, .pointer none, .pointer none, .pointer none, .pointer none, .pointer none, .map none, .map none, .map none, .map none, .map none, .map none, .map none, .map none, .pointer (some ⟨tb, 0, none⟩), .int .i64 (f : Nat), .bool torn] := by
 rcases hf with rfl | rfl <;> cases torn <;> rfl
theorem ptO_file (tb : Nat) {f : Nat} (hf : f = 0 ∨ f = 1) (torn : Bool) : fileN (ptO tb f torn) = f ∧ tornB (ptO tb f torn) = torn := by
 rcases hf with rfl | rfl <;> cases torn <;> exact ⟨rfl, rfl⟩
structure OpL (w2 wr : World) (kb tb f : Nat) (torn : Bool) (es0 : List Ent) (i : Nat) (now : Int) (fl : Fls) : Prop where
 keep : ∃ ow pt n1 f1, KeepX wr ow kb n1 pt f1 ∧ (∀ k, k < kb → ow k = 0) ∧ (∀ j, 21 ≤ j → pt j = ptO tb f torn j) ∧ PlayE n1 f1 (es0.drop i) now fl ∧ 0 ≤ n1
 mod : Mod (fun k => kb ≤ k) w2 wr
 ge : w2.heap.size ≤ kb
theorem OpL.next {w2 wr w5 : World} {kb tb f i : Nat} {torn : Bool} {es0 : List Ent} {now : Int} {fl : Fls} (hk : w2.heap.size ≤ kb) (hm : Mod (fun k => kb ≤ k) w2 wr) {ow : Nat → Nat} {pt : Nat → Option Nat} (ho : ∀ k, k < kb → ow k = 0) (hp : ∀ j, 21 ≤ j → pt j = ptO tb f torn j) {n2 : Int} {f2 : Fls} (hX : KeptX wr w5 ow kb pt n2 f2) (hkl : kb < wr.heap.size) (hP : PlayE n2 f2 (es0.drop (i + 1)) now fl) (hn : 0 ≤ n2) : OpL w2 w5 kb tb f torn es0 (i + 1) now fl := by
 obtain ⟨⟨ow', pt', h1, h2, h3⟩, h4⟩ := hX
 exact ⟨⟨ow', pt', n2, f2, h1, fun k hk => by rw [h2 k (by omega)]; exact ho k hk, fun j hj => by rw [h3 j hj]; exact hp j hj, hP, hn⟩, hm.trans (h4.mono (fun k _ e => by
  have e : ow k ≠ 0 ∧ ow k < 30 := e
  show kb ≤ k
  by_cases q : k < kb
  ·exact absurd (ho k q) e.1
  ·omega)), hk⟩
structure OpenR (w w' : World) (sw : Nat → Nat) (kb tb f : Nat) (torn : Bool) (T : TP) (now : Int) (fl : Fls) : Prop where
 ex : ∃ ow pt, KeepT w' ow kb now pt fl ⟨tb, f, torn, true, T⟩ ∧ (∀ k, k < w.heap.size → ow k = if sw k = 30 then 30 else 0) ∧ ∀ j, 21 ≤ j → j < 29 → pt j = none
 new : w.heap.size ≤ kb
 mod : Mod (fun k => sw k = 30) w w'
theorem OpL.fin {w w2 wr : World} {sw : Nat → Nat} {kb tb f : Nat} {torn : Bool} {es0 : List Ent} {i : Nat} {now : Int} {fl : Fls} {T : TP} (h : OpL w2 wr kb tb f torn es0 i now fl) (hf : f = 0 ∨ f = 1) (hi : es0.length ≤ i) (hS : ∀ k, sw k = 30 → k < w.heap.size) (ht : TapeH w2 (fun k => sw k = 30) tb T) (hm : Mod (fun k => sw k = 30) w w2) : OpenR w wr sw kb tb f torn T now fl := by
 obtain ⟨⟨ow, pt, n1, f1, h1, h2, h3, h4, h5⟩, h6, h7⟩ := h
 rw [List.drop_eq_nil_of_le hi] at h4
 obtain ⟨rfl, rfl⟩ := h4
 have hw := hm.size
 have hfl := ptO_file tb hf torn
 have e30 := h3 30 (by omega)
 have e31 := h3 31 (by omega)
 refine ⟨⟨fun k => if k < w.heap.size then (if sw k = 30 then 30 else 0) else ow k, pt, ⟨?_, ?_, ?_, ?_, ?_⟩, fun k hk => if_pos hk, fun j hj hj2 => ?_⟩, by omega, hm.trans' h6 (fun k hk hl => by omega)⟩
 ·refine ⟨h1.has, by rw [if_neg (by omega)]; exact h1.mine, fun k hk => ?_, h1.gone, fun n p l hn hf => ?_⟩
  ·by_cases q : k < w.heap.size
   ·have := h6.size; omega
   ·rw [if_neg q] at hk
    exact h1.old k hk
  ·obtain ⟨b, q1, q2, q3⟩ := h1.here n p l hn hf
   refine ⟨b, q1, q2, q3.wide (fun k hk => ?_)⟩
   by_cases q : k < w.heap.size
   ·rw [h2 k (by omega)] at hk; omega
   ·rw [if_neg q]; exact hk
 ·rw [h3 29 (by omega)]; rfl
 ·have := hfl.1
  unfold fileN at this ⊢
  rw [e30]
  exact this
 ·have := hfl.2
  unfold tornB at this ⊢
  rw [e31]
  exact this
 ·refine (ht.mod h6 (fun k hk e => ?_)).wide (fun k hk => ?_)
  ·have := hS k hk; omega
  ·have := hS k hk
   show (if k < w.heap.size then (if sw k = 30 then 30 else 0) else ow k) = 30
   rw [if_pos this, if_pos hk]
 ·rw [h3 j hj]
  unfold ptO
  rw [if_neg (by omega), if_neg (by omega), if_neg (by omega)]
theorem EntV.iface {w : World} {lo : Nat} {v : Value} {e : Ent} (h : EntV w lo v e) : ∃ t u, v = .iface t u := by
 unfold EntV at h
 split at h
 ·obtain ⟨a, c, h1, _⟩ := h
  exact ⟨_, _, h1⟩
 ·rw [h]
  exact chV_iface _
theorem row_len {w : World} {b e k n m c : Nat} {a : Option Addr} {xs : List Value} (h : w.ownsRow b e k (.slice a n c) m xs) : n = m := by
 rcases h.2 with ⟨h1, h2⟩ | ⟨g, cp, cur, hv, _⟩
 ·injection h1 with _ h1 _
  omega
 ·injection hv
theorem open_any {w : World} {sw : Nat → Nat} {tb : Nat} {T : TP} (ht : TapeH w (fun k => sw k = 30) tb T) (hS : ∀ k, sw k = 30 → k < w.heap.size) (hroom : ¬ T.room < 200) (h0 : (T.b 0).length ≤ 1099511627776) (h1 : (T.b 1).length ≤ 1099511627776) {now : Int} {fl : Fls} (hnow : now ≤ 4611686018427387000)
  (hp : ∀ es, es = kEnts T 0 ∨ es = kEnts T 1 → es.length = (kEnts T (keptI T)).length → ∃ es0, es = es0.map canon ∧ PlayE 0 noFl es0 now fl) :
  Calls Try.prog 33 #[.pointer (some ⟨tb, 0, none⟩)] w fun e w' =>
   ((openT T).1 = 0 → ∃ kb, e = .returned (.tuple #[.pointer (some ⟨kb, 0, none⟩), .int .i64 0]) ∧ OpenR w w' sw kb tb (keptI T) (!(kAll T (keptI T))) (openT T).2 now fl) ∧
   ((openT T).1 ≠ 0 → e = .returned (.tuple #[.pointer none, .int .i64 16]) ∧ TapeH w' (fun k => sw k = 30) tb (openT T).2 ∧ Mod (fun k => sw k = 30) w w') := by
 obtain ⟨cs, hr1, hr2⟩ := ht.room
 have HR := hide (room_any tb T.room w cs hr1 hr2)
 have HO := hide (sopen_T ht hS h0 h1)
 have HSS := hide hS
 have HP := hide hp
 have hk01 : keptI T = 0 ∨ keptI T = 1 := by unfold keptI; split <;> simp
 have HK := hide hk01
 have HW := hide (show 0 ≤ w.heap.size by omega)
 clear ht hr1 hr2 hS h0 h1 hp
 generalize keptI T = f at *
 generalize kAll T f = al at *
 go_enter Try.func33, Try.ntmps33
 go_wp2_with fail
 refine (unhide HR).mono ?_
 rintro e w1 ⟨rfl, rfl⟩
 go_wp2_with fail
 refine (unhide HO).mono ?_
 rintro e w2 ⟨t2, m2, g2, b2⟩
 by_cases hz : (openT T).1 = 0
 ·obtain ⟨a, c, rfl, q⟩ := g2 hz
  obtain ⟨L, es, hrow, hent, hes⟩ := q.get
  have hlen : L.length = es.length := hent.len
  have hN : (kEnts T f).length = L.length := row_len hrow.row
  obtain ⟨es0, rfl, hplay⟩ := (unhide HP) es hes (by omega)
  have hl0 : L.length = es0.length := by rw [hlen, List.length_map]
  rw [hN]
  have hgl := hrow.row.1
  have mS : Mod No w2 (w2.alloc (.cells #[.pointer (some ⟨tb, 0, none⟩), .int .i64 f, .bool (!al)] 115)) := (Mod.refl _ _).alloc _
  have mK : Mod No w2 ((w2.alloc (.cells #[.pointer (some ⟨tb, 0, none⟩), .int .i64 f, .bool (!al)] 115)).alloc (.cells (keepCells 0 (ptO tb f (!al))) 117)) := mS.alloc _
  have hKE := keep_newO tb (unhide HK) (!al)
  have I0 : OpL w2 ((w2.alloc (.cells #[.pointer (some ⟨tb, 0, none⟩), .int .i64 f, .bool (!al)] 115)).alloc (.cells (keepCells 0 (ptO tb f (!al))) 117)) (w2.heap.size + 1) tb f (!al) es0 0 now fl := by
   refine ⟨⟨fun k => if k = w2.heap.size + 1 then 1 else 0, ptO tb f (!al), 0, noFl, ⟨?_, if_pos rfl, fun k hk => ?_, fun n hn _ => ?_, fun n p l hn hf => by cases hf⟩, fun k hk => if_neg (by omega), fun j _ => rfl, by simpa using hplay, by omega⟩, mK.mono (fun _ _ x => x.elim), by omega⟩
   ·exact Has.new2' w2 _ _ _
   ·by_cases e : k = w2.heap.size + 1
    ·rw [e]; simp
    ·rw [if_neg e] at hk; exact absurd rfl hk
   ·unfold ptO
    rw [if_neg (by omega), if_neg (by omega), if_neg (by omega)]
  rw [hKE] at I0 mK
  have I0 := hide I0
  have HT2 := hide t2
  have M2 := hide m2
  have HRW := hide hrow
  have HEN := hide hent
  have hLN : L.length ≤ 9223372036854775807 := by
   rcases hrow.row.2 with ⟨_, h2⟩ | ⟨g, cp, cur, hv, _, _, h2, h3, _⟩
   ·omega
   ·unfold maxLen at h3; omega
  have HZ := hide hz
  have HL0 := hide hl0
  clear hl0 t2 m2 g2 b2 HO HR HP hplay hlen hN hgl mS mK hKE hrow hent hes q hz
  go_wp2_with fail
  go_loopw [31] (fun s wr => ∃ i : Nat, s = .int .i64 i ∧ i ≤ L.length ∧ Hid (OpL w2 wr (w2.heap.size + 1) tb f (!al) es0 i now fl)) (fun s _ => L.length - (intOf s).toNat)
  case atStart => exact ⟨0, rfl, by omega, I0⟩
  case round =>
   obtain ⟨i, rfl, hi, I1⟩ := hrel
   clear I0
   by_cases hlt : i < L.length
   ·have hlt1 : (i : Int) < (L.length : Int) := by omega
    have hm2 := (unhide I1).mod
    have hrw := (unhide HRW).mod' hm2 (fun k hk hl e => by omega)
    have hen := (unhide HEN).mod' hm2 (fun k hk hl e => by omega)
    obtain ⟨g, rfl, hg, c0, c1⟩ := ent_cells hrw i hlt
    obtain ⟨x1, x2⟩ := hen.get i hlt (by rw [List.length_map, ← unhide HL0]; exact hlt)
    rw [List.getElem_map] at x1 x2
    have hlz : i < es0.length := by rw [← unhide HL0]; exact hlt
    obtain ⟨ow, pt, n1, f1, k1, k2, k3, k4, k5⟩ := (unhide I1).keep
    have hd : es0.drop i = es0[i]'hlz :: es0.drop (i + 1) := List.drop_eq_getElem_cons hlz
    rw [hd] at k4
    obtain ⟨n2, f2, k6, k7⟩ := k4
    have hlate := playE_late _ k7
    have hlate2 := stepE_late k6
    have hw1 : IntKind.i64.wrap ((i : Int) + 1) = ((i + 1 : Nat) : Int) := by rw [IntKind.wrap_i64]; omega
    generalize hu : L[i].2 = u at *
    obtain ⟨ut, uv, rfl⟩ := x2.iface
    rw [x1] at c0
    have mA : Mod No wr (wr.alloc (.cells #[.int .i64 (canon es0[i]).fl, .iface ut uv] 124)) := (Mod.refl _ _).alloc _
    have hap := applyE_any (k1.mod mA (fun _ _ x => x)) (by omega) k6 (x2.mod mA (fun _ _ x => x))
    generalize (canon es0[i]).fl = ff at *
    have HAP := hide hap
    have HNX := hide fun w5 (hX : KeptX (wr.alloc (.cells #[.int .i64 ff, .iface ut uv] 124)) w5 ow (w2.heap.size + 1) pt n2 f2) => OpL.next (i := i) (unhide I1).ge (hm2.alloc _) k2 k3 hX (by rw [World.size_alloc]; have := k1.has.lt; omega) k7 (by omega)
    have HLZ := hide hlz
    clear hlz hm2 hrw hen x1 x2 k1 k2 k3 k6 k7 hd mA hap hlate hlate2 k5
    go_wp2_with fail
    refine (unhide HAP).mono ?_
    rintro e w5 ⟨rfl, hX⟩
    have N5 := hide ((unhide HNX) w5 hX)
    clear hX HAP HNX
    go_wp2
    exact ⟨⟨i + 1, rfl, by omega, N5⟩, by simp [intOf]; omega⟩
   ·have hlt1 : ¬ (i : Int) < (L.length : Int) := by omega
    have FIN := hide ((unhide I1).fin (unhide HK) (by have := unhide HL0; omega) (unhide HSS) (unhide HT2) (unhide M2))
    clear I1
    go_wp2_with fail
    go_ret2
    exact ⟨fun _ => ⟨_, rfl, unhide FIN⟩, fun h => absurd (unhide HZ) h⟩
 ·have e2 := b2 hz
  subst e2
  have mS : Mod No w2 (w2.alloc (.cells #[.pointer none, .int .i64 0, .bool false] 115)) := (Mod.refl _ _).alloc _
  have FIN := hide (And.intro (t2.mod0 mS) (m2.trans (mS.mono fun _ _ x => x.elim)))
  clear t2 m2 g2 b2 HO HR HP mS
  go_wp2_with fail
  go_ret2
  exact ⟨fun h => absurd h hz, fun _ => ⟨rfl, unhide FIN⟩⟩
set_option maxHeartbeats 2000000
structure Ask (f : Sea → Bool) : Prop where
 full : ∀ s, f s = true → s.st ≠ 0
 at_ : ∀ s x, f (Sea.at s x) = f s
theorem Ask.free {f : Sea → Bool} (h : Ask f) {s : Sea} (h0 : s.st = 0) : f s = false := by
 cases hf : f s with
 | false => rfl
 | true => exact absurd h0 (h.full s hf)
def sold1 (f : Sea → Bool) (s : Sea) : Nat := if f s = true then 1 else 0
theorem count_put (f : Sea → Bool) (acc : List Sea) (j : Nat) (h : j < acc.length) (s : Sea) : (acc.set j s).countP f + sold1 f acc[j] = acc.countP f + sold1 f s := by
 have := countP_set f acc j h s
 unfold sold1
 cases h1 : f acc[j] <;> cases h2 : f s <;> simp [h1, h2] at this ⊢ <;> omega
theorem count_step (f : Sea → Bool) (l : List Sea) (i : Nat) (h : i < l.length) : (l.take (i + 1)).countP f = (l.take i).countP f + sold1 f l[i] := by
 rw [take_succ l i h, List.countP_append]
 unfold sold1
 cases hf : f l[i] <;> simp [hf]
theorem count_empty {f : Sea → Bool} (h : Ask f) (q : Pla) : (emptySeats q).countP f = 0 := by
 rw [List.countP_eq_zero]
 intro s hs
 simp only [emptySeats, List.mem_map] at hs
 obtain ⟨i, _, rfl⟩ := hs
 rw [h.free rfl]
 simp
theorem stay_count {f : Sea → Bool} (h : Ask f) {p q : Pla} {l : List Sea} (hwf : Wf p l) (h1 : q.sized = true) (h2 : q.limited = true) : ∀ i, i ≤ l.length → (stay q (l.take i)).countP f + (homeless q (l.take i)).countP f = (l.take i).countP f
 | 0, _ => by
  show (emptySeats q).countP f + 0 = 0
  rw [count_empty h]
 | i + 1, hi => by
  have ih := stay_count h hwf h1 h2 i (by omega)
  have hS := stayed_take hwf h1 h2 i (by omega)
  rw [stay_take q l i (by omega), homeless_take q l i (by omega), List.countP_append, count_step f l i (by omega)]
  unfold stayStep
  by_cases hc : l[i].st ≠ 0 ∧ q.has l[i].row l[i].col = true
  ·rw [if_pos hc, if_neg (fun x => x.2 hc.2)]
   obtain ⟨hj, f0, _, _⟩ := hS.free hwf (by omega) hc.2
   have := count_put f (stay q (l.take i)) _ hj l[i]
   have e0 : sold1 f (stay q (l.take i))[q.idx l[i].row l[i].col] = 0 := by unfold sold1; rw [h.free f0]; rfl
   simp only [List.countP_nil]
   omega
  ·rw [if_neg hc]
   by_cases h0 : l[i].st = 0
   ·rw [if_neg (fun x => x.1 h0)]
    have e0 : sold1 f l[i] = 0 := by unfold sold1; rw [h.free h0]; rfl
    simp only [List.countP_nil]
    omega
   ·rw [if_pos ⟨h0, fun x => hc ⟨h0, x⟩⟩]
    have : List.countP f [l[i]] = sold1 f l[i] := by
     unfold sold1
     cases hf : f l[i] <;> simp [hf]
    omega
theorem reseat_count {f : Sea → Bool} (h : Ask f) {q : Pla} : ∀ (hs acc : List Sea), (∀ s ∈ hs, s.wf ∧ s.st ≠ 0) → Reseat q acc hs.length → (hs.foldl reseatStep acc).countP f = acc.countP f + hs.countP f
 | [], acc, _, _ => by simp
 | s :: hs, acc, ho, hr => by
  have hr' : Reseat q acc (hs.length + 1) := hr
  have h1 := ho s (List.mem_cons_self)
  have ih := reseat_count h hs (reseatStep acc s) (fun x hx => ho x (List.mem_cons_of_mem _ hx)) (hr'.step h1.1 h1.2)
  have hl := firstFree_lt hr'
  have e : acc.getD (firstFree acc) noSea = acc[firstFree acc] := by
   rw [List.getD_eq_getElem?_getD, List.getElem?_eq_getElem hl]; rfl
  have hp := count_put f acc (firstFree acc) hl (Sea.at s acc[firstFree acc])
  have e0 : sold1 f acc[firstFree acc] = 0 := by unfold sold1; rw [h.free (firstFree_at hl)]; rfl
  have e1 : sold1 f (Sea.at s acc[firstFree acc]) = sold1 f s := by unfold sold1; rw [h.at_]
  have e2 : (reseatStep acc s).countP f = acc.countP f + sold1 f s := by
   unfold reseatStep
   rw [e]
   omega
  rw [List.foldl_cons, ih, e2, List.countP_cons]
  unfold sold1
  omega
theorem swap_count {f : Sea → Bool} (h : Ask f) {p q : Pla} {l : List Sea} (hwf : Wf p l) (h1 : q.sized = true) (h2 : q.limited = true) (hn : ¬ q.rows * q.cols < (nFull l : Int)) : (swapSeats q l).countP f = l.countP f := by
 unfold swapSeats
 rw [reseat_count h _ _ (homeless_ok hwf) (reseat_start hwf h1 h2 hn)]
 have := stay_count h hwf h1 h2 l.length (Nat.le_refl _)
 rw [List.take_length] at this
 exact this
open Go.ChangeMaps (setBlock)
attribute [local go_sem] idx40_0 idx40_1 idx40_2 idx40_3
attribute [local go_sem ↓] run_min2 run_max2
theorem fleft_walk (b : Nat) (r c f l0 l1 l2 l3 : Int) (m : Value) (a0 a1 a2 a3 b0 b1 b2 b3 s0 s1 s2 s3 e0 e1 e2 e3 ep : Int) (w : World)
  (h : Has w b (fcs r c f l0 l1 l2 l3 m a0 a1 a2 a3 b0 b1 b2 b3 s0 s1 s2 s3 e0 e1 e2 e3 ep) 138) :
  Calls Try.prog 47 #[.pointer (some ⟨b, 0, none⟩)] w fun e w' => e = .returned (.agg #[.int .i64 (min e0 9), .int .i64 (min e1 9), .int .i64 (min e2 9), .int .i64 (min e3 9)]) ∧ Mod No w w' := by
 have hc := h.cell
 have hlt := h.lt
 unfold fcs at hc
 clear h
 go_enter Try.func47, Try.ntmps47
 go_wp2_with fail
 clear hc
 go_loopw [11] (fun i wr => Hid (Mod No w wr) ∧ Hid (Has wr w.heap.size #[.int .i64 0, .int .i64 0, .int .i64 0, .int .i64 0] 33) ∧
   ((i = .int .i64 0 ∧ Hid (Has wr (w.heap.size + 1) #[.int .i64 e0, .int .i64 e1, .int .i64 e2, .int .i64 e3] 33)) ∨
    (i = .int .i64 1 ∧ Hid (Has wr (w.heap.size + 1) #[.int .i64 (min e0 9), .int .i64 e1, .int .i64 e2, .int .i64 e3] 33)) ∨
    (i = .int .i64 2 ∧ Hid (Has wr (w.heap.size + 1) #[.int .i64 (min e0 9), .int .i64 (min e1 9), .int .i64 e2, .int .i64 e3] 33)) ∨
    (i = .int .i64 3 ∧ Hid (Has wr (w.heap.size + 1) #[.int .i64 (min e0 9), .int .i64 (min e1 9), .int .i64 (min e2 9), .int .i64 e3] 33)) ∨
    (i = .int .i64 4 ∧ Hid (Has wr (w.heap.size + 1) #[.int .i64 (min e0 9), .int .i64 (min e1 9), .int .i64 (min e2 9), .int .i64 (min e3 9)] 33)))) (fun i _ => 4 - (intOf i).toNat)
 case atStart =>
  refine ⟨((Mod.refl No w).alloc _).alloc _, (Has.new w _ _).alloc _, .inl ⟨rfl, hide ?_⟩⟩
  have := Has.new (w.alloc (.cells #[.int .i64 0, .int .i64 0, .int .i64 0, .int .i64 0] 33)) #[.int .i64 e0, .int .i64 e1, .int .i64 e2, .int .i64 e3] 33
  simpa using this
 case round =>
  obtain ⟨hm, h0, hr⟩ := hrel
  have hz0 := (unhide h0).frozen
  have hc0 := (unhide h0).cell
  have hl0 := (unhide h0).lt
  rcases hr with ⟨rfl, hr⟩ | ⟨rfl, hr⟩ | ⟨rfl, hr⟩ | ⟨rfl, hr⟩ | ⟨rfl, hr⟩
  case inr.inr.inr.inr =>
   have hc1 := (unhide hr).cell
   have hl1 := (unhide hr).lt
   have d0 : wr.cell? ⟨w.heap.size, 0, none⟩ = some (.int .i64 0) := hc0 0
   have d1 : wr.cell? ⟨w.heap.size, 1, none⟩ = some (.int .i64 0) := hc0 1
   have d2 : wr.cell? ⟨w.heap.size, 2, none⟩ = some (.int .i64 0) := hc0 2
   have d3 : wr.cell? ⟨w.heap.size, 3, none⟩ = some (.int .i64 0) := hc0 3
   go_wp2
   refine bodyPost_ret (by simp [results, Try.results47, go_sem, d0, d1, d2, d3]; try rfl) rfl ?_
   exact ⟨rfl, by repeat' (first | with_reducible exact unhide hm | refine Mod.setCell ?_ (Or.inr (Nat.le_refl _)) _)⟩
  all_goals
   have hc1 := (unhide hr).cell
   have hl1 := (unhide hr).lt
   have hz1 := (unhide hr).frozen
   go_wp2
   go_roundw
   ·have s0 := (unhide hr).set 0 (.int .i64 (min e0 9))
    have s1 := (unhide hr).set 1 (.int .i64 (min e1 9))
    have s2 := (unhide hr).set 2 (.int .i64 (min e2 9))
    have s3 := (unhide hr).set 3 (.int .i64 (min e3 9))
    refine ⟨(unhide hm).setCell (.inr (Nat.le_succ _)) _, (unhide h0).set_ne (by simp) _, ?_⟩
    first
     |(refine .inr (.inl ⟨rfl, ?_⟩); exact s0)
     |(refine .inr (.inr (.inl ⟨rfl, ?_⟩)); exact s1)
     |(refine .inr (.inr (.inr (.inl ⟨rfl, ?_⟩))); exact s2)
     |(refine .inr (.inr (.inr (.inr ⟨rfl, ?_⟩))); exact s3)
   ·simp [intOf]
theorem ftotals_walk (b : Nat) (r c f l0 l1 l2 l3 : Int) (m : Value) (a0 a1 a2 a3 b0 b1 b2 b3 s0 s1 s2 s3 e0 e1 e2 e3 ep : Int) (w : World)
  (h : Has w b (fcs r c f l0 l1 l2 l3 m a0 a1 a2 a3 b0 b1 b2 b3 s0 s1 s2 s3 e0 e1 e2 e3 ep) 138) :
  Calls Try.prog 45 #[.pointer (some ⟨b, 0, none⟩)] w fun e w' => e = .returned (.agg #[.int .i64 a0, .int .i64 a1, .int .i64 a2, .int .i64 a3, .int .i64 b0, .int .i64 b1, .int .i64 b2, .int .i64 b3, .int .i64 s0, .int .i64 s1, .int .i64 s2, .int .i64 s3]) ∧ Mod No w w' := by
 have hc := h.cell
 have hlt := h.lt
 unfold fcs at hc
 clear h
 go_enter Try.func45, Try.ntmps45
 go_wp2
 go_returns
 exact ⟨rfl, (Mod.refl _ _).alloc _⟩
theorem left_none (kb : Nat) (n c : Int) (w : World) (hF : Calls Try.prog 44 #[.pointer (some ⟨kb, 0, none⟩), .int .i64 n] w fun e w' => e = .returned (.pointer none) ∧ w' = w) :
  Calls Try.prog 25 #[.pointer (some ⟨kb, 0, none⟩), .int .i64 n, .int .i64 c] w fun e w' => e = .returned (.tuple #[.int .i64 0, .int .i64 2]) ∧ Mod No w w' := by
 have HF := hide hF
 clear hF
 go_enter Try.func25, Try.ntmps25
 go_wp2_with fail
 refine (unhide HF).mono ?_
 rintro e w1 ⟨rfl, rfl⟩
 go_wp2
 go_ret2
 exact ⟨rfl, Mod.refl _ _⟩
theorem left_class (kb b : Nat) (n c : Int) (hc : ¬ (0 ≤ c ∧ c < 4)) (w : World) (hF : Calls Try.prog 44 #[.pointer (some ⟨kb, 0, none⟩), .int .i64 n] w fun e w' => e = .returned (.pointer (some ⟨b, 0, none⟩)) ∧ w' = w) :
  Calls Try.prog 25 #[.pointer (some ⟨kb, 0, none⟩), .int .i64 n, .int .i64 c] w fun e w' => e = .returned (.tuple #[.int .i64 0, .int .i64 6]) ∧ Mod No w w' := by
 have HF := hide hF
 clear hF
 rcases Int.lt_or_le c 0 with h1 | h1
 ·clear hc
  go_enter Try.func25, Try.ntmps25
  go_wp2_with fail
  refine (unhide HF).mono ?_
  rintro e w1 ⟨rfl, rfl⟩
  go_wp2
  go_ret2
  exact ⟨rfl, Mod.refl _ _⟩
 ·have h2 : ¬ c < 0 := by omega
  have h3 : c ≥ 4 := by omega
  clear hc
  go_enter Try.func25, Try.ntmps25
  go_wp2_with fail
  refine (unhide HF).mono ?_
  rintro e w1 ⟨rfl, rfl⟩
  go_wp2
  go_ret2
  exact ⟨rfl, Mod.refl _ _⟩
theorem left_walk (kb b : Nat) (n : Int) (k : Nat) (hk : k < 4) (e0 e1 e2 e3 : Int) (w : World) (hF : Calls Try.prog 44 #[.pointer (some ⟨kb, 0, none⟩), .int .i64 n] w fun e w' => e = .returned (.pointer (some ⟨b, 0, none⟩)) ∧ w' = w)
  (hE : Calls Try.prog 47 #[.pointer (some ⟨b, 0, none⟩)] w fun e w' => e = .returned (.agg #[.int .i64 e0, .int .i64 e1, .int .i64 e2, .int .i64 e3]) ∧ Mod No w w') :
  Calls Try.prog 25 #[.pointer (some ⟨kb, 0, none⟩), .int .i64 n, .int .i64 k] w fun e w' => e = .returned (.tuple #[.int .i64 (if k = 0 then e0 else if k = 1 then e1 else if k = 2 then e2 else e3), .int .i64 0]) ∧ Mod No w w' := by
 have HF := hide hF
 have HE := hide hE
 clear hF hE
 have : k = 0 ∨ k = 1 ∨ k = 2 ∨ k = 3 := by omega
 rcases this with rfl | rfl | rfl | rfl
 all_goals
  go_enter Try.func25, Try.ntmps25
  go_wp2_with fail
  refine (unhide HF).mono ?_
  rintro e w1 ⟨rfl, rfl⟩
  go_wp2_with fail
  refine (unhide HE).mono ?_
  rintro e w2 ⟨rfl, m2⟩
  go_wp2
  go_ret2
  exact ⟨rfl, m2⟩
def zero51 : Array Value := #[.int .i64 0, .int .i64 0, .int .i64 0, .int .i64 0, .int .i64 0, .int .i64 0, .int .i64 0, .int .i64 0, .int .i64 0, .int .i64 0, .int .i64 0, .int .i64 0]
theorem count_none (kb : Nat) (n : Int) (w : World) (hF : ∀ W, Mod No w W → Calls Try.prog 44 #[.pointer (some ⟨kb, 0, none⟩), .int .i64 n] W fun e w' => e = .returned (.pointer none) ∧ w' = W) :
  Calls Try.prog 19 #[.pointer (some ⟨kb, 0, none⟩), .int .i64 n] w fun e w' => e = .returned (.tuple #[.agg zero51, .int .i64 2]) ∧ Mod No w w' := by
 have HF := hide hF
 have M0 := hide ((Mod.refl No w).alloc (.cells zero51 45))
 unfold zero51 at *
 clear hF
 go_enter Try.func19, Try.ntmps19
 go_wp2_with fail
 refine ((unhide HF) _ (unhide M0)).mono ?_
 rintro e w1 ⟨rfl, rfl⟩
 go_wp2
 go_returns
 exact ⟨rfl, unhide M0⟩
theorem set12 (z a0 a1 a2 a3 b0 b1 b2 b3 s0 s1 s2 s3 : Value) : (((((((((((((#[z, z, z, z, z, z, z, z, z, z, z, z] : Array Value).setIfInBounds 0 a0).setIfInBounds 1 a1).setIfInBounds 2 a2).setIfInBounds 3 a3).setIfInBounds 4 b0).setIfInBounds 5 b1).setIfInBounds 6 b2).setIfInBounds 7 b3).setIfInBounds 8 s0).setIfInBounds 9 s1).setIfInBounds 10 s2).setIfInBounds 11 s3) = #[a0, a1, a2, a3, b0, b1, b2, b3, s0, s1, s2, s3] := by
 simp
theorem post_world {P : Program} {f : Func} {post : Ending → World → Prop} {ex : Exit} {a : Act} {w : World} (R : World → Prop) (h : R w) (k : ∀ w, R w → bodyPost P f post ex a w) : bodyPost P f post ex a w := k w h
theorem count_walk (kb b : Nat) (n : Int) (a0 a1 a2 a3 b0 b1 b2 b3 s0 s1 s2 s3 : Int) (w : World) (hF : ∀ W, Mod No w W → Calls Try.prog 44 #[.pointer (some ⟨kb, 0, none⟩), .int .i64 n] W fun e w' => e = .returned (.pointer (some ⟨b, 0, none⟩)) ∧ w' = W)
  (hT : ∀ W, Mod No w W → Calls Try.prog 45 #[.pointer (some ⟨b, 0, none⟩)] W fun e w' => e = .returned (.agg #[.int .i64 a0, .int .i64 a1, .int .i64 a2, .int .i64 a3, .int .i64 b0, .int .i64 b1, .int .i64 b2, .int .i64 b3, .int .i64 s0, .int .i64 s1, .int .i64 s2, .int .i64 s3]) ∧ Mod No W w') :
  Calls Try.prog 19 #[.pointer (some ⟨kb, 0, none⟩), .int .i64 n] w fun e w' => e = .returned (.tuple #[.agg #[.int .i64 a0, .int .i64 a1, .int .i64 a2, .int .i64 a3, .int .i64 b0, .int .i64 b1, .int .i64 b2, .int .i64 b3, .int .i64 s0, .int .i64 s1, .int .i64 s2, .int .i64 s3], .int .i64 0]) ∧ Mod No w w' := by
 have HF := hide hF
 have HT := hide hT
 have M0 := hide ((Mod.refl No w).alloc (.cells zero51 45))
 have B0 := hide (Has.new w zero51 45)
 unfold zero51 at *
 clear hF hT
 go_enter Try.func19, Try.ntmps19
 go_wp2_with fail
 refine ((unhide HF) _ (unhide M0)).mono ?_
 rintro e w1 ⟨rfl, rfl⟩
 go_wp2_with fail
 refine ((unhide HT) _ (unhide M0)).mono ?_
 rintro e w2 ⟨rfl, m2⟩
 have h2 := m2.has (unhide B0) (fun x => x)
 have c2 := h2.cell
 have f2 := h2.frozen
 have l2 := h2.lt
 have M2 := hide ((unhide M0).trans m2)
 clear m2
 go_wp2
 refine post_world (fun W => Has W w.heap.size #[.int .i64 a0, .int .i64 a1, .int .i64 a2, .int .i64 a3, .int .i64 b0, .int .i64 b1, .int .i64 b2, .int .i64 b3, .int .i64 s0, .int .i64 s1, .int .i64 s2, .int .i64 s3] 45 ∧ Mod No w W) ?_ ?_
 ·have q := (((((((((((h2.set 0 (.int .i64 a0)).set 1 (.int .i64 a1)).set 2 (.int .i64 a2)).set 3 (.int .i64 a3)).set 4 (.int .i64 b0)).set 5 (.int .i64 b1)).set 6 (.int .i64 b2)).set 7 (.int .i64 b3)).set 8 (.int .i64 s0)).set 9 (.int .i64 s1)).set 10 (.int .i64 s2)).set 11 (.int .i64 s3)
  rw [set12] at q
  refine ⟨q, ?_⟩
  have hp : ∀ (o : Nat), No (⟨w.heap.size, o, none⟩ : Addr).block ∨ w.heap.size ≤ (⟨w.heap.size, o, none⟩ : Addr).block := fun o => .inr (Nat.le_refl _)
  exact ((((((((((((unhide M2).setCell (hp 0) _).setCell (hp 1) _).setCell (hp 2) _).setCell (hp 3) _).setCell (hp 4) _).setCell (hp 5) _).setCell (hp 6) _).setCell (hp 7) _).setCell (hp 8) _).setCell (hp 9) _).setCell (hp 10) _).setCell (hp 11) _
 ·clear h2 c2 f2 l2 M2
  intro w3 ⟨h3, m3⟩
  have d0 : w3.cell? ⟨w.heap.size, 0, none⟩ = some (.int .i64 a0) := h3.cell 0
  have d1 : w3.cell? ⟨w.heap.size, 1, none⟩ = some (.int .i64 a1) := h3.cell 1
  have d2 : w3.cell? ⟨w.heap.size, 2, none⟩ = some (.int .i64 a2) := h3.cell 2
  have d3 : w3.cell? ⟨w.heap.size, 3, none⟩ = some (.int .i64 a3) := h3.cell 3
  have d4 : w3.cell? ⟨w.heap.size, 4, none⟩ = some (.int .i64 b0) := h3.cell 4
  have d5 : w3.cell? ⟨w.heap.size, 5, none⟩ = some (.int .i64 b1) := h3.cell 5
  have d6 : w3.cell? ⟨w.heap.size, 6, none⟩ = some (.int .i64 b2) := h3.cell 6
  have d7 : w3.cell? ⟨w.heap.size, 7, none⟩ = some (.int .i64 b3) := h3.cell 7
  have d8 : w3.cell? ⟨w.heap.size, 8, none⟩ = some (.int .i64 s0) := h3.cell 8
  have d9 : w3.cell? ⟨w.heap.size, 9, none⟩ = some (.int .i64 s1) := h3.cell 9
  have d10 : w3.cell? ⟨w.heap.size, 10, none⟩ = some (.int .i64 s2) := h3.cell 10
  have d11 : w3.cell? ⟨w.heap.size, 11, none⟩ = some (.int .i64 s3) := h3.cell 11
  have l3 := h3.lt
  clear h3
  clear M0 B0 HF HT
  refine bodyPost_ret (by simp [results, Try.results19, go_sem, d0, d1, d2, d3, d4, d5, d6, d7, d8, d9, d10, d11]; try rfl) rfl ?_
  exact ⟨rfl, m3⟩
end Go.Proofs.Ythhibagcpjeihaa
