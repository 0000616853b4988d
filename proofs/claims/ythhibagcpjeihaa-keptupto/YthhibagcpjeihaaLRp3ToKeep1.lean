import Derived.Test.YthhibagcpjeihaaLWr3ToWr5
import Derived.Test.YthhibagcpjeihaaLWr6ToEnt2
import Derived.Test.YthhibagcpjeihaaLTape3ToWr1
import Derived.Test.YthhibagcpjeihaaLSwap2ToWr2
namespace Go.Proofs.Ythhibagcpjeihaa
open Go.RowKit
open M
set_option linter.unusedVariables false
set_option linter.unusedSimpArgs false
set_option maxRecDepth 100000
def byteP (l : List Int) : Option (Int × List Int) := match l with
 | [] => none
 | c :: r => some (c, r)
def fillsP (now : Int) : Nat → List Sea → List Int → Option (List Sea × List Int)
 | 0, acc, l => some (acc, l)
 | n + 1, acc, l => bindP (fillP now l) fun s r => fillsP now n (acc ++ [s]) r
def wholeP (now : Int) (l : List Int) : Option ((Pla × List Sea) × List Int) :=
 bindP (planeP l) fun p r => bindP (numP r 0 0) fun ep r => bindP (numP r 0 0) fun n r => bindP (fillsP now n.toNat [] r) fun ss r => some ((p.at ep, ss), r)
def noPla : Pla := ⟨0, 0, 0, 0, 0, 0, 0, 0⟩
def eStart (f : Int) (p : Pla) : Ent := ⟨f, 1, p.at 0, noSea, 0, 0, 0, []⟩
def eFill (f : Int) (s : Sea) : Ent := ⟨f, 2, noPla, s, 0, 0, 0, []⟩
def eEmpty (f r c : Int) : Ent := ⟨f, 3, noPla, ⟨r, c, 0, 0, 0, 0⟩, 0, 0, 0, []⟩
def eShift (f r c tr tc : Int) : Ent := ⟨f, 4, noPla, ⟨r, c, 0, 0, 0, 0⟩, tr, tc, 0, []⟩
def eRefit (f a b c : Int) : Ent := ⟨f, 5, ⟨a, b, c, 0, 0, 0, 0, 0⟩, noSea, 0, 0, 0, []⟩
def ePass (f now : Int) : Ent := ⟨f, 6, noPla, noSea, 0, 0, now, []⟩
def eWhole (f : Int) (p : Pla) (ss : List Sea) : Ent := ⟨f, 7, p, noSea, 0, 0, 0, ss⟩
def canon (e : Ent) : Ent :=
 if e.kind = 1 then eStart e.fl e.pla
 else if e.kind = 2 then eFill e.fl e.sea
 else if e.kind = 3 then eEmpty e.fl e.sea.row e.sea.col
 else if e.kind = 4 then eShift e.fl e.sea.row e.sea.col e.tr e.tc
 else if e.kind = 5 then eRefit e.fl e.pla.rows e.pla.cols e.pla.front
 else if e.kind = 6 then ePass 0 e.now
 else eWhole e.fl e.pla e.seats
def entP (now : Int) (h : Int) (l : List Int) : Option ((Ent × Int) × List Int) :=
 if h / 32 = 1 then bindP (planeP l) fun p r => some ((eStart (h % 32) p, now), r)
 else if h / 32 = 2 then bindP (fillP now l) fun s r => some ((eFill (h % 32) s, now), r)
 else if h / 32 = 3 then bindP (placeP l) fun p r => some ((eEmpty (h % 32) p.1 p.2, now), r)
 else if h / 32 = 4 then bindP (placeP l) fun p r => bindP (placeP r) fun q r => some ((eShift (h % 32) p.1 p.2 q.1 q.2, now), r)
 else if h / 32 = 5 then bindP (shapeP l) fun p r => some ((eRefit (h % 32) p.1 p.2.1 p.2.2, now), r)
 else if h / 32 = 6 then bindP (numP l 0 0) fun n r => some ((ePass (h % 32) (wrap64 (now + n)), wrap64 (now + n)), r)
 else if h / 32 = 7 then bindP (wholeP now l) fun x r => some ((eWhole (h % 32) x.1 x.2, now), r)
 else none
def entryP (now : Int) (l : List Int) : Option ((Ent × Int) × List Int) := bindP (byteP l) fun h r => entP now h r
def entsP : Nat → Int → List Ent → List Int → Option ((List Ent × Int) × List Int)
 | 0, now, acc, l => some ((acc, now), l)
 | n + 1, now, acc, l => bindP (entryP now l) fun x r => entsP n x.2 (acc ++ [x.1]) r
def bodyP (now : Int) (l : List Int) : Option ((List Ent × Int) × List Int) := bindP (numP l 0 0) fun n r => entsP n.toNat now [] r
def recP (now : Int) (l : List Int) : Option ((List Ent × Int) × List Int) := bindP (bodyP now l) fun x r => bindP (byteP r) fun b r => if b = 229 then some (x, r) else none
def readP : Nat → Int → List Int → List Ent × Bool
 | 0, _, l => ([], l.isEmpty)
 | k + 1, now, l => if l = [] then ([], true) else match recP now l with
  | none => ([], false)
  | some ((es, now'), r) => (es ++ (readP k now' r).1, (readP k now' r).2)
theorem readP_succ (k : Nat) (now : Int) (l : List Int) : readP (k + 1) now l = if l = [] then ([], true) else match recP now l with
  | none => ([], false)
  | some ((es, now'), r) => (es ++ (readP k now' r).1, (readP k now' r).2) := rfl
structure EFit (now : Int) (e : Ent) : Prop where
 k : 1 ≤ e.kind ∧ e.kind ≤ 7
 c : e.kind ≠ 7 → CFit now e
 s : e.kind = 2 → e.sea.wf
 fl : e.kind = 7 → 0 ≤ e.fl ∧ e.fl < 32
 p : e.kind = 7 → (0 ≤ e.pla.rows ∧ e.pla.rows < 128) ∧ (0 ≤ e.pla.cols ∧ e.pla.cols < 128) ∧ (0 ≤ e.pla.front ∧ e.pla.front < 128) ∧ (∀ k, 0 ≤ e.pla.lim k ∧ e.pla.lim k < 16384) ∧ 0 ≤ e.pla.ep ∧ e.pla.ep ≤ 4611686018427387904
 w : e.kind = 7 → e.seats.length ≤ 120 ∧ ∀ s ∈ e.seats, SFit now s ∧ s.wf
def entsNow : Int → List Ent → Int
 | now, [] => now
 | now, e :: r => entsNow (entNow now e) r
def EsFit : Int → List Ent → Prop
 | _, [] => True
 | now, e :: r => EFit now e ∧ EsFit (entNow now e) r
theorem fillsP_fillsB {now : Int} : ∀ (ss acc : List Sea), (∀ s ∈ ss, SFit now s ∧ s.wf) → ∀ t, fillsP now ss.length acc (fillsB now ss ++ t) = some (acc ++ ss, t)
 | [], acc, _, t => by simp [fillsP, fillsB]
 | s :: ss, acc, h, t => by
  have h1 := h s (by simp)
  show bindP (fillP now (fillB now s ++ fillsB now ss ++ t)) _ = _
  rw [List.append_assoc, fillP_fillB h1.1 h1.2]
  show fillsP now ss.length (acc ++ [s]) (fillsB now ss ++ t) = _
  rw [fillsP_fillsB ss (acc ++ [s]) (fun x hx => h x (by simp [hx])) t]
  simp
theorem wholeP_wholeB {now : Int} {e : Ent} (h : EFit now e) (h7 : e.kind = 7) (t : List Int) : wholeP now (wholeB now e.pla e.seats ++ t) = some ((e.pla, e.seats), t) := by
 obtain ⟨p1, p2, p3, p4, p5, p6⟩ := h.p h7
 obtain ⟨w1, w2⟩ := h.w h7
 have l0 := p4 0
 have l1 := p4 1
 have l2 := p4 2
 have l3 := p4 3
 simp only [Pla.lim] at l0 l1 l2 l3
 unfold wholeP wholeB
 rw [List.append_assoc, List.append_assoc, List.append_assoc, planeP_planeB ⟨⟨p1.1, by omega⟩, ⟨p2.1, by omega⟩, p3.1, by omega⟩ ⟨l0.1, by omega⟩ ⟨l1.1, by omega⟩ ⟨l2.1, by omega⟩ ⟨l3.1, by omega⟩]
 simp only [bindP]
 rw [numP_numB p5 (by omega)]
 simp only
 rw [numP_numB (by omega) (by omega)]
 simp only
 rw [show ((e.seats.length : Nat) : Int).toNat = e.seats.length by omega, fillsP_fillsB e.seats [] w2]
 rfl
theorem bindP_some {α β : Type} (x : α) (r : List Int) (q : α → List Int → Option (β × List Int)) : bindP (some (x, r)) q = q x r := rfl
theorem entryP_entB {now : Int} {e : Ent} (h : EFit now e) (t : List Int) : entryP now (entB now e ++ t) = some ((canon e, entNow now e), t) := by
 have hk := h.k
 unfold entB canon entNow
 by_cases k1 : e.kind = 1
 ·obtain ⟨p1, p2, p3, p4⟩ := (h.c (by omega)).start k1
  have hf := (h.c (by omega)).fl (by omega)
  have l0 := p4 0
  have l1 := p4 1
  have l2 := p4 2
  have l3 := p4 3
  simp only [Pla.lim] at l0 l1 l2 l3
  rw [if_pos k1, if_pos k1, if_neg (by omega)]
  show entP now (32 + e.fl) (planeB e.pla ++ t) = _
  unfold entP
  rw [if_pos (by omega), planeP_planeB ⟨⟨p1.1, by omega⟩, ⟨p2.1, by omega⟩, p3.1, by omega⟩ ⟨l0.1, by omega⟩ ⟨l1.1, by omega⟩ ⟨l2.1, by omega⟩ ⟨l3.1, by omega⟩, bindP_some, show (32 + e.fl) % 32 = e.fl by omega]
  rfl
 rw [if_neg k1, if_neg k1]
 by_cases k2 : e.kind = 2
 ·have hf := (h.c (by omega)).fl (by omega)
  rw [if_pos k2, if_pos k2, if_neg (by omega)]
  show entP now (64 + e.fl) (fillB now e.sea ++ t) = _
  unfold entP
  rw [if_neg (by omega), if_pos (by omega), fillP_fillB ((h.c (by omega)).fill k2) (h.s k2), bindP_some, show (64 + e.fl) % 32 = e.fl by omega]
 rw [if_neg k2, if_neg k2]
 by_cases k3 : e.kind = 3
 ·have hf := (h.c (by omega)).fl (by omega)
  have ha := (h.c (by omega)).at_ (.inl k3)
  rw [if_pos k3, if_pos k3, if_neg (by omega)]
  show entP now (96 + e.fl) (placeB e.sea.row e.sea.col ++ t) = _
  unfold entP
  rw [if_neg (by omega), if_neg (by omega), if_pos (by omega), placeP_placeB ha.1 ha.2, bindP_some, show (96 + e.fl) % 32 = e.fl by omega]
 rw [if_neg k3, if_neg k3]
 by_cases k4 : e.kind = 4
 ·have hf := (h.c (by omega)).fl (by omega)
  have ha := (h.c (by omega)).at_ (.inr k4)
  have hd := (h.c (by omega)).dest k4
  rw [if_pos k4, if_pos k4, if_neg (by omega)]
  show entP now (128 + e.fl) (placeB e.sea.row e.sea.col ++ placeB e.tr e.tc ++ t) = _
  unfold entP
  rw [if_neg (by omega), if_neg (by omega), if_neg (by omega), if_pos (by omega), List.append_assoc, placeP_placeB ha.1 ha.2, bindP_some, placeP_placeB hd.1 hd.2, bindP_some, show (128 + e.fl) % 32 = e.fl by omega]
 rw [if_neg k4, if_neg k4]
 by_cases k5 : e.kind = 5
 ·have hf := (h.c (by omega)).fl (by omega)
  obtain ⟨p1, p2, p3⟩ := (h.c (by omega)).refit k5
  rw [if_pos k5, if_pos k5, if_neg (by omega)]
  show entP now (160 + e.fl) (shapeB e.pla ++ t) = _
  unfold entP
  rw [if_neg (by omega), if_neg (by omega), if_neg (by omega), if_neg (by omega), if_pos (by omega), shapeP_shapeB ⟨⟨p1.1, by omega⟩, ⟨p2.1, by omega⟩, p3.1, by omega⟩, bindP_some, show (160 + e.fl) % 32 = e.fl by omega]
 rw [if_neg k5, if_neg k5]
 by_cases k6 : e.kind = 6
 ·obtain ⟨p1, p2, p3⟩ := (h.c (by omega)).pass k6
  rw [if_pos k6, if_pos k6, if_pos k6]
  show entP now 192 (numB (e.now - now) ++ t) = _
  unfold entP
  rw [if_neg (by decide), if_neg (by decide), if_neg (by decide), if_neg (by decide), if_neg (by decide), if_pos (by decide), numP_numB (by omega) (by omega), bindP_some, show now + (e.now - now) = e.now by omega, wrap64_id (by omega)]
  rfl
 rw [if_neg k6, if_neg k6, if_neg k6]
 have k7 : e.kind = 7 := by omega
 have hf := h.fl k7
 show entP now (224 + e.fl) (wholeB now e.pla e.seats ++ t) = _
 unfold entP
 rw [if_neg (by omega), if_neg (by omega), if_neg (by omega), if_neg (by omega), if_neg (by omega), if_neg (by omega), if_pos (by omega), wholeP_wholeB h k7, bindP_some, show (224 + e.fl) % 32 = e.fl by omega]
theorem entsP_entsB : ∀ (es acc : List Ent) (now : Int), EsFit now es → ∀ t, entsP es.length now acc (entsB now es ++ t) = some ((acc ++ es.map canon, entsNow now es), t)
 | [], acc, now, _, t => by simp [entsP, entsB, entsNow]
 | e :: es, acc, now, h, t => by
  show bindP (entryP now (entB now e ++ entsB (entNow now e) es ++ t)) _ = _
  rw [List.append_assoc, entryP_entB h.1, bindP_some]
  show entsP es.length (entNow now e) (acc ++ [canon e]) _ = _
  rw [entsP_entsB es _ _ h.2]
  simp [entsNow]
def bodyB (now : Int) (es : List Ent) : List Int := numB es.length ++ entsB now es
theorem recB_body (now : Int) (es : List Ent) : recB now es = bodyB now es ++ [229] := rfl
theorem bodyP_bodyB {es : List Ent} {now : Int} (h : EsFit now es) (hl : es.length < 9223372036854775808) (t : List Int) : bodyP now (bodyB now es ++ t) = some ((es.map canon, entsNow now es), t) := by
 unfold bodyP bodyB
 rw [List.append_assoc, numP_numB (by omega) (by omega), bindP_some, show ((es.length : Nat) : Int).toNat = es.length by omega, entsP_entsB es [] now h]
 simp
theorem recP_recB {es : List Ent} {now : Int} (h : EsFit now es) (hl : es.length < 9223372036854775808) (t : List Int) : recP now (recB now es ++ t) = some ((es.map canon, entsNow now es), t) := by
 unfold recP
 rw [recB_body, List.append_assoc, bodyP_bodyB h hl, bindP_some]
 show bindP (some ((229 : Int), t)) _ = _
 rw [bindP_some, if_pos rfl]
theorem LocP.none {α : Type} : LocP (fun _ => (Option.none : Option (α × List Int))) := fun l x r h => by cases h
theorem byteP_L : LocP byteP := fun l x r h => by
 cases l with
 | nil => cases h
 | cons c l =>
  injection h with h
  injection h with h1 h2
  subst h1 h2
  exact ⟨[c], rfl, fun t => rfl⟩
theorem fillsP_L (now : Int) : ∀ (n : Nat) (acc : List Sea), LocP (fillsP now n acc)
 | 0, acc => LocP.ret acc
 | n + 1, acc => (fillP_L now).bind fun s => fillsP_L now n (acc ++ [s])
theorem wholeP_L (now : Int) : LocP (wholeP now) := planeP_L.bind fun p => numP_L.bind fun ep => numP_L.bind fun n => (fillsP_L now n.toNat []).bind fun ss => LocP.ret _
theorem entP_L (now h : Int) : LocP (entP now h) :=
 (planeP_L.bind fun p => LocP.ret _).ite (((fillP_L now).bind fun s => LocP.ret _).ite ((placeP_L.bind fun p => LocP.ret _).ite ((placeP_L.bind fun p => placeP_L.bind fun q => LocP.ret _).ite ((shapeP_L.bind fun p => LocP.ret _).ite ((numP_L.bind fun n => LocP.ret _).ite (((wholeP_L now).bind fun x => LocP.ret _).ite LocP.none))))))
theorem entryP_L (now : Int) : LocP (entryP now) := byteP_L.bind fun h => entP_L now h
theorem entsP_L : ∀ (n : Nat) (now : Int) (acc : List Ent), LocP (entsP n now acc)
 | 0, now, acc => LocP.ret (acc, now)
 | n + 1, now, acc => (entryP_L now).bind fun x => entsP_L n x.2 (acc ++ [x.1])
theorem bodyP_L (now : Int) : LocP (bodyP now) := numP_L.bind fun n => entsP_L n.toNat now []
def pieceOf (c : List Int) (k : Nat) (s : Int) : List Int := c.take k ++ [s]
theorem recP_piece {es : List Ent} {now : Int} (h : EsFit now es) (hl : es.length < 9223372036854775808) {k : Nat} {s : Int} (hk : k < (bodyB now es).length ∨ (k = (bodyB now es).length ∧ s ≠ 229)) : recP now (pieceOf (recB now es) k s) = none := by
 unfold recP pieceOf
 rw [recB_body]
 rcases hk with hk | ⟨hk, hs⟩
 ·rw [List.take_append_of_le_length (by omega)]
  rcases hp : bodyP now ((bodyB now es).take k ++ [s]) with _ | ⟨y, r⟩
  ·rfl
  ·obtain rfl := (bodyP_L now).torn (bodyP_bodyB h hl) hk hp
   rfl
 ·rw [List.take_append_of_le_length (by omega), List.take_of_length_le (by omega), bodyP_bodyB h hl, bindP_some]
  show bindP (some (s, ([] : List Int))) _ = _
  rw [bindP_some, if_neg hs]
def recsB : Int → List (List Ent) → List Int
 | _, [] => []
 | now, r :: rs => recB now r ++ recsB (entsNow now r) rs
def RsFit : Int → List (List Ent) → Prop
 | _, [] => True
 | now, r :: rs => (EsFit now r ∧ r.length < 9223372036854775808) ∧ RsFit (entsNow now r) rs
def recsNow : Int → List (List Ent) → Int
 | now, [] => now
 | now, r :: rs => recsNow (entsNow now r) rs
theorem recB_len (now : Int) (es : List Ent) : 2 ≤ (recB now es).length := by
 have := (numB_len (es.length : Int)).1
 unfold recB
 simp only [List.length_append, List.length_cons, List.length_nil]
 omega
theorem recsB_len : ∀ (rs : List (List Ent)) (now : Int), rs.length ≤ (recsB now rs).length
 | [], _ => by simp [recsB]
 | r :: rs, now => by
  have h1 := recB_len now r
  have h2 := recsB_len rs (entsNow now r)
  simp only [recsB, List.length_append, List.length_cons]
  omega
theorem readP_zero (now : Int) (k : Nat) : readP k now [] = ([], true) := by
 cases k
 ·rfl
 ·unfold readP
  rw [if_pos rfl]
theorem readP_recsB : ∀ (rs : List (List Ent)) (now : Int), RsFit now rs → ∀ (k : Nat) (t : List Int), readP (rs.length + k) now (recsB now rs ++ t) = ((rs.map fun r => r.map canon).flatten ++ (readP k (recsNow now rs) t).1, (readP k (recsNow now rs) t).2)
 | [], now, _, k, t => by simp [recsB, recsNow]
 | r :: rs, now, h, k, t => by
  have ih := readP_recsB rs (entsNow now r) h.2 k t
  rw [show (r :: rs).length + k = (rs.length + k) + 1 by simp; omega]
  rw [readP_succ, if_neg (by
   intro e
   have e := congrArg List.length e
   have := recB_len now r
   simp only [recsB, List.length_append, List.length_nil] at e
   omega)]
  show (match recP now (recB now r ++ recsB (entsNow now r) rs ++ t) with
   | none => ([], false)
   | some ((es, now'), r) => (es ++ (readP (rs.length + k) now' r).1, (readP (rs.length + k) now' r).2)) = _
  rw [List.append_assoc, recP_recB h.1.1 h.1.2]
  simp only
  rw [ih]
  simp [recsNow]
theorem recP_shorter {now : Int} {l : List Int} {x : List Ent × Int} {r : List Int} (h : recP now l = some (x, r)) : r.length < l.length := by
 unfold recP at h
 rcases h1 : bodyP now l with _ | ⟨y, r1⟩
 ·rw [h1] at h; cases h
 ·rw [h1, bindP_some] at h
  obtain ⟨c, rfl, _⟩ := bodyP_L now l y r1 h1
  cases r1 with
  | nil => cases h
  | cons b r2 =>
   have h : (if b = 229 then some (y, r2) else none) = some (x, r) := h
   split at h
   ·injection h with h
    injection h with _ h
    subst h
    simp
    omega
   ·cases h
theorem readP_fuel : ∀ (k j : Nat) (now : Int) (l : List Int), l.length ≤ k → l.length ≤ j → readP k now l = readP j now l
 | 0, j, now, l, h, _ => by
  obtain rfl := List.eq_nil_of_length_eq_zero (Nat.le_zero.1 h)
  rw [readP_zero, readP_zero]
 | k + 1, 0, now, l, _, h => by
  obtain rfl := List.eq_nil_of_length_eq_zero (Nat.le_zero.1 h)
  rw [readP_zero, readP_zero]
 | k + 1, j + 1, now, l, h1, h2 => by
  rw [readP_succ, readP_succ]
  by_cases hl : l = []
  ·rw [if_pos hl, if_pos hl]
  ·rw [if_neg hl, if_neg hl]
   rcases hr : recP now l with _ | ⟨⟨es, now'⟩, r⟩
   ·rfl
   ·have := recP_shorter hr
    simp only
    rw [readP_fuel k j now' r (by omega) (by omega)]
def fileP (l : List Int) : List Ent × Bool := readP l.length 0 l
theorem fileP_recsB {rs : List (List Ent)} (h : RsFit 0 rs) : fileP (recsB 0 rs) = ((rs.map fun r => r.map canon).flatten, true) := by
 have h1 := readP_recsB rs 0 h ((recsB 0 rs).length - rs.length) []
 have h2 := recsB_len rs 0
 rw [List.append_nil, show rs.length + ((recsB 0 rs).length - rs.length) = (recsB 0 rs).length by omega, readP_zero] at h1
 unfold fileP
 rw [h1]
 simp
theorem fileP_piece {rs : List (List Ent)} (h : RsFit 0 rs) {t : List Int} (ht : t ≠ []) (hr : recP (recsNow 0 rs) t = none) : fileP (recsB 0 rs ++ t) = ((rs.map fun r => r.map canon).flatten, false) := by
 have h1 := readP_recsB rs 0 h ((recsB 0 rs ++ t).length - rs.length) t
 have h2 := recsB_len rs 0
 have h3 : 0 < t.length := List.length_pos_iff.2 ht
 rw [show rs.length + ((recsB 0 rs ++ t).length - rs.length) = (recsB 0 rs ++ t).length by simp; omega] at h1
 obtain ⟨k, hk⟩ : ∃ k, (recsB 0 rs ++ t).length - rs.length = k + 1 := ⟨(recsB 0 rs ++ t).length - rs.length - 1, by simp; omega⟩
 rw [hk] at h1
 unfold fileP
 rw [h1, readP_succ, if_neg ht, hr]
 simp
structure TP where
 b : Nat → List Int
 last : Nat → Nat
 room : Int
 fuse : Int
def TP.used (T : TP) : Nat := (T.b 0).length + (T.b 1).length + (T.b 2).length + (T.b 3).length
def TP.put (T : TP) (i : Nat) (xs : List Int) (l : Nat) (f : Int) : TP := ⟨fun j => if j = i then xs else T.b j, fun j => if j = i then l else T.last j, T.room, f⟩
def appendP (T : TP) (i : Nat) (r : List Int) : Bool × TP :=
 if T.room < (T.used : Int) + r.length ∨ T.fuse = 0 then (false, T) else (true, T.put i (T.b i ++ r) (T.last i) (burnt T.fuse))
def syncP (T : TP) (i : Nat) : Bool × TP := if T.fuse = 0 then (false, T) else (true, T.put i (T.b i) (T.b i).length (burnt T.fuse))
def clearP (T : TP) (i : Nat) : Bool × TP := if T.fuse = 0 then (false, T) else (true, T.put i [] 0 (burnt T.fuse))
structure TapeH (w : World) (S : Nat → Prop) (tb : Nat) (T : TP) : Prop where
 ex : ∃ t : TTape, t.ok S w tb ∧ (∀ i, i < 4 → (t.get i).xs = u8s (T.b i) ∧ (t.get i).last = T.last i) ∧ t.room = T.room ∧ t.fuse = T.fuse
 fuse : -9223372036854775808 ≤ T.fuse ∧ T.fuse ≤ 9223372036854775807
theorem TapeH.mod {w w' : World} {S S' : Nat → Prop} {tb : Nat} {T : TP} (h : TapeH w S tb T) (hm : Mod S' w w') (hs : ∀ k, S k → ¬ S' k) : TapeH w' S tb T := by
 obtain ⟨⟨t, h1, h2⟩, h3⟩ := h
 exact ⟨⟨t, h1.mod hm hs, h2⟩, h3⟩
theorem TapeH.mod0 {w w' : World} {S : Nat → Prop} {tb : Nat} {T : TP} (h : TapeH w S tb T) (hm : Mod No w w') : TapeH w' S tb T := h.mod hm (fun _ _ x => x)
theorem TapeH.wide {w : World} {S S' : Nat → Prop} {tb : Nat} {T : TP} (h : TapeH w S tb T) (hs : ∀ k, S k → S' k) : TapeH w S' tb T := by
 obtain ⟨⟨t, h1, h2⟩, h3⟩ := h
 exact ⟨⟨t, h1.wide hs, h2⟩, h3⟩
theorem TapeH.narrow {w : World} {S : Nat → Prop} {tb : Nat} {T : TP} (h : TapeH w S tb T) : TapeH w (fun k => S k ∧ k < w.heap.size) tb T := by
 obtain ⟨⟨t, h1, h2⟩, h3⟩ := h
 exact ⟨⟨t, h1.narrow, h2⟩, h3⟩
theorem TapeH.inn {w : World} {S : Nat → Prop} {tb : Nat} {T : TP} (h : TapeH w S tb T) : S tb := by
 obtain ⟨⟨t, h1, h2⟩, h3⟩ := h
 exact h1.inn
theorem TapeH.lt {w : World} {S : Nat → Prop} {tb : Nat} {T : TP} (h : TapeH w S tb T) : tb < w.heap.size := by
 obtain ⟨⟨t, h1, h2⟩, h3⟩ := h
 exact h1.has.lt
theorem TapeH.last {w : World} {S : Nat → Prop} {tb : Nat} {T : TP} (h : TapeH w S tb T) (i : Nat) (hi : i < 4) : T.last i ≤ (T.b i).length ∧ (T.b i).length ≤ 17592186044416 := by
 obtain ⟨⟨t, h1, h2, _⟩, h3⟩ := h
 have h4 := (h1.get i hi).last
 have h5 := (h1.get i hi).len
 rw [(h2 i hi).1] at h4 h5
 rw [(h2 i hi).2] at h4
 rw [u8s_len] at h4 h5
 exact ⟨h4, h5⟩
theorem TapeH.bytes {w : World} {S : Nat → Prop} {tb : Nat} {T : TP} (h : TapeH w S tb T) (i : Nat) (hi : i < 4) : ∀ x ∈ T.b i, 0 ≤ x ∧ x < 256 := by
 obtain ⟨⟨t, h1, h2, _⟩, h3⟩ := h
 intro x hx
 have h4 := (h1.get i hi).bytes
 rw [(h2 i hi).1] at h4
 obtain ⟨n, e, r⟩ := h4 (.int .u8 x) (List.mem_map.2 ⟨x, hx, rfl⟩)
 injection e with _ e
 rw [e]
 exact r
theorem TapeH.room {w : World} {S : Nat → Prop} {tb : Nat} {T : TP} (h : TapeH w S tb T) : ∃ cs, Has w tb cs 103 ∧ cs[8]? = some (.int .i64 T.room) := by
 obtain ⟨⟨t, h1, h2, h3, _⟩, _⟩ := h
 refine ⟨_, h1.has, ?_⟩
 rw [← h3]
 rfl
theorem used_eq {t : TTape} {T : TP} (h : ∀ i, i < 4 → (t.get i).xs = u8s (T.b i) ∧ (t.get i).last = T.last i) : t.used = T.used := by
 have h0 := (h 0 (by omega)).1
 have h1 := (h 1 (by omega)).1
 have h2 := (h 2 (by omega)).1
 have h3 := (h 3 (by omega)).1
 unfold TTape.used TP.used
 have e0 : t.f0.xs.length = (T.b 0).length := by rw [show t.f0 = t.get 0 from rfl, h0, u8s_len]
 have e1 : t.f1.xs.length = (T.b 1).length := by rw [show t.f1 = t.get 1 from rfl, h1, u8s_len]
 have e2 : t.f2.xs.length = (T.b 2).length := by rw [show t.f2 = t.get 2 from rfl, h2, u8s_len]
 have e3 : t.f3.xs.length = (T.b 3).length := by rw [show t.f3 = t.get 3 from rfl, h3, u8s_len]
 omega
theorem burnt_rng {f : Int} (h : -9223372036854775808 ≤ f ∧ f ≤ 9223372036854775807) : -9223372036854775808 ≤ burnt f ∧ burnt f ≤ 9223372036854775807 := by
 unfold burnt
 split <;> omega
theorem TapeH.put {w : World} {S : Nat → Prop} {tb : Nat} {T : TP} {t : TTape} (h2 : ∀ i, i < 4 → (t.get i).xs = u8s (T.b i) ∧ (t.get i).last = T.last i) (h3 : t.room = T.room) (i : Nat) (hi : i < 4) (v : Value) (xs : List Int) (l : Nat) (f : Int) (hf : -9223372036854775808 ≤ f ∧ f ≤ 9223372036854775807)
  (h : ({ t.put ⟨v, u8s xs, l⟩ i with fuse := f } : TTape).ok S w tb) : TapeH w S tb (T.put i xs l f) := by
 refine ⟨⟨_, h, fun j hj => ?_, ?_, rfl⟩, hf⟩
 ·rw [get_fuse, get_put _ _ _ _ hi hj]
  unfold TP.put
  by_cases e : j = i
  ·simp only [if_pos e, and_self]
  ·simp only [if_neg e]
   exact h2 j hj
 ·show (t.put _ i).room = T.room
  rw [(put_room t _ i).1]
  exact h3
theorem fits_t {w : World} {S : Nat → Prop} {tb : Nat} {T : TP} (h : TapeH w S tb T) (n : Int) (hn : 0 ≤ n) (hn2 : n ≤ 140737488355328) :
  Calls Try.prog 43 #[.pointer (some ⟨tb, 0, none⟩), .int .i64 n] w fun e w' => e = .returned (.bool (decide ((T.used : Int) + n ≤ T.room))) ∧ Mod No w w' := by
 obtain ⟨⟨t, h1, h2, h3, h4⟩, h5⟩ := h
 have := fits_any tb t n w h1 hn hn2
 rw [used_eq h2, h3] at this
 exact this
theorem append_t {w : World} {S : Nat → Prop} {tb : Nat} {T : TP} (h : TapeH w S tb T) (i : Nat) (hi : i < 4) (xa : Option Addr) (c : Nat) (r : List Int) (hx : Reads w (.slice xa r.length c) r.length (u8s r)) (hxb : (Value.slice xa r.length c).ownBlock ≠ some tb)
  (hr : ∀ x ∈ r, 0 ≤ x ∧ x < 256) (hl : (T.b i).length + r.length ≤ 17592186044416) :
  Calls Try.prog 38 #[.pointer (some ⟨tb, 0, none⟩), .int .i64 i, .slice xa r.length c] w fun e w' => e = .returned (.bool (appendP T i r).1) ∧ TapeH w' (fun k => S k ∨ w.heap.size ≤ k) tb (appendP T i r).2 ∧ Mod S w w' := by
 obtain ⟨⟨t, h1, h2, h3, h4⟩, h5⟩ := h
 have hu := used_eq h2
 have hxl : (t.get i).xs.length = (T.b i).length := by rw [(h2 i hi).1, u8s_len]
 unfold appendP
 by_cases hno : T.room < (T.used : Int) + r.length
 ·rw [if_pos (.inl hno)]
  refine (append_no tb t i hi S w h1 xa r.length c (by omega) (by rw [hu, h3]; exact hno)).mono ?_
  rintro e w' ⟨rfl, hm⟩
  exact ⟨rfl, ⟨⟨t, (h1.mod0 hm).wide (fun _ q => .inl q), h2, h3, h4⟩, h5⟩, hm.mono (fun _ _ x => x.elim)⟩
 ·by_cases h0 : T.fuse = 0
  ·rw [if_pos (.inr h0)]
   refine (append_dead tb t i hi S w h1 xa r.length c (by omega) (by rw [hu, h3]; omega) (by rw [h4]; exact h0)).mono ?_
   rintro e w' ⟨rfl, hok, hm⟩
   exact ⟨rfl, ⟨⟨t, hok.wide (fun _ q => .inl q), h2, h3, h4⟩, h5⟩, hm⟩
  ·rw [if_neg (by rintro (q | q); exact hno q; exact h0 q)]
   refine (append_yes tb t i hi S w h1 xa r.length c (u8s r) hx hxb (u8s_len r) (fun x hx => by
    obtain ⟨n, hn, rfl⟩ := List.mem_map.1 hx
    exact ⟨n, rfl, hr n hn⟩) (by rw [hxl]; exact hl) (by rw [hu, h3]; omega) (by rw [h4]; exact h5) (by rw [h4]; exact h0)).mono ?_
   rintro e w' ⟨rfl, ⟨v', hok⟩, hm⟩
   refine ⟨rfl, ?_, hm⟩
   rw [(h2 i hi).1, (h2 i hi).2, h4] at hok
   have : u8s (T.b i) ++ u8s r = u8s (T.b i ++ r) := by simp [u8s]
   rw [this] at hok
   exact TapeH.put h2 h3 i hi v' _ _ _ (burnt_rng h5) hok
theorem sync_t {w : World} {S : Nat → Prop} {tb : Nat} {T : TP} (h : TapeH w S tb T) (i : Nat) (hi : i < 4) :
  Calls Try.prog 35 #[.pointer (some ⟨tb, 0, none⟩), .int .i64 i] w fun e w' => e = .returned (.bool (syncP T i).1) ∧ TapeH w' S tb (syncP T i).2 ∧ Mod (· = tb) w w' := by
 obtain ⟨⟨t, h1, h2, h3, h4⟩, h5⟩ := h
 unfold syncP
 by_cases h0 : T.fuse = 0
 ·rw [if_pos h0]
  refine (sync_dead tb t i hi S w h1 (by rw [h4]; exact h0)).mono ?_
  rintro e w' ⟨rfl, hok, hm⟩
  exact ⟨rfl, ⟨⟨t, hok, h2, h3, h4⟩, h5⟩, hm⟩
 ·rw [if_neg h0]
  refine (sync_core tb t i hi S w h1 (by rw [h4]; exact h5) (by rw [h4]; exact h0)).mono ?_
  rintro e w' ⟨rfl, hok, hm⟩
  refine ⟨rfl, ?_, hm⟩
  rw [(h2 i hi).1, u8s_len, h4] at hok
  exact TapeH.put h2 h3 i hi _ _ _ _ (burnt_rng h5) hok
theorem clear_dead (b : Nat) (t : TTape) (i : Nat) (hi : i < 4) (S : Nat → Prop) (w : World) (h : t.ok S w b) (h0 : t.fuse = 0) :
  Calls Try.prog 41 #[.pointer (some ⟨b, 0, none⟩), .int .i64 i] w fun e w' => e = .returned (.bool false) ∧ t.ok S w' b ∧ Mod (· = b) w w' := by
 have hburn := fun W (hW : t.ok S W b) => burn_any b t W hW (by omega)
 simp only [ne_eq, h0, not_true_eq_false, decide_false] at hburn
 have H := hide h
 have HB := hide hburn
 have h0' := hide h0
 clear hburn h h0
 have hi' : (i : Int) < 4 := by omega
 go_enter Try.func41, Try.ntmps41
 go_wp2_with fail
 refine ((unhide HB) _ (unhide H)).mono ?_
 rintro e w1 ⟨rfl, h1, m1⟩
 have H1 := hide h1
 have M1 := hide m1
 clear h1 m1
 go_wp2
 go_ret
 have h2 := unhide H1
 rw [show burnt 0 = 0 from rfl] at h2
 refine ⟨rfl, ?_, unhide M1⟩
 have e : ({ t with fuse := 0 } : TTape) = t := by cases t; simp only at h0'; rw [unhide h0']
 rw [e] at h2
 exact h2
theorem clear_t {w : World} {S : Nat → Prop} {tb : Nat} {T : TP} (h : TapeH w S tb T) (i : Nat) (hi : i < 4) :
  Calls Try.prog 41 #[.pointer (some ⟨tb, 0, none⟩), .int .i64 i] w fun e w' => e = .returned (.bool (clearP T i).1) ∧ TapeH w' S tb (clearP T i).2 ∧ Mod (· = tb) w w' := by
 obtain ⟨⟨t, h1, h2, h3, h4⟩, h5⟩ := h
 unfold clearP
 by_cases h0 : T.fuse = 0
 ·rw [if_pos h0]
  refine (clear_dead tb t i hi S w h1 (by rw [h4]; exact h0)).mono ?_
  rintro e w' ⟨rfl, hok, hm⟩
  exact ⟨rfl, ⟨⟨t, hok, h2, h3, h4⟩, h5⟩, hm⟩
 ·rw [if_neg h0]
  refine (clear_yes tb t i hi S w h1 (by rw [h4]; exact h5) (by rw [h4]; exact h0)).mono ?_
  rintro e w' ⟨rfl, hok, hm⟩
  refine ⟨rfl, ?_, hm⟩
  rw [h4] at hok
  exact TapeH.put h2 h3 i hi (.slice none 0 0) [] 0 _ (burnt_rng h5) hok
theorem read_t {w : World} {S : Nat → Prop} {tb : Nat} {T : TP} (h : TapeH w S tb T) (i : Nat) (hi : i < 4) :
  Calls Try.prog 40 #[.pointer (some ⟨tb, 0, none⟩), .int .i64 i] w fun e w' => ∃ v, e = .returned v ∧ w'.ownsRow 0 5 1 v (T.b i).length (u8s (T.b i)) ∧ Stays w (.slice none 0 0) v ∧ Mod No w w' := by
 obtain ⟨⟨t, h1, h2, h3, h4⟩, h5⟩ := h
 have := read_any tb t i hi S w h1
 rw [(h2 i hi).1, u8s_len] at this
 exact this
theorem tape_new (w : World) (n : Int) : TapeH (w.alloc (.cells (⟨⟨.slice none 0 0, [], 0⟩, ⟨.slice none 0 0, [], 0⟩, ⟨.slice none 0 0, [], 0⟩, ⟨.slice none 0 0, [], 0⟩, n, -1⟩ : TTape).cells 103)) (fun k => k = w.heap.size) w.heap.size ⟨fun _ => [], fun _ => 0, n, -1⟩ := by
 have nf : ∀ W : World, (⟨.slice none 0 0, [], 0⟩ : TFile).ok (fun k => k = w.heap.size) W := fun W => ⟨World.ownsRow_nil _ _ _ _, by simp, by simp, fun x hx => by simp at hx, fun k hk => by simp [Value.ownBlock] at hk⟩
 have na : (⟨.slice none 0 0, [], 0⟩ : TFile).apart ⟨.slice none 0 0, [], 0⟩ := fun k hk => by simp [Value.ownBlock] at hk
 refine ⟨⟨_, ⟨Has.new _ _ _, rfl, nf _, nf _, nf _, nf _, na, na, na, na, na, na⟩, fun i hi => ?_, rfl, rfl⟩, by show (-9223372036854775808 : Int) ≤ -1 ∧ (-1 : Int) ≤ 9223372036854775807; decide⟩
 have : i = 0 ∨ i = 1 ∨ i = 2 ∨ i = 3 := by omega
 rcases this with rfl | rfl | rfl | rfl <;> exact ⟨rfl, rfl⟩
set_option maxHeartbeats 4000000
def askP (T : TP) (n : Nat) : Int := if T.room < (T.used : Int) + n then 15 else 0
def writeP (T : TP) (i : Nat) (r : List Int) : Bool × TP := if (appendP T i r).1 = true then syncP (appendP T i r).2 i else (false, (appendP T i r).2)
def layP (T : TP) (i : Nat) (r : List Int) : Int × TP :=
 if T.room < (T.used : Int) + r.length then (15, T) else if (writeP T i r).1 = true then (0, (writeP T i r).2) else (16, (writeP T i r).2)
theorem ask_any {w : World} {S : Nat → Prop} {kb tb : Nat} {T : TP} {cs : Array Value} (hk : Has w kb cs 117) (c30 : cs[30]? = some (.pointer (some ⟨tb, 0, none⟩))) (ht : TapeH w S tb T) (n : Nat) (hn : n ≤ 17592186044416) :
  Calls Try.prog 84 #[.pointer (some ⟨kb, 30, none⟩), .int .i64 n] w fun e w' => e = .returned (.int .i64 (askP T n)) ∧ Mod No w w' := by
 have c := hk.cell 30
 rw [c30] at c
 have lt := hk.lt
 have HF := hide (fits_t ht n (by omega) (by omega))
 unfold askP
 clear hk ht c30
 by_cases hr : T.room < (T.used : Int) + n
 ·rw [if_pos hr]
  have hd : decide ((T.used : Int) + n ≤ T.room) = false := by simp; omega
  rw [hd] at HF
  clear hr hd
  go_enter Try.func84, Try.ntmps84
  go_wp2_with fail
  refine (unhide HF).mono ?_
  rintro e w1 ⟨rfl, m1⟩
  have M1 := hide m1
  clear m1
  go_wp2
  go_ret
  exact ⟨rfl, unhide M1⟩
 ·rw [if_neg hr]
  have hd : decide ((T.used : Int) + n ≤ T.room) = true := by simp; omega
  rw [hd] at HF
  clear hr hd
  go_enter Try.func84, Try.ntmps84
  go_wp2_with fail
  refine (unhide HF).mono ?_
  rintro e w1 ⟨rfl, m1⟩
  have M1 := hide m1
  clear m1
  go_wp2
  go_ret
  exact ⟨rfl, unhide M1⟩
theorem ask_shut {w : World} {kb : Nat} {cs : Array Value} (hk : Has w kb cs 117) (c30 : cs[30]? = some (.pointer none)) (n : Int) :
  Calls Try.prog 84 #[.pointer (some ⟨kb, 30, none⟩), .int .i64 n] w fun e w' => e = .returned (.int .i64 17) ∧ w' = w := by
 have c := hk.cell 30
 rw [c30] at c
 have lt := hk.lt
 clear hk c30
 go_enter Try.func84, Try.ntmps84
 go_wp2
 go_ret
 exact ⟨rfl, rfl⟩
theorem torn_any {w : World} {kb : Nat} {cs : Array Value} (hk : Has w kb cs 117) (b : Bool) (c32 : cs[32]? = some (.bool b)) :
  Calls Try.prog 61 #[.pointer (some ⟨kb, 30, none⟩)] w fun e w' => e = .returned (.bool b) ∧ w' = w := by
 have c := hk.cell 32
 rw [c32] at c
 have lt := hk.lt
 clear hk c32
 go_enter Try.func61, Try.ntmps61
 go_wp2
 go_ret
 exact ⟨rfl, rfl⟩
theorem die_any {w : World} {kb : Nat} {cs : Array Value} (hk : Has w kb cs 117) (v : Value) (c30 : cs[30]? = some v) :
  Calls Try.prog 86 #[.pointer (some ⟨kb, 30, none⟩)] w fun e w' => e = .returned (.int .i64 16) ∧ w' = w.setCell ⟨kb, 30, none⟩ (.pointer none) := by
 have c := hk.cell 30
 rw [c30] at c
 have lt := hk.lt
 have fz := hk.frozen
 clear hk c30
 go_enter Try.func86, Try.ntmps86
 go_wp2
 go_ret
 exact ⟨rfl, rfl⟩
theorem write_any {w : World} {S : Nat → Prop} {kb tb : Nat} {T : TP} {cs : Array Value} (hk : Has w kb cs 117) (c30 : cs[30]? = some (.pointer (some ⟨tb, 0, none⟩))) (hkS : ¬ S kb) (ht : TapeH w S tb T) (i : Nat) (hi : i < 4)
  (xa : Option Addr) (c : Nat) (r : List Int) (hx : Reads w (.slice xa r.length c) r.length (u8s r)) (hxb : (Value.slice xa r.length c).ownBlock ≠ some tb) (hr : ∀ x ∈ r, 0 ≤ x ∧ x < 256) (hl : (T.b i).length + r.length ≤ 17592186044416) :
  Calls Try.prog 85 #[.pointer (some ⟨kb, 30, none⟩), .int .i64 i, .slice xa r.length c] w fun e w' => e = .returned (.bool (writeP T i r).1) ∧ TapeH w' (fun k => S k ∨ w.heap.size ≤ k) tb (writeP T i r).2 ∧ Mod S w w' := by
 have ce := hk.cell 30
 rw [c30] at ce
 have lt := hk.lt
 have HA := hide (append_t ht i hi xa c r hx hxb hr hl)
 have HT := hide ht.inn
 have HK := hide hk
 unfold writeP
 clear hx hk ht
 generalize hR : r.length = n at *
 clear hR hxb
 generalize appendP T i r = A at *
 obtain ⟨a, T1⟩ := A
 simp only at HA ⊢
 cases a with
 | false =>
  rw [if_neg (by simp)]
  go_enter Try.func85, Try.ntmps85
  go_wp2_with fail
  refine (unhide HA).mono ?_
  rintro e w1 ⟨rfl, h1, m1⟩
  have H1 := hide h1
  have M1 := hide m1
  clear h1 m1
  go_wp2
  go_ret
  exact ⟨rfl, unhide H1, unhide M1⟩
 | true =>
  rw [if_pos rfl]
  have HS := hide fun W (h : TapeH W (fun k => S k ∨ w.heap.size ≤ k) tb T1) => sync_t h i hi
  generalize syncP T1 i = D at *
  obtain ⟨d, T2⟩ := D
  simp only at HS ⊢
  go_enter Try.func85, Try.ntmps85
  go_wp2_with fail
  refine (unhide HA).mono ?_
  rintro e w1 ⟨rfl, h1, m1⟩
  have hk1 := m1.has (unhide HK) hkS
  have ce1 := hk1.cell 30
  rw [c30] at ce1
  have lt1 := hk1.lt
  have HS := hide ((unhide HS) _ h1)
  have M1 := hide m1
  clear h1 m1 hk1 HA ce
  go_wp2_with fail
  refine (unhide HS).mono ?_
  rintro e w2 ⟨rfl, h2, m2⟩
  have H2 := hide h2
  have M2 := hide ((unhide M1).trans (m2.mono (fun k _ (e : k = tb) => by rw [e]; exact unhide HT)))
  clear h2 m2 HS
  go_wp2
  go_ret
  exact ⟨rfl, unhide H2, unhide M2⟩
theorem sappend_any {w : World} {S : Nat → Prop} {kb tb : Nat} {T : TP} {cs : Array Value} (hk : Has w kb cs 117) (c30 : cs[30]? = some (.pointer (some ⟨tb, 0, none⟩))) (hkS : ¬ S kb) (ht : TapeH w S tb T) (i : Nat) (hi : i < 2) (c31 : cs[31]? = some (.int .i64 i))
  (xa : Option Addr) (c : Nat) (r : List Int) (hx : Reads w (.slice xa r.length c) r.length (u8s r)) (hxb : (Value.slice xa r.length c).ownBlock ≠ some tb) (hr : ∀ x ∈ r, 0 ≤ x ∧ x < 256) (hl : (T.b i).length + r.length ≤ 17592186044416) :
  Calls Try.prog 63 #[.pointer (some ⟨kb, 30, none⟩), .slice xa r.length c] w fun e w' => e = .returned (.int .i64 (layP T i r).1) ∧ TapeH w' (fun k => S k ∨ w.heap.size ≤ k) tb (layP T i r).2 ∧
   Has w' kb (if (layP T i r).1 = 16 then cs.setIfInBounds 30 (.pointer none) else cs) 117 ∧ Mod (fun k => S k ∨ k = kb) w w' := by
 have HA := hide (ask_any hk c30 ht r.length (by omega))
 have HW := hide fun W (hm : Mod No w W) => (write_any (hm.has hk (fun x => x)) c30 hkS (ht.mod0 hm) i (by omega) xa c r (hx.mod hm (fun _ _ x => x)) hxb hr hl).mono fun e w' ⟨q1, q2, q3⟩ => (⟨q1, q2.wide (fun k q => q.imp id (fun q => Nat.le_trans hm.size q)), q3⟩ : e = _ ∧ TapeH w' (fun k => S k ∨ w.heap.size ≤ k) tb (writeP T i r).2 ∧ Mod S W w')
 have HK := hide hk
 have HT := hide ht
 have lt := hk.lt
 have NK := hide hkS
 clear hk ht hx hxb hl hr hkS
 unfold layP askP at *
 by_cases hno : T.room < (T.used : Int) + r.length
 ·rw [if_pos hno] at HA ⊢
  rw [if_neg (show ¬ ((15 : Int), T).1 = 16 by simp)]
  have HNO := hide hno
  generalize r.length = n at *
  clear hno HNO HW
  go_enter Try.func63, Try.ntmps63
  go_wp2_with fail
  refine (unhide HA).mono ?_
  rintro e w1 ⟨rfl, m1⟩
  have M1 := hide m1
  clear m1
  go_wp2
  go_ret
  exact ⟨rfl, ((unhide HT).mod0 (unhide M1)).wide (fun _ q => .inl q), (unhide M1).has (unhide HK) (fun x => x), (unhide M1).mono (fun _ _ x => x.elim)⟩
 ·rw [if_neg hno] at HA ⊢
  clear hno
  generalize writeP T i r = A at *
  obtain ⟨a, T2⟩ := A
  generalize r.length = n at *
  simp only at HW
  cases a with
  | true =>
   simp only [if_true]
   rw [if_neg (by decide)]
   go_enter Try.func63, Try.ntmps63
   go_wp2_with fail
   refine (unhide HA).mono ?_
   rintro e w1 ⟨rfl, m1⟩
   have h1 := m1.has (unhide HK) (fun x => x)
   have c1 := h1.cell 31
   rw [c31] at c1
   have lt1 := h1.lt
   have HW1 := hide ((unhide HW) _ m1)
   have H1 := hide h1
   have M1 := hide m1
   clear h1 m1 HA HW
   go_wp2_with fail
   refine (unhide HW1).mono ?_
   rintro e w2 ⟨rfl, t2, m2⟩
   have T2H := hide t2
   have H2 := hide (m2.has (unhide H1) (unhide NK))
   have M2 := hide (((unhide M1).mono (S' := fun k => S k ∨ k = kb) (fun _ _ x => x.elim)).trans (m2.mono (fun _ _ q => .inl q)))
   clear t2 m2 HW1
   go_wp2
   go_ret
   exact ⟨rfl, unhide T2H, unhide H2, unhide M2⟩
  | false =>
   simp only [Bool.false_eq_true, if_false]
   rw [if_pos trivial]
   go_enter Try.func63, Try.ntmps63
   go_wp2_with fail
   refine (unhide HA).mono ?_
   rintro e w1 ⟨rfl, m1⟩
   have h1 := m1.has (unhide HK) (fun x => x)
   have c1 := h1.cell 31
   rw [c31] at c1
   have lt1 := h1.lt
   have HW1 := hide ((unhide HW) _ m1)
   have H1 := hide h1
   have M1 := hide m1
   clear h1 m1 HA HW
   go_wp2_with fail
   refine (unhide HW1).mono ?_
   rintro e w2 ⟨rfl, t2, m2⟩
   have h2 := m2.has (unhide H1) (unhide NK)
   have HD := hide (die_any h2 _ c30)
   have T2H := hide t2
   have H2 := hide h2
   have M2 := hide (((unhide M1).mono (S' := fun k => S k ∨ k = kb) (fun _ _ x => x.elim)).trans (m2.mono (fun _ _ q => .inl q)))
   clear t2 m2 h2 HW1
   go_wp2_with fail
   refine (unhide HD).mono ?_
   rintro e w3 ⟨rfl, rfl⟩
   have FIN := hide (show TapeH (w2.setCell ⟨kb, 30, none⟩ (.pointer none)) (fun k => S k ∨ w.heap.size ≤ k) tb T2 ∧ Has (w2.setCell ⟨kb, 30, none⟩ (.pointer none)) kb (cs.setIfInBounds 30 (.pointer none)) 117 ∧ Mod (fun k => S k ∨ k = kb) w (w2.setCell ⟨kb, 30, none⟩ (.pointer none)) from
    ⟨(unhide T2H).mod (S' := fun k => k = kb) ((Mod.refl _ w2).at 30 _) (fun k q e => by
      subst e
      rcases q with q | q
      ·exact unhide NK q
      ·omega), (unhide H2).set 30 _, (unhide M2).setCell (p := ⟨kb, 30, none⟩) (.inl (.inr rfl)) _⟩)
   clear HD H2 M2 T2H
   go_wp2
   go_ret
   exact ⟨rfl, unhide FIN⟩
theorem sappend_shut {w : World} {kb : Nat} {cs : Array Value} (hk : Has w kb cs 117) (c30 : cs[30]? = some (.pointer none)) (xa : Option Addr) (n c : Nat) :
  Calls Try.prog 63 #[.pointer (some ⟨kb, 30, none⟩), .slice xa n c] w fun e w' => e = .returned (.int .i64 17) ∧ w' = w := by
 have HA := hide (ask_shut hk c30 (n : Int))
 clear hk c30
 go_enter Try.func63, Try.ntmps63
 go_wp2_with fail
 refine (unhide HA).mono ?_
 rintro e w1 ⟨rfl, rfl⟩
 go_wp2
 go_ret
 exact ⟨rfl, rfl⟩
open Go.ChangeMaps (setBlock)
def pv (x : Option Nat) : Value := .pointer (x.map fun b => ⟨b, 0, none⟩)
def fileN (pt : Nat → Option Nat) : Nat := if (pt 30).isSome then 1 else 0
def tornB (pt : Nat → Option Nat) : Bool := (pt 31).isSome
def keepCells (now : Int) (pt : Nat → Option Nat) : Array Value :=
 #[.int .i64 now, pv (pt 0), pv (pt 1), pv (pt 2), pv (pt 3), pv (pt 4), pv (pt 5), pv (pt 6), pv (pt 7), pv (pt 8), pv (pt 9), pv (pt 10), pv (pt 11), pv (pt 12), pv (pt 13), pv (pt 14), pv (pt 15), pv (pt 16), pv (pt 17), pv (pt 18), pv (pt 19), pv (pt 20), .map (pt 21), .map (pt 22), .map (pt 23), .map (pt 24), .map (pt 25), .map (pt 26), .map (pt 27), .map (pt 28), pv (pt 29), .int .i64 (fileN pt), .bool (tornB pt)]
theorem keep_at (now : Int) (pt : Nat → Option Nat) (n : Nat) (hn : n < 21) : (keepCells now pt)[1 + n]? = some (pv (pt n)) := by
 have : n = 0 ∨ n = 1 ∨ n = 2 ∨ n = 3 ∨ n = 4 ∨ n = 5 ∨ n = 6 ∨ n = 7 ∨ n = 8 ∨ n = 9 ∨ n = 10 ∨ n = 11 ∨ n = 12 ∨ n = 13 ∨ n = 14 ∨ n = 15 ∨ n = 16 ∨ n = 17 ∨ n = 18 ∨ n = 19 ∨ n = 20 := by omega
 rcases this with h | h | h | h | h | h | h | h | h | h | h | h | h | h | h | h | h | h | h | h | h <;> (subst h; rfl)
def updP (pt : Nat → Option Nat) (n b : Nat) : Nat → Option Nat := fun j => if j = n then some b else pt j
theorem keep_set (now : Int) (pt : Nat → Option Nat) (n b : Nat) (hn : n < 21) : (keepCells now pt).setIfInBounds (1 + n) (pv (some b)) = keepCells now (updP pt n b) := by
 have : n = 0 ∨ n = 1 ∨ n = 2 ∨ n = 3 ∨ n = 4 ∨ n = 5 ∨ n = 6 ∨ n = 7 ∨ n = 8 ∨ n = 9 ∨ n = 10 ∨ n = 11 ∨ n = 12 ∨ n = 13 ∨ n = 14 ∨ n = 15 ∨ n = 16 ∨ n = 17 ∨ n = 18 ∨ n = 19 ∨ n = 20 := by omega
 rcases this with h | h | h | h | h | h | h | h | h | h | h | h | h | h | h | h | h | h | h | h | h <;> (subst h; rfl)
structure KeepX (w : World) (ow : Nat → Nat) (kb : Nat) (now : Int) (pt : Nat → Option Nat) (fl : Nat → Option (Pla × List Sea)) : Prop where
 has : Has w kb (keepCells now pt) 117
 mine : ow kb = 1
 old : ∀ k, ow k ≠ 0 → k < w.heap.size
 gone : ∀ n, n < 21 → fl n = none → pt n = none
 here : ∀ n p l, n < 21 → fl n = some (p, l) → ∃ b, pt n = some b ∧ Wf p l ∧ FlH w (fun k => ow k = n + 2) b p l
theorem now_any {w : World} {ow : Nat → Nat} {kb : Nat} {now : Int} {pt : Nat → Option Nat} {fl : Nat → Option (Pla × List Sea)} (h : KeepX w ow kb now pt fl) :
  Calls Try.prog 24 #[.pointer (some ⟨kb, 0, none⟩)] w fun e w' => e = .returned (.int .i64 now) ∧ w' = w := by
 have c0 := h.has.cell 0
 rw [show (keepCells now pt)[0]? = some (.int .i64 now) from rfl] at c0
 have hlt := h.has.lt
 clear h
 go_enter Try.func24, Try.ntmps24
 go_wp2
 go_ret
 exact ⟨rfl, rfl⟩
theorem find_no (kb : Nat) (n : Int) (hn : ¬ (1 ≤ n ∧ n ≤ 20)) (w : World) :
  Calls Try.prog 44 #[.pointer (some ⟨kb, 0, none⟩), .int .i64 n] w fun e w' => e = .returned (.pointer none) ∧ w' = w := by
 by_cases h1 : n < 1
 ·go_enter Try.func44, Try.ntmps44
  go_wp2
  go_ret
  exact ⟨rfl, rfl⟩
 ·have h2 : n > 20 := by omega
  go_enter Try.func44, Try.ntmps44
  go_wp2
  go_ret
  exact ⟨rfl, rfl⟩
theorem find_cell (kb : Nat) (n : Nat) (hn : 1 ≤ n ∧ n ≤ 20) (x : Value) (cs : Array Value) (w : World) (h : Has w kb cs 117) (hc : cs[1 + n]? = some x) :
  Calls Try.prog 44 #[.pointer (some ⟨kb, 0, none⟩), .int .i64 n] w fun e w' => e = .returned x ∧ w' = w := by
 have c := h.cell (1 + n)
 rw [hc] at c
 have hlt := h.lt
 clear h hc
 have h1 : ¬ (n : Int) < 1 := by omega
 have h2 : ¬ (n : Int) > 20 := by omega
 have h3 : (n : Int) < 21 := by omega
 have h4 : (0 : Int) ≤ n := by omega
 go_enter Try.func44, Try.ntmps44
 go_wp2
 go_ret
 exact ⟨rfl, rfl⟩
theorem find_any {w : World} {ow : Nat → Nat} {kb : Nat} {now : Int} {pt : Nat → Option Nat} {fl : Nat → Option (Pla × List Sea)} (h : KeepX w ow kb now pt fl) (n : Nat) (hn : 1 ≤ n ∧ n ≤ 20) :
  Calls Try.prog 44 #[.pointer (some ⟨kb, 0, none⟩), .int .i64 n] w fun e w' => e = .returned (pv (pt n)) ∧ w' = w :=
 find_cell kb n hn _ _ w h.has (keep_at now pt n (by omega))
end Go.Proofs.Ythhibagcpjeihaa
