import Derived.Test.YthhibagcpjeihaaLTape3ToWr1
import Derived.OpenShut
import Derived.OwnWalk
import Derived.Handy
namespace Go.Proofs.Ythhibagcpjeihaa
open Go.RowKit
open M
set_option linter.unusedVariables false
set_option linter.unusedSimpArgs false
set_option maxRecDepth 100000
set_option maxHeartbeats 4000000
structure RdX (w : World) (rb gb : Nat) (l : List Int) (now : Int) (torn : Bool) : Prop where
 has : ∃ a c, Has w rb #[.slice a l.length c, .int .i64 now, .bool torn] 198 ∧ l.length ≤ c ∧ ∀ (j : Nat) (x : Int), l[j]? = some x → ∃ o, a = some ⟨gb, o, none⟩ ∧ w.cell? ⟨gb, o + j, none⟩ = some (.int .u8 x)
 ne : gb ≠ rb
 lt : gb < w.heap.size
 fit : -9223372036854775808 ≤ now ∧ now ≤ 9223372036854775807
 len : l.length ≤ 1099511627776
 by8 : ∀ x ∈ l, 0 ≤ x ∧ x < 256
theorem mod_cellS {w w' : World} {S : Nat → Prop} (h : Mod S w w') {a : Addr} {v : Value} (hc : w.cell? a = some v) (hs : ¬ S a.block) : w'.cell? a = some v := by
 have hlt := World.block_lt_of_cell? w _ hc
 rw [World.cell?_of_block (w := w) (h.block _ hlt hs)]
 exact hc
theorem RdX.mod {w w' : World} {rb gb : Nat} {l : List Int} {now : Int} {torn : Bool} {S : Nat → Prop} (h : RdX w rb gb l now torn) (hm : Mod S w w') (h1 : ¬ S rb) (h2 : ¬ S gb) : RdX w' rb gb l now torn := by
 obtain ⟨a, c, q1, q2, q3⟩ := h.has
 refine ⟨⟨a, c, hm.has q1 h1, q2, fun j x hx => ?_⟩, h.ne, Nat.lt_of_lt_of_le h.lt hm.size, h.fit, h.len, h.by8⟩
 obtain ⟨o, e1, e2⟩ := q3 j x hx
 exact ⟨o, e1, mod_cellS hm e2 h2⟩
theorem RdX.goes {w : World} {rb gb : Nat} {l r : List Int} {now : Int} {torn torn' : Bool} (h : RdX w rb gb l now torn) (hr : r.length ≤ l.length ∧ ∀ x ∈ r, x ∈ l) {w' : World} {a : Option Addr} {c : Nat} (hh : Has w' rb #[.slice a r.length c, .int .i64 now, .bool torn'] 198) (hm : Mod (· = rb) w w') (hc : r.length ≤ c)
  (hj : ∀ (j : Nat) (x : Int), r[j]? = some x → ∃ o, a = some ⟨gb, o, none⟩ ∧ w.cell? ⟨gb, o + j, none⟩ = some (.int .u8 x)) : RdX w' rb gb r now torn' :=
 ⟨⟨a, c, hh, hc, fun j x hx => by
  obtain ⟨o, e1, e2⟩ := hj j x hx
  exact ⟨o, e1, mod_cellS hm e2 h.ne⟩⟩, h.ne, Nat.lt_of_lt_of_le h.lt hm.size, h.fit, by have := h.len; omega, fun x hx => h.by8 x (hr.2 x hx)⟩
def RdB (w w' : World) (rb gb : Nat) (l : List Int) (now : Int) (torn : Bool) (x : Int) : Prop :=
 (0 ≤ x ∧ x < 256) ∧ Mod (· = rb) w w' ∧ ((l = [] ∧ x = 0 ∧ RdX w' rb gb [] now true) ∨ ∃ r, l = x :: r ∧ RdX w' rb gb r now torn)
theorem rbyte_any {w : World} {rb gb : Nat} {l : List Int} {now : Int} {torn : Bool} (h : RdX w rb gb l now torn) :
  Calls Try.prog 109 #[.pointer (some ⟨rb, 0, none⟩)] w fun e w' => ∃ x, e = .returned (.int .u8 x) ∧ RdB w w' rb gb l now torn x := by
 obtain ⟨a, c, q1, q2, q3⟩ := h.has
 have hc := q1.cell 0
 have hlt := q1.lt
 have hfz := q1.frozen
 cases l with
 | nil =>
  have e0 : w.cell? ⟨rb, 0, none⟩ = some (.slice a 0 c) := hc
  have e2 : w.cell? ⟨rb, 2, none⟩ = some (.bool torn) := q1.cell 2
  have FIN : RdB w (w.setCell ⟨rb, 2, none⟩ (.bool true)) rb gb [] now torn 0 :=
   ⟨by omega, (Mod.refl (· = rb) w).setCell (p := ⟨rb, 2, none⟩) (.inl rfl) _, .inl ⟨rfl, rfl, h.goes ⟨Nat.le_refl _, fun x hx => hx⟩ (q1.set 2 (.bool true)) ((Mod.refl (· = rb) w).setCell (p := ⟨rb, 2, none⟩) (.inl rfl) _) q2 q3⟩⟩
  have FIN := hide FIN
  clear h q1 q2 q3 hc
  go_enter Try.func109, Try.ntmps109
  go_wp2_with fail
  go_ret
  exact ⟨0, rfl, unhide FIN⟩
 | cons x r =>
  obtain ⟨o, rfl, e1⟩ := q3 0 x rfl
  have e1' : w.cell? ⟨gb, o, none⟩ = some (.int .u8 x) := e1
  have e0 : w.cell? ⟨rb, 0, none⟩ = some (.slice (some ⟨gb, o, none⟩) (r.length + 1) c) := hc
  have hx := h.by8 x (by simp)
  have q2' : r.length + 1 ≤ c := q2
  have FIN := hide (fun (a' : Addr) (c' : Nat) (hc' : r.length ≤ c') (ha : a' = ⟨gb, o + 1, none⟩ ∨ r = []) => (show RdB w (w.setCell ⟨rb, 0, none⟩ (.slice (some a') r.length c')) rb gb (x :: r) now torn x from
   ⟨hx, (Mod.refl (· = rb) w).setCell (p := ⟨rb, 0, none⟩) (.inl rfl) _, .inr ⟨r, rfl, h.goes ⟨by simp, fun x hx => by simp [hx]⟩ (q1.set 0 _) ((Mod.refl (· = rb) w).setCell (p := ⟨rb, 0, none⟩) (.inl rfl) _) hc' (fun j y hy => by
    rcases ha with rfl | rfl
    ·obtain ⟨o', e3, e4⟩ := q3 (j + 1) y hy
     injection e3 with e3
     injection e3 with _ e3 _
     subst e3
     exact ⟨_, rfl, by rw [Nat.add_assoc, Nat.add_comm 1 j]; exact e4⟩
    ·simp at hy)⟩⟩))
  generalize hpost : RdB = PB at *
  clear h q1 q2 q3 hc hx
  go_enter Try.func109, Try.ntmps109
  go_wp2_with fail
  all_goals go_ret
  ·have hr0 : r = [] := List.eq_nil_of_length_eq_zero (by omega)
   subst hr0
   exact ⟨x, rfl, (unhide FIN) ⟨gb, o, none⟩ 0 (Nat.le_refl _) (.inr rfl)⟩
  ·exact ⟨x, rfl, (unhide FIN) ⟨gb, o + 1, none⟩ (c - 1) (by omega) (.inl rfl)⟩
def orv (n y B : Int) : Int := bits .or .i64 n (IntKind.i64.wrap (y * 2 ^ (min B.toNat 64)))
def numP : List Int → Nat → Int → Option (Int × List Int)
 | [], _, _ => none
 | c :: r, k, n => if c < 128 then some (orv n (c % 128) (7 * (k : Int)), r) else numP r (k + 1) (orv n (c % 128) (7 * (k : Int)))
theorem orv_fit (n y B : Int) : -9223372036854775808 ≤ orv n y B ∧ orv n y B ≤ 9223372036854775807 := by
 unfold orv bits
 rw [IntKind.wrap_i64]
 omega
theorem shl_any (y B : Int) (h : 0 ≤ B) : Op.shift .shl .i64 y .i64 B = pure (.int .i64 (IntKind.i64.wrap (y * 2 ^ (min B.toNat 64)))) := by
 unfold Op.shift
 rw [if_neg (by omega)]
 rfl
theorem mask7 (x : Int) (h0 : 0 ≤ x) (h1 : x < 256) : bits .and .u8 x 127 = x % 128 := bits_mask .u8 8 (by decide) wraps_u8 7 (by decide) x h0 h1
theorem numP_len : ∀ (l : List Int) (k : Nat) (n : Int) {x : Int} {r : List Int}, numP l k n = some (x, r) → r.length < l.length ∧ (∀ y ∈ r, y ∈ l) ∧ -9223372036854775808 ≤ x ∧ x ≤ 9223372036854775807
 | [], _, _, _, _, h => by simp [numP] at h
 | c :: l, k, n, x, r, h => by
  unfold numP at h
  split at h
  ·injection h with h
   injection h with h1 h2
   subst h1 h2
   have := orv_fit n (c % 128) (7 * (k : Int))
   exact ⟨by simp, fun y hy => by simp [hy], this⟩
  ·obtain ⟨q1, q2, q3⟩ := numP_len l _ _ h
   exact ⟨by simp; omega, fun y hy => by simp [q2 y hy], q3⟩
def lenAt (W : World) (rb : Nat) : Nat := match W.cell? ⟨rb, 0, none⟩ with | some (.slice _ n _) => n | _ => 0
theorem RdX.lenAt {w : World} {rb gb : Nat} {l : List Int} {now : Int} {torn : Bool} (h : RdX w rb gb l now torn) : lenAt w rb = l.length := by
 obtain ⟨a, c, q1, q2, q3⟩ := h.has
 unfold Proofs.Ythhibagcpjeihaa.lenAt
 rw [q1.cell 0]
 rfl
def RdR {α : Type} (w w' : World) (rb gb : Nat) (o : Option (α × List Int)) (now : Int) (torn : Bool) (f : α → Prop) : Prop :=
 Mod (· = rb) w w' ∧ match o with
  | some (x, r) => f x ∧ RdX w' rb gb r now torn
  | none => ∃ r, RdX w' rb gb r now true
theorem rnum_any {w : World} {rb gb : Nat} {l : List Int} {now : Int} {torn : Bool} (h : RdX w rb gb l now torn) :
  Calls Try.prog 107 #[.pointer (some ⟨rb, 0, none⟩)] w fun e w' => ∃ n, e = .returned (.int .i64 n) ∧ (-9223372036854775808 ≤ n ∧ n ≤ 9223372036854775807) ∧ RdR w w' rb gb (numP l 0 0) now torn (fun x => x = n) := by
 have H := hide h
 have hl := h.len
 generalize hT : numP l 0 0 = T
 have HT := hide hT
 clear h hT
 go_enter Try.func107, Try.ntmps107
 go_wp2_with fail
 go_loopw [3, 4, 5] (fun s3 s4 s5 wr => ∃ (n : Int) (k : Nat) (l' : List Int) (t' : Bool) (u : Value), s3 = .int .i64 n ∧ s4 = .int .i64 (7 * (k : Int)) ∧ s5 = u ∧ k + l'.length ≤ 1099511627776 ∧ Hid (RdX wr rb gb l' now t') ∧ Hid (Mod (· = rb) w wr) ∧ Hid (numP l' k n = T ∧ t' = torn)) (fun _ _ _ wr => lenAt wr rb)
 case atStart => exact ⟨0, 0, l, torn, _, rfl, rfl, rfl, by omega, H, Mod.refl _ _, HT, rfl⟩
 case round =>
  obtain ⟨n, k, l', t', u, rfl, rfl, rfl, hkl, H1, M1, HK⟩ := hrel
  clear H HT hl
  go_wp2_with fail
  refine (rbyte_any (unhide H1)).mono ?_
  rintro e w1 ⟨x, rfl, hx⟩
  have HX := hide hx
  have hx0 := hx.1
  have hmk := mask7 x hx0.1 hx0.2
  obtain ⟨y, hy⟩ : ∃ y, x % 128 = y := ⟨_, rfl⟩
  rw [hy] at hmk
  have hwy : wrap64 y = y := by unfold wrap64; omega
  have hB : (0 : Int) ≤ 7 * (k : Int) := by omega
  have hsh := shl_any y (7 * (k : Int)) hB
  obtain ⟨N, hN⟩ : ∃ N, bits .or .i64 n (IntKind.i64.wrap (y * 2 ^ (min (7 * (k : Int)).toNat 64))) = N := ⟨_, rfl⟩
  have HN := hide (show orv n (x % 128) (7 * (k : Int)) = N by rw [hy]; exact hN)
  obtain ⟨Z, hZ⟩ : ∃ Z, IntKind.i64.wrap (y * 2 ^ (min (7 * (k : Int)).toNat 64)) = Z := ⟨_, rfl⟩
  rw [hZ] at hsh hN
  have HY := hide hy
  clear hx hy hZ
  have hk7 : wrap64 (7 * (k : Int) + 7) = 7 * (k : Int) + 7 := by unfold wrap64; omega
  obtain ⟨hk1, rfl⟩ := unhide HK
  have hX := unhide HX
  have MM := (unhide M1).trans hX.2.1
  have hR := orv_fit n (x % 128) (7 * (k : Int))
  rw [unhide HN] at hR
  by_cases h128 : x < 128
  ·have FIN : RdR w w1 rb gb T now t' (fun x => x = N) := by
    refine ⟨MM, ?_⟩
    rcases hX.2.2 with ⟨rfl, _, q⟩ | ⟨r, rfl, q⟩
    ·rw [← hk1]
     exact ⟨_, q⟩
    ·unfold numP at hk1
     rw [if_pos h128, unhide HN] at hk1
     rw [← hk1]
     exact ⟨rfl, q⟩
   have FIN := hide FIN
   have HR := hide hR
   clear hX MM HX hk1 HK hR H1 M1
   go_wp2_with fail
   go_ret
   exact ⟨N, rfl, unhide HR, unhide FIN⟩
  ·have FIN : ∃ l2, (k + 1) + l2.length ≤ 1099511627776 ∧ RdX w1 rb gb l2 now t' ∧ Mod (· = rb) w w1 ∧ numP l2 (k + 1) N = T ∧ l2.length < l'.length := by
    rcases hX.2.2 with ⟨rfl, e, q⟩ | ⟨r, rfl, q⟩
    ·omega
    ·unfold numP at hk1
     rw [if_neg h128, unhide HN] at hk1
     exact ⟨r, by simp at hkl; omega, q, MM, hk1, by simp⟩
   have FIN := hide FIN
   have HL := hide (unhide H1).lenAt
   clear hX MM HX hk1 HK hR H1 M1
   go_wp2_with fail
   obtain ⟨l2, q1, q2, q3, q4, q5⟩ := unhide FIN
   refine ⟨⟨N, k + 1, l2, t', _, rfl, ?_, rfl, q1, q2, q3, q4, rfl⟩, ?_⟩
   ·congr 1
   ·rw [q2.lenAt, unhide HL]
    exact q5
def bindP {α β : Type} (p : Option (α × List Int)) (q : α → List Int → Option (β × List Int)) : Option (β × List Int) := match p with
 | some (x, r) => q x r
 | none => none
theorem RdX.alloc {w : World} {rb gb : Nat} {l : List Int} {now : Int} {torn : Bool} (h : RdX w rb gb l now torn) (o : Obj) : RdX (w.alloc o) rb gb l now torn := h.mod (S := No) ((Mod.refl _ _).alloc _) (fun x => x) (fun x => x)
theorem RdR.torn {α : Type} {w w' : World} {rb gb : Nat} {o : Option (α × List Int)} {now : Int} {f : α → Prop} (h : RdR w w' rb gb o now true f) : ∃ r, RdX w' rb gb r now true := by
 obtain ⟨_, h⟩ := h
 rcases o with _ | ⟨x, r⟩
 ·exact h
 ·exact ⟨r, h.2⟩
theorem RdR.bind {α β : Type} {w w1 : World} {rb gb : Nat} {p : Option (α × List Int)} {n : α} {now : Int} {torn : Bool} (h : RdR w w1 rb gb p now torn (fun x => x = n)) : ∃ l1 t1, RdX w1 rb gb l1 now t1 ∧ ∀ (q : α → List Int → Option (β × List Int)) (w2 : World) (g : β → Prop), RdR w1 w2 rb gb (q n l1) now t1 g → RdR w w2 rb gb (bindP p q) now torn g := by
 obtain ⟨hm, h⟩ := h
 rcases p with _ | ⟨x, r⟩
 ·obtain ⟨r, h⟩ := h
  exact ⟨r, true, h, fun q w2 g h2 => ⟨hm.trans h2.1, h2.torn⟩⟩
 ·obtain ⟨rfl, h⟩ := h
  exact ⟨r, torn, h, fun q w2 g h2 => ⟨hm.trans h2.1, h2.2⟩⟩
theorem RdR.ret {α β : Type} {w w1 : World} {rb gb : Nat} {p : Option (α × List Int)} {n : α} {y : α → β} {now : Int} {torn : Bool} {g : β → Prop} (h : RdR w w1 rb gb p now torn (fun x => x = n)) (hg : g (y n)) : RdR w w1 rb gb (bindP p fun x r => some (y x, r)) now torn g := by
 obtain ⟨hm, h⟩ := h
 rcases p with _ | ⟨x, r⟩
 ·exact ⟨hm, h⟩
 ·obtain ⟨rfl, h⟩ := h
  exact ⟨hm, hg, h⟩
theorem RdR.beside {α : Type} {w0 w w1 : World} {rb gb : Nat} {o : Option (α × List Int)} {now : Int} {torn : Bool} {f : α → Prop} (h : RdR w w1 rb gb o now torn f) (hm : Mod No w0 w) : RdR w0 w1 rb gb o now torn f :=
 ⟨(hm.mono fun _ _ x => x.elim).trans h.1, h.2⟩
theorem RdR.fresh {α : Type} {w0 w w1 w2 : World} {rb gb b : Nat} {o : Option (α × List Int)} {now : Int} {torn : Bool} {f : α → Prop} (h : RdR w w1 rb gb o now torn f) (h0 : Mod No w0 w) (hm : Mod (fun k => k = b) w1 w2) (hb : b ≠ rb) (hg : b ≠ gb) (hn : w0.heap.size ≤ b) : RdR w0 w2 rb gb o now torn f := by
 have e1 : ¬ rb = b := fun e => hb e.symm
 have e2 : ¬ gb = b := fun e => hg e.symm
 refine ⟨((h0.mono (S' := (· = rb)) fun _ _ x => x.elim).trans h.1).trans' hm (fun k hk hl => by omega), ?_⟩
 have h2 := h.2
 rcases o with _ | ⟨x, r⟩
 ·obtain ⟨r, h2⟩ := h2
  exact ⟨r, h2.mod hm e1 e2⟩
 ·exact ⟨h2.1, h2.2.mod hm e1 e2⟩
def placeP (l : List Int) : Option ((Int × Int) × List Int) := bindP (numP l 0 0) fun n r => some ((wrap64 (n.tdiv 6 + 1), wrap64 (n.tmod 6 + 1)), r)
def shapeP (l : List Int) : Option ((Int × Int × Int) × List Int) := bindP (numP l 0 0) fun a r => bindP (numP r 0 0) fun b r => bindP (numP r 0 0) fun c r => some ((a, b, c), r)
abbrev Fit (n : Int) : Prop := -9223372036854775808 ≤ n ∧ n ≤ 9223372036854775807
theorem rshape_any {w : World} {rb gb : Nat} {l : List Int} {now : Int} {torn : Bool} (h : RdX w rb gb l now torn) :
  Calls Try.prog 113 #[.pointer (some ⟨rb, 0, none⟩)] w fun e w' => ∃ a b c, e = .returned (.tuple #[.int .i64 a, .int .i64 b, .int .i64 c]) ∧ (Fit a ∧ Fit b ∧ Fit c) ∧ RdR w w' rb gb (shapeP l) now torn (fun x => x = (a, b, c)) := by
 have H := hide h
 clear h
 go_enter Try.func113, Try.ntmps113
 go_wp2_with fail
 refine (rnum_any (unhide H)).mono ?_
 rintro e w1 ⟨a, rfl, fa, ha⟩
 obtain ⟨l1, t1, x1, k1⟩ := ha.bind (β := Int × Int × Int)
 have X1 := hide x1
 have K1 := hide k1
 have FA := hide fa
 clear ha x1 k1 fa H
 go_wp2_with fail
 refine (rnum_any (unhide X1)).mono ?_
 rintro e w2 ⟨b, rfl, fb, hb⟩
 obtain ⟨l2, t2, x2, k2⟩ := hb.bind (β := Int × Int × Int)
 have X2 := hide x2
 have K2 := hide k2
 have FB := hide fb
 clear hb x2 k2 fb X1
 go_wp2_with fail
 refine (rnum_any (unhide X2)).mono ?_
 rintro e w3 ⟨c, rfl, fc, hc⟩
 have FIN : RdR w w3 rb gb (shapeP l) now torn (fun x => x = (a, b, c)) := (unhide K1) _ _ _ ((unhide K2) _ _ _ (hc.ret rfl))
 have FIN := hide FIN
 have FC := hide fc
 clear hc fc X2 K1 K2
 go_wp2
 go_ret3
 exact ⟨a, b, c, rfl, ⟨unhide FA, unhide FB, unhide FC⟩, unhide FIN⟩
theorem rplace_any {w : World} {rb gb : Nat} {l : List Int} {now : Int} {torn : Bool} (h : RdX w rb gb l now torn) :
  Calls Try.prog 112 #[.pointer (some ⟨rb, 0, none⟩)] w fun e w' => ∃ r c, e = .returned (.agg #[.int .i64 r, .int .i64 c]) ∧ (Fit r ∧ Fit c) ∧ RdR w w' rb gb (placeP l) now torn (fun x => x = (r, c)) := by
 have M0 : Mod No w (w.alloc (.cells #[.int .i64 0, .int .i64 0] 32)) := (Mod.refl _ _).alloc _
 have H := hide (h.alloc (.cells #[.int .i64 0, .int .i64 0] 32))
 have B0 := Has.new w #[.int .i64 0, .int .i64 0] 32
 have B0 := hide B0
 have hne : w.heap.size ≠ rb := by
  obtain ⟨a, c, q, _⟩ := h.has
  have := q.lt
  omega
 have hgb : w.heap.size ≠ gb := by have := h.lt; omega
 have M0 := hide M0
 clear h
 go_enter Try.func112, Try.ntmps112
 go_wp2_with fail
 refine (rnum_any (unhide H)).mono ?_
 rintro e w1 ⟨n, rfl, fa, ha⟩
 have B1 := ha.1.has (unhide B0) hne
 have c0 : w1.cell? ⟨w.heap.size, 0, none⟩ = some (.int .i64 0) := B1.cell 0
 have c1 : w1.cell? ⟨w.heap.size, 1, none⟩ = some (.int .i64 0) := B1.cell 1
 have fz := B1.frozen
 have hlt := B1.lt
 obtain ⟨fa1, fa2⟩ := fa
 have hr : Fit (wrap64 (n.tdiv 6 + 1)) ∧ Fit (wrap64 (n.tmod 6 + 1)) := by unfold wrap64; omega
 have FIN : RdR w ((w1.setCell ⟨w.heap.size, 0, none⟩ (.int .i64 (wrap64 (n.tdiv 6 + 1)))).setCell ⟨w.heap.size, 1, none⟩ (.int .i64 (wrap64 (n.tmod 6 + 1)))) rb gb (placeP l) now torn (fun x => x = (wrap64 (n.tdiv 6 + 1), wrap64 (n.tmod 6 + 1))) := by
  have mS : Mod (fun k => k = w.heap.size) w1 ((w1.setCell ⟨w.heap.size, 0, none⟩ (.int .i64 (wrap64 (n.tdiv 6 + 1)))).setCell ⟨w.heap.size, 1, none⟩ (.int .i64 (wrap64 (n.tmod 6 + 1)))) := ((Mod.refl (fun k => k = w.heap.size) w1).setCell (p := ⟨w.heap.size, 0, none⟩) (.inl rfl) _).setCell (p := ⟨w.heap.size, 1, none⟩) (.inl rfl) _
  exact ((ha.ret (y := fun n => (wrap64 (n.tdiv 6 + 1), wrap64 (n.tmod 6 + 1))) (g := fun x => x = (wrap64 (n.tdiv 6 + 1), wrap64 (n.tmod 6 + 1))) rfl).fresh (unhide M0) mS hne hgb (Nat.le_refl _))
 have B2 := (B1.set 0 (.int .i64 (wrap64 (n.tdiv 6 + 1)))).set 1 (.int .i64 (wrap64 (n.tmod 6 + 1)))
 have d0 : ((w1.setCell ⟨w.heap.size, 0, none⟩ (.int .i64 (wrap64 (n.tdiv 6 + 1)))).setCell ⟨w.heap.size, 1, none⟩ (.int .i64 (wrap64 (n.tmod 6 + 1)))).cell? ⟨w.heap.size, 0, none⟩ = some (.int .i64 (wrap64 (n.tdiv 6 + 1))) := B2.cell 0
 have d1 : ((w1.setCell ⟨w.heap.size, 0, none⟩ (.int .i64 (wrap64 (n.tdiv 6 + 1)))).setCell ⟨w.heap.size, 1, none⟩ (.int .i64 (wrap64 (n.tmod 6 + 1)))).cell? ⟨w.heap.size, 1, none⟩ = some (.int .i64 (wrap64 (n.tmod 6 + 1))) := B2.cell 1
 have D0 := hide d0
 have D1 := hide d1
 have FIN := hide FIN
 have hr := hide hr
 clear ha H B0 d0 d1
 go_wp2_with fail
 have d0 := unhide D0
 have d1 := unhide D1
 refine bodyPost_ret (by simp [results, Try.results112, go_sem, d0, d1]; try rfl) rfl ?_
 exact ⟨_, _, rfl, unhide hr, unhide FIN⟩
end Go.Proofs.Ythhibagcpjeihaa
