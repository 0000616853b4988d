import Derived.Test.YthhibagcpjeihaaGreatIBaseToMaps
import Derived.Test.YthhibagcpjeihaaGreatIChangeToEq40
import Derived.Test.YthhibagcpjeihaaGreatILook7ToRef7
import Derived.Test.YthhibagcpjeihaaGreatISwap2ToSwap4
import Derived.Handy
import Derived.Deep.RegionLawGrows
import Derived.Test.YthhibagcpjeihaaGreatITape3ToPTape
import Derived.Test.YthhibagcpjeihaaGreatIReckonToPut2
namespace Go.Proofs.YthhibagcpjeihaaGreat
open Go.RowKit
open M
set_option linter.unusedVariables false
set_option linter.unusedSimpArgs false
set_option maxRecDepth 100000
set_option maxHeartbeats 2000000
theorem step_call {P : Program} {ops : Array Oper} {o : Oper} {a : Act} {w : World} {K : Act → World → Prop} {Q : Exit → Act → World → Prop} {E : Prop}
  (hg : o.guard = none) (f : FuncId) (args : Array Operand) (tys : Array TypeId) (hop : o.op = Op.call { callee := Callee.value (Operand.func f), args := args, argTypes := tys })
  (vs : Array Value) (hvs : args.map a.eval = vs) (hcf : ∀ W, (callFunc f vs).run P W = .ok (.enter f vs) W) (v : Value) (R : World → Prop) (hc : Calls P f vs w fun e w' => e = .returned v ∧ R w')
  (hK : ∀ w', R w' → K (a.put o.dst v) w') : if Region.wanted o (yielded ops a.tmps) = true then Oper.wp P o a w K Q else E := by
 have hw : Region.wanted o (yielded ops a.tmps) = true := by simp [Region.wanted, hg]
 rw [if_pos hw]
 unfold Oper.wp execOp
 simp [go_sem, hop, hvs]
 rw [hcf]
 simp [go_sem]
 refine hc.mono ?_
 rintro e w' ⟨rfl, hr⟩
 exact hK _ hr
set_option maxHeartbeats 4000000
def askP (T : TP) (n : Nat) : Int := if T.room < (T.used : Int) + n then 15 else 0
def writeP (T : TP) (i : Nat) (r : List Int) : Bool × TP := if (appendP T i r).1 = true then syncP (appendP T i r).2 i else (false, (appendP T i r).2)
def layP (T : TP) (i : Nat) (r : List Int) : Int × TP :=
 if T.room < (T.used : Int) + r.length then (15, T) else if (writeP T i r).1 = true then (0, (writeP T i r).2) else (16, (writeP T i r).2)
theorem ask_any {w : World} {S : Nat → Prop} {kb tb : Nat} {T : TP} {cs : Array Value} (hk : Has w kb cs 121) (c30 : cs[30]? = some (.pointer (some ⟨tb, 0, none⟩))) (ht : TapeH w S tb T) (n : Nat) (hn : n ≤ 17592186044416) :
  Calls Tryz.prog 106 #[.pointer (some ⟨kb, 30, none⟩), .int .i64 n] w fun e w' => e = .returned (.int .i64 (askP T n)) ∧ Mod No w w' := by
 have c := hk.cell 30
 rw [c30] at c
 have lt := hk.lt
 have HF := hide (fits_t ht n (by omega) (by omega))
 unfold askP
 clear hk ht c30
 by_cases hr : T.room < (T.used : Int) + n
 ·rw [if_pos hr]
  have hd : decide ((T.used : Int) + n ≤ T.room) = false := by simp; omega
  rw [hd] at HF
  clear hr hd
  go_enter Tryz.func106, Tryz.ntmps106
  go_wp2_with fail
  refine (unhide HF).mono ?_
  rintro e w1 ⟨rfl, m1⟩
  have M1 := hide m1
  clear m1
  go_wp2
  go_ret
  exact ⟨rfl, unhide M1⟩
 ·rw [if_neg hr]
  have hd : decide ((T.used : Int) + n ≤ T.room) = true := by simp; omega
  rw [hd] at HF
  clear hr hd
  go_enter Tryz.func106, Tryz.ntmps106
  go_wp2_with fail
  refine (unhide HF).mono ?_
  rintro e w1 ⟨rfl, m1⟩
  have M1 := hide m1
  clear m1
  go_wp2
  go_ret
  exact ⟨rfl, unhide M1⟩
theorem ask_shut {w : World} {kb : Nat} {cs : Array Value} (hk : Has w kb cs 121) (c30 : cs[30]? = some (.pointer none)) (n : Int) :
  Calls Tryz.prog 106 #[.pointer (some ⟨kb, 30, none⟩), .int .i64 n] w fun e w' => e = .returned (.int .i64 17) ∧ w' = w := by
 have c := hk.cell 30
 rw [c30] at c
 have lt := hk.lt
 clear hk c30
 go_enter Tryz.func106, Tryz.ntmps106
 go_wp2
 go_ret
 exact ⟨rfl, rfl⟩
theorem torn_any {w : World} {kb : Nat} {cs : Array Value} (hk : Has w kb cs 121) (b : Bool) (c32 : cs[32]? = some (.bool b)) :
  Calls Tryz.prog 78 #[.pointer (some ⟨kb, 30, none⟩)] w fun e w' => e = .returned (.bool b) ∧ w' = w := by
 have c := hk.cell 32
 rw [c32] at c
 have lt := hk.lt
 clear hk c32
 go_enter Tryz.func78, Tryz.ntmps78
 go_wp2
 go_ret
 exact ⟨rfl, rfl⟩
theorem die_any {w : World} {kb : Nat} {cs : Array Value} (hk : Has w kb cs 121) (v : Value) (c30 : cs[30]? = some v) :
  Calls Tryz.prog 108 #[.pointer (some ⟨kb, 30, none⟩)] w fun e w' => e = .returned (.int .i64 16) ∧ w' = w.setCell ⟨kb, 30, none⟩ (.pointer none) := by
 have c := hk.cell 30
 rw [c30] at c
 have lt := hk.lt
 have fz := hk.frozen
 clear hk c30
 go_enter Tryz.func108, Tryz.ntmps108
 go_wp2
 go_ret
 exact ⟨rfl, rfl⟩
theorem write_any {w : World} {S : Nat → Prop} {kb tb : Nat} {T : TP} {cs : Array Value} (hk : Has w kb cs 121) (c30 : cs[30]? = some (.pointer (some ⟨tb, 0, none⟩))) (hkS : ¬ S kb) (ht : TapeH w S tb T) (i : Nat) (hi : i < 4)
  (xa : Option Addr) (c : Nat) (r : List Int) (hx : Reads w (.slice xa r.length c) r.length (u8s r)) (hxb : (Value.slice xa r.length c).ownBlock ≠ some tb) (hr : ∀ x ∈ r, 0 ≤ x ∧ x < 256) (hl : (T.b i).length + r.length ≤ 17592186044416) :
  Calls Tryz.prog 107 #[.pointer (some ⟨kb, 30, none⟩), .int .i64 i, .slice xa r.length c] w fun e w' => e = .returned (.bool (writeP T i r).1) ∧ TapeH w' (fun k => S k ∨ w.heap.size ≤ k) tb (writeP T i r).2 ∧ Mod S w w' := by
 have ce := hk.cell 30
 rw [c30] at ce
 have lt := hk.lt
 have HA := hide (append_t ht i hi xa c r hx hxb hr hl)
 have HT := hide ht.inn
 have HK := hide hk
 unfold writeP
 clear hx hk ht
 generalize hR : r.length = n at *
 clear hR hxb
 generalize appendP T i r = A at *
 obtain ⟨a, T1⟩ := A
 simp only at HA ⊢
 cases a with
 | false =>
  rw [if_neg (by simp)]
  go_enter Tryz.func107, Tryz.ntmps107
  go_wp2_with fail
  refine (unhide HA).mono ?_
  rintro e w1 ⟨rfl, h1, m1⟩
  have H1 := hide h1
  have M1 := hide m1
  clear h1 m1
  go_wp2
  go_ret
  exact ⟨rfl, unhide H1, unhide M1⟩
 | true =>
  rw [if_pos rfl]
  have HS := hide fun W (h : TapeH W (fun k => S k ∨ w.heap.size ≤ k) tb T1) => sync_t h i hi
  generalize syncP T1 i = D at *
  obtain ⟨d, T2⟩ := D
  simp only at HS ⊢
  go_enter Tryz.func107, Tryz.ntmps107
  go_wp2_with fail
  refine (unhide HA).mono ?_
  rintro e w1 ⟨rfl, h1, m1⟩
  have hk1 := m1.has (unhide HK) hkS
  have ce1 := hk1.cell 30
  rw [c30] at ce1
  have lt1 := hk1.lt
  have HS := hide ((unhide HS) _ h1)
  have M1 := hide m1
  clear h1 m1 hk1 HA ce
  go_wp2_with fail
  refine (unhide HS).mono ?_
  rintro e w2 ⟨rfl, h2, m2⟩
  have H2 := hide h2
  have M2 := hide ((unhide M1).trans (m2.mono (fun k _ (e : k = tb) => by rw [e]; exact unhide HT)))
  clear h2 m2 HS
  go_wp2
  go_ret
  exact ⟨rfl, unhide H2, unhide M2⟩
theorem sappend_any {w : World} {S : Nat → Prop} {kb tb : Nat} {T : TP} {cs : Array Value} (hk : Has w kb cs 121) (c30 : cs[30]? = some (.pointer (some ⟨tb, 0, none⟩))) (hkS : ¬ S kb) (ht : TapeH w S tb T) (i : Nat) (hi : i < 2) (c31 : cs[31]? = some (.int .i64 i))
  (xa : Option Addr) (c : Nat) (r : List Int) (hx : Reads w (.slice xa r.length c) r.length (u8s r)) (hxb : (Value.slice xa r.length c).ownBlock ≠ some tb) (hr : ∀ x ∈ r, 0 ≤ x ∧ x < 256) (hl : (T.b i).length + r.length ≤ 17592186044416) :
  Calls Tryz.prog 80 #[.pointer (some ⟨kb, 30, none⟩), .slice xa r.length c] w fun e w' => e = .returned (.int .i64 (layP T i r).1) ∧ TapeH w' (fun k => S k ∨ w.heap.size ≤ k) tb (layP T i r).2 ∧
   Has w' kb (if (layP T i r).1 = 16 then cs.setIfInBounds 30 (.pointer none) else cs) 121 ∧ Mod (fun k => S k ∨ k = kb) w w' := by
 have HA := hide (ask_any hk c30 ht r.length (by omega))
 have HW := hide fun W (hm : Mod No w W) => (write_any (hm.has hk (fun x => x)) c30 hkS (ht.mod0 hm) i (by omega) xa c r (hx.mod hm (fun _ _ x => x)) hxb hr hl).mono fun e w' ⟨q1, q2, q3⟩ => (⟨q1, q2.wide (fun k q => q.imp id (fun q => Nat.le_trans hm.size q)), q3⟩ : e = _ ∧ TapeH w' (fun k => S k ∨ w.heap.size ≤ k) tb (writeP T i r).2 ∧ Mod S W w')
 have HK := hide hk
 have HT := hide ht
 have lt := hk.lt
 have NK := hide hkS
 clear hk ht hx hxb hl hr hkS
 unfold layP askP at *
 by_cases hno : T.room < (T.used : Int) + r.length
 ·rw [if_pos hno] at HA ⊢
  rw [if_neg (show ¬ ((15 : Int), T).1 = 16 by simp)]
  have HNO := hide hno
  generalize r.length = n at *
  clear hno HNO HW
  go_enter Tryz.func80, Tryz.ntmps80
  go_wp2_with fail
  refine (unhide HA).mono ?_
  rintro e w1 ⟨rfl, m1⟩
  have M1 := hide m1
  clear m1
  go_wp2
  go_ret
  exact ⟨rfl, ((unhide HT).mod0 (unhide M1)).wide (fun _ q => .inl q), (unhide M1).has (unhide HK) (fun x => x), (unhide M1).mono (fun _ _ x => x.elim)⟩
 ·rw [if_neg hno] at HA ⊢
  clear hno
  generalize writeP T i r = A at *
  obtain ⟨a, T2⟩ := A
  generalize r.length = n at *
  simp only at HW
  cases a with
  | true =>
   simp only [if_true]
   rw [if_neg (by decide)]
   go_enter Tryz.func80, Tryz.ntmps80
   go_wp2_with fail
   refine (unhide HA).mono ?_
   rintro e w1 ⟨rfl, m1⟩
   have h1 := m1.has (unhide HK) (fun x => x)
   have c1 := h1.cell 31
   rw [c31] at c1
   have lt1 := h1.lt
   have HW1 := hide ((unhide HW) _ m1)
   have H1 := hide h1
   have M1 := hide m1
   clear h1 m1 HA HW
   go_wp2_with fail
   refine (unhide HW1).mono ?_
   rintro e w2 ⟨rfl, t2, m2⟩
   have T2H := hide t2
   have H2 := hide (m2.has (unhide H1) (unhide NK))
   have M2 := hide (((unhide M1).mono (S' := fun k => S k ∨ k = kb) (fun _ _ x => x.elim)).trans (m2.mono (fun _ _ q => .inl q)))
   clear t2 m2 HW1
   go_wp2
   go_ret
   exact ⟨rfl, unhide T2H, unhide H2, unhide M2⟩
  | false =>
   simp only [Bool.false_eq_true, if_false]
   rw [if_pos trivial]
   go_enter Tryz.func80, Tryz.ntmps80
   go_wp2_with fail
   refine (unhide HA).mono ?_
   rintro e w1 ⟨rfl, m1⟩
   have h1 := m1.has (unhide HK) (fun x => x)
   have c1 := h1.cell 31
   rw [c31] at c1
   have lt1 := h1.lt
   have HW1 := hide ((unhide HW) _ m1)
   have H1 := hide h1
   have M1 := hide m1
   clear h1 m1 HA HW
   go_wp2_with fail
   refine (unhide HW1).mono ?_
   rintro e w2 ⟨rfl, t2, m2⟩
   have h2 := m2.has (unhide H1) (unhide NK)
   have HD := hide (die_any h2 _ c30)
   have T2H := hide t2
   have H2 := hide h2
   have M2 := hide (((unhide M1).mono (S' := fun k => S k ∨ k = kb) (fun _ _ x => x.elim)).trans (m2.mono (fun _ _ q => .inl q)))
   clear t2 m2 h2 HW1
   go_wp2_with fail
   refine (unhide HD).mono ?_
   rintro e w3 ⟨rfl, rfl⟩
   have FIN := hide (show TapeH (w2.setCell ⟨kb, 30, none⟩ (.pointer none)) (fun k => S k ∨ w.heap.size ≤ k) tb T2 ∧ Has (w2.setCell ⟨kb, 30, none⟩ (.pointer none)) kb (cs.setIfInBounds 30 (.pointer none)) 121 ∧ Mod (fun k => S k ∨ k = kb) w (w2.setCell ⟨kb, 30, none⟩ (.pointer none)) from
    ⟨(unhide T2H).mod (S' := fun k => k = kb) ((Mod.refl _ w2).at 30 _) (fun k q e => by
      subst e
      rcases q with q | q
      ·exact unhide NK q
      ·omega), (unhide H2).set 30 _, (unhide M2).setCell (p := ⟨kb, 30, none⟩) (.inl (.inr rfl)) _⟩)
   clear HD H2 M2 T2H
   go_wp2
   go_ret
   exact ⟨rfl, unhide FIN⟩
theorem sappend_shut {w : World} {kb : Nat} {cs : Array Value} (hk : Has w kb cs 121) (c30 : cs[30]? = some (.pointer none)) (xa : Option Addr) (n c : Nat) :
  Calls Tryz.prog 80 #[.pointer (some ⟨kb, 30, none⟩), .slice xa n c] w fun e w' => e = .returned (.int .i64 17) ∧ w' = w := by
 have HA := hide (ask_shut hk c30 (n : Int))
 clear hk c30
 go_enter Tryz.func80, Tryz.ntmps80
 go_wp2_with fail
 refine (unhide HA).mono ?_
 rintro e w1 ⟨rfl, rfl⟩
 go_wp2
 go_ret
 exact ⟨rfl, rfl⟩
structure Wrote (O : Nat → Prop) (w w' : World) (wb : Nat) (xs : List Int) (now : Int) : Prop where
 ex : ∃ v', WrX O w' wb v' xs now
 mod : Mod O w w'
theorem Wrote.after {O S : Nat → Prop} {w w1 w2 : World} {wb : Nat} {xs : List Int} {now : Int} (h : Wrote O w1 w2 wb xs now) (hm : Mod S w w1) (hs : ∀ k, k < w.heap.size → S k → O k) : Wrote O w w2 wb xs now :=
 ⟨h.ex, (hm.mono hs).trans h.mod⟩
theorem Wrote.unbox {O : Nat → Prop} {w w2 : World} {wb : Nat} {xs : List Int} {now : Int} {o : Obj} (h : Wrote (fun k => O k ∧ k ≠ w.heap.size) (w.alloc o) w2 wb xs now) : Wrote O w w2 wb xs now := by
 obtain ⟨⟨v, hx⟩, hm⟩ := h
 exact ⟨⟨v, hx.wide (fun _ q => q.1)⟩, (((Mod.refl No w).alloc o).mono (fun _ _ x => x.elim)).trans (hm.mono (fun _ _ q => q.1))⟩
def Up (O : Nat → Prop) (w : World) : Prop := ∀ k, w.heap.size ≤ k → O k
theorem Up.box {O : Nat → Prop} {w : World} (h : Up O w) (o : Obj) : Up (fun k => O k ∧ k ≠ w.heap.size) (w.alloc o) := fun k hk => by
 rw [World.size_alloc] at hk
 exact ⟨h k (by omega), by omega⟩
theorem Up.mod {O S : Nat → Prop} {w w' : World} (h : Up O w) (hm : Mod S w w') : Up O w' := fun k hk => h k (Nat.le_trans hm.size hk)
theorem wnum_w {O : Nat → Prop} {w : World} {wb : Nat} {xs : List Int} {now : Int} (h : ∃ v, WrX O w wb v xs now) (hO : Up O w) (hl : xs.length < 1099511627766) (n : Int) (hn : 0 ≤ n ∧ n < 9223372036854775808) :
  Calls Tryz.prog 109 #[.pointer (some ⟨wb, 0, none⟩), .int .i64 n] w fun e w' => e = .returned (.tuple #[]) ∧ Wrote O w w' wb (xs ++ numB n) now := by
 obtain ⟨v, h⟩ := h
 exact (wnum_any h hO hl n hn).mono fun e w' ⟨q1, q2, q3⟩ => ⟨q1, q2, q3⟩
theorem whead_w {O : Nat → Prop} {w : World} {wb : Nat} {xs : List Int} {now : Int} (h : ∃ v, WrX O w wb v xs now) (hO : Up O w) (hl : xs.length < 1099511627776) (k f : Int) (hk : 1 ≤ k ∧ k ≤ 7) (hf : 0 ≤ f ∧ f < 32) :
  Calls Tryz.prog 124 #[.pointer (some ⟨wb, 0, none⟩), .int .i64 k, .int .i64 f] w fun e w' => e = .returned (.tuple #[]) ∧ Wrote O w w' wb (xs ++ [32 * k + f]) now := by
 obtain ⟨v, h⟩ := h
 exact (whead_any h hO hl k f hk hf).mono fun e w' ⟨q1, q2, q3⟩ => ⟨q1, q2, q3⟩
theorem wplace_any {O : Nat → Prop} {w : World} {wb : Nat} {xs : List Int} {now : Int} (h : ∃ v, WrX O w wb v xs now) (hO : Up O w) (hl : xs.length < 1099511627766) (r c : Int) (hr : 1 ≤ r ∧ r ≤ 20) (hc : 1 ≤ c ∧ c ≤ 6) :
  Calls Tryz.prog 127 #[.pointer (some ⟨wb, 0, none⟩), .agg #[.int .i64 r, .int .i64 c]] w fun e w' => e = .returned (.tuple #[]) ∧ Wrote O w w' wb (xs ++ placeB r c) now := by
 obtain ⟨v, h⟩ := h
 have HN := hide (wnum_w ⟨v, h.box (.cells #[.int .i64 r, .int .i64 c] 36)⟩ (hO.box _) hl ((r - 1) * 6 + c - 1) (by omega))
 clear h hO
 unfold placeB
 go_enter Tryz.func127, Tryz.ntmps127
 go_wp2_with fail
 refine (unhide HN).mono ?_
 rintro e w1 ⟨rfl, h1⟩
 have FIN := hide h1.unbox
 clear h1 HN
 go_wp2
 go_end0
 exact ⟨rfl, unhide FIN⟩
theorem wshape_any {O : Nat → Prop} {w : World} {wb : Nat} {xs : List Int} {now : Int} (h : ∃ v, WrX O w wb v xs now) (hO : Up O w) (hl : xs.length < 1099511627740) (a b c : Int) (ha : 0 ≤ a ∧ a < 9223372036854775808) (hb : 0 ≤ b ∧ b < 9223372036854775808) (hc : 0 ≤ c ∧ c < 9223372036854775808) :
  Calls Tryz.prog 128 #[.pointer (some ⟨wb, 0, none⟩), .int .i64 a, .int .i64 b, .int .i64 c] w fun e w' => e = .returned (.tuple #[]) ∧ Wrote O w w' wb (xs ++ (numB a ++ numB b ++ numB c)) now := by
 have la := (numB_len a).2
 have lb := (numB_len b).2
 have HN := hide (wnum_w h hO (by omega) a ha)
 have HO := hide hO
 clear h hO
 go_enter Tryz.func128, Tryz.ntmps128
 go_wp2_with fail
 refine (unhide HN).mono ?_
 rintro e w1 ⟨rfl, h1⟩
 have HN1 := hide (wnum_w h1.ex ((unhide HO).mod h1.mod) (by simp; omega) b hb)
 have M1 := hide h1.mod
 clear h1 HN
 go_wp2_with fail
 refine (unhide HN1).mono ?_
 rintro e w2 ⟨rfl, h2⟩
 have M2 := hide ((unhide M1).trans h2.mod)
 have HN2 := hide (wnum_w h2.ex ((unhide HO).mod (unhide M2)) (by simp; omega) c hc)
 clear h2 HN1
 go_wp2_with fail
 refine (unhide HN2).mono ?_
 rintro e w3 ⟨rfl, h3⟩
 have H3 := hide h3
 clear h3 HN2
 go_wp2
 go_end0
 refine ⟨rfl, ?_⟩
 rw [← List.append_assoc, ← List.append_assoc]
 exact (unhide H3).after (unhide M2) (fun _ _ x => x)
theorem lims_idx (l0 l1 l2 l3 : Int) (p : Pla) (hp : p.l0 = l0 ∧ p.l1 = l1 ∧ p.l2 = l2 ∧ p.l3 = l3) (k : Nat) (hk : k < 4) (w : World) :
  (Instr.index 37 (.agg #[.int .i64 l0, .int .i64 l1, .int .i64 l2, .int .i64 l3]) (.int .i64 (k : Int))).run Tryz.prog w = .ok (.int .i64 (p.lim k)) w := by
 obtain ⟨rfl, rfl, rfl, rfl⟩ := hp
 have : k = 0 ∨ k = 1 ∨ k = 2 ∨ k = 3 := by omega
 rcases this with rfl | rfl | rfl | rfl
 ·exact idx40_0 _ _ _ _ _
 ·exact idx40_1 _ _ _ _ _
 ·exact idx40_2 _ _ _ _ _
 ·exact idx40_3 _ _ _ _ _
def limsB (p : Pla) : Nat → List Int
 | 0 => []
 | k + 1 => limsB p k ++ numB (p.lim k)
theorem limsB_len (p : Pla) (k : Nat) : (limsB p k).length ≤ 9 * k := by
 induction k with
 | zero => simp [limsB]
 | succ k ih =>
  have := (numB_len (p.lim k)).2
  simp only [limsB, List.length_append]
  omega
theorem planeB_lims (p : Pla) : planeB p = shapeB p ++ limsB p 4 := by
 simp [planeB, limsB, Pla.lim]
def Pla.fit (p : Pla) : Prop := (0 ≤ p.rows ∧ p.rows < 9223372036854775808) ∧ (0 ≤ p.cols ∧ p.cols < 9223372036854775808) ∧ (0 ≤ p.front ∧ p.front < 9223372036854775808) ∧ ∀ k, 0 ≤ p.lim k ∧ p.lim k < 9223372036854775808
theorem shapeB_len (p : Pla) : (shapeB p).length ≤ 27 := by
 have a := (numB_len p.rows).2
 have b := (numB_len p.cols).2
 have c := (numB_len p.front).2
 simp only [shapeB, List.length_append]
 omega
theorem wplane_any {O : Nat → Prop} {w : World} {wb : Nat} {xs : List Int} {now : Int} (h : ∃ v, WrX O w wb v xs now) (hO : Up O w) (hl : xs.length < 1099511627700) (p : Pla) (hp : Pla.fit p) :
  Calls Tryz.prog 125 #[.pointer (some ⟨wb, 0, none⟩), .agg #[.int .i64 p.rows, .int .i64 p.cols, .int .i64 p.front, .int .i64 p.l0, .int .i64 p.l1, .int .i64 p.l2, .int .i64 p.l3]] w fun e w' => e = .returned (.tuple #[]) ∧ Wrote O w w' wb (xs ++ planeB p) now := by
 obtain ⟨v, h⟩ := h
 have B0 := hide (Has.new w #[.int .i64 p.rows, .int .i64 p.cols, .int .i64 p.front, .int .i64 p.l0, .int .i64 p.l1, .int .i64 p.l2, .int .i64 p.l3] 39)
 have hsl := shapeB_len p
 have HO := hide (hO.box (.cells #[.int .i64 p.rows, .int .i64 p.cols, .int .i64 p.front, .int .i64 p.l0, .int .i64 p.l1, .int .i64 p.l2, .int .i64 p.l3] 39))
 have HN := hide (wshape_any ⟨v, h.box (.cells #[.int .i64 p.rows, .int .i64 p.cols, .int .i64 p.front, .int .i64 p.l0, .int .i64 p.l1, .int .i64 p.l2, .int .i64 p.l3] 39)⟩ (unhide HO) (by omega) p.rows p.cols p.front hp.1 hp.2.1 hp.2.2.1)
 rw [planeB_lims]
 have HL := hide fun k hk W => lims_idx p.l0 p.l1 p.l2 p.l3 p ⟨rfl, rfl, rfl, rfl⟩ k hk W
 have HF := hide hp.2.2.2
 clear h hp hO
 unfold shapeB at *
 generalize hP : numB p.rows ++ numB p.cols ++ numB p.front = PB at *
 clear hP
 go_enter Tryz.func125, Tryz.ntmps125
 go_wp2_with fail
 refine (unhide HN).mono ?_
 rintro e w1 ⟨rfl, h1⟩
 have b1 := h1.mod.has (unhide B0) (fun q => q.2 rfl)
 have c3 : w1.cell? ⟨w.heap.size, 3, none⟩ = some (.int .i64 p.l0) := b1.cell 3
 have c4 : w1.cell? ⟨w.heap.size, 4, none⟩ = some (.int .i64 p.l1) := b1.cell 4
 have c5 : w1.cell? ⟨w.heap.size, 5, none⟩ = some (.int .i64 p.l2) := b1.cell 5
 have c6 : w1.cell? ⟨w.heap.size, 6, none⟩ = some (.int .i64 p.l3) := b1.cell 6
 have hlt := b1.lt
 have H1 := hide h1
 clear h1 HN B0 b1
 go_wp2_with fail
 go_loopw [16] (fun s wr => ∃ k : Nat, s = .int .i64 k ∧ k ≤ 4 ∧ Hid (Wrote (fun k => O k ∧ k ≠ w.heap.size) (w.alloc (.cells #[.int .i64 p.rows, .int .i64 p.cols, .int .i64 p.front, .int .i64 p.l0, .int .i64 p.l1, .int .i64 p.l2, .int .i64 p.l3] 39)) wr wb (xs ++ PB ++ limsB p k) now)) (fun s _ => 4 - (intOf s).toNat)
 case atStart => exact ⟨0, rfl, by omega, by rw [limsB, List.append_nil]; exact H1⟩
 case round =>
  obtain ⟨k, rfl, hk, H2⟩ := hrel
  clear H1 c3 c4 c5 c6 hlt
  by_cases h4 : k < 4
  ·have h4i : (k : Int) < 4 := by omega
   have h0i : (0 : Int) ≤ k := by omega
   have hk1 : IntKind.i64.wrap ((k : Int) + 1) = ((k + 1 : Nat) : Int) := by rw [wrap_id _ (by omega) (by omega)]; rfl
   have hix := (unhide HL) k h4 wr
   have hll := limsB_len p k
   have HN := hide (wnum_w (unhide H2).ex ((unhide HO).mod (unhide H2).mod) (by simp only [List.length_append]; omega) (p.lim k) ((unhide HF) k))
   clear hll
   go_wp2_with fail
   refine (unhide HN).mono ?_
   rintro e w2 ⟨rfl, h2⟩
   have H3 := hide (h2.after (unhide H2).mod (fun _ _ x => x))
   clear h2 HN H2 hix
   go_wp2
   refine ⟨⟨k + 1, rfl, by omega, ?_⟩, by simp [intOf]; omega⟩
   rw [limsB, ← List.append_assoc]
   exact H3
  ·have h4i : ¬ (k : Int) < 4 := by omega
   obtain rfl : k = 4 := by omega
   go_wp2
   go_end0
   refine ⟨rfl, ?_⟩
   rw [← List.append_assoc]
   exact (unhide H2).unbox
structure SFit (now : Int) (s : Sea) : Prop where
 row : 1 ≤ s.row ∧ s.row ≤ 20
 col : 1 ≤ s.col ∧ s.col ≤ 6
 st : 0 ≤ s.st ∧ s.st ≤ 3
 cl : 0 ≤ s.cl ∧ s.cl ≤ 3
 pa : 0 ≤ s.pa ∧ s.pa ≤ 1000
 un : s.st = 1 → now ≤ s.un ∧ s.un - now ≤ 4611686018427387904
 now : 0 ≤ now ∧ now ≤ 4611686018427387904
theorem fillB_len (now : Int) (s : Sea) : (fillB now s).length ≤ 36 := by
 have a := (numB_len ((s.row - 1) * 6 + s.col - 1)).2
 have b := (numB_len (s.st * 4 + s.cl)).2
 have c := (numB_len s.pa).2
 have d := (numB_len (s.un - now)).2
 unfold fillB placeB
 simp only [List.length_append]
 have e : (if s.st = 3 then [] else numB s.pa).length ≤ 9 := by
  split
  ·simp
  ·exact c
 have f : (if s.st = 1 then numB (s.un - now) else []).length ≤ 9 := by
  split
  ·exact d
  ·simp
 omega
theorem wfill_any {O : Nat → Prop} {w : World} {wb : Nat} {xs : List Int} {now : Int} (h : ∃ v, WrX O w wb v xs now) (hO : Up O w) (hl : xs.length < 1099511627700) (s : Sea) (hs : SFit now s) :
  Calls Tryz.prog 126 #[.pointer (some ⟨wb, 0, none⟩), .agg #[.int .i64 s.row, .int .i64 s.col, .int .i64 s.st, .int .i64 s.pa, .int .i64 s.cl, .int .i64 s.un]] w fun e w' => e = .returned (.tuple #[]) ∧ Wrote O w w' wb (xs ++ fillB now s) now := by
 obtain ⟨v, h⟩ := h
 obtain ⟨h1, h2, h3, h4, h5, h6, h7⟩ := hs
 have l1 := (numB_len ((s.row - 1) * 6 + s.col - 1)).2
 have l2 := (numB_len (s.st * 4 + s.cl)).2
 have l3 := (numB_len s.pa).2
 have B0 := hide (Has.new w #[.int .i64 s.row, .int .i64 s.col, .int .i64 s.st, .int .i64 s.pa, .int .i64 s.cl, .int .i64 s.un] 202)
 have HO := hide (hO.box (.cells #[.int .i64 s.row, .int .i64 s.col, .int .i64 s.st, .int .i64 s.pa, .int .i64 s.cl, .int .i64 s.un] 202))
 have HN := hide (wplace_any ⟨v, h.box (.cells #[.int .i64 s.row, .int .i64 s.col, .int .i64 s.st, .int .i64 s.pa, .int .i64 s.cl, .int .i64 s.un] 202)⟩ (unhide HO) (by omega) s.row s.col h1 h2)
 have h6 := hide h6
 clear h hO
 have hpl : (placeB s.row s.col).length ≤ 9 := l1
 have HF := hide (show fillB now s = placeB s.row s.col ++ numB (s.st * 4 + s.cl) ++ (if s.st = 3 then [] else numB s.pa) ++ (if s.st = 1 then numB (s.un - now) else []) from rfl)
 generalize fillB now s = F at *
 generalize placeB s.row s.col = P at *
 go_enter Tryz.func126, Tryz.ntmps126
 go_wp2_with fail
 refine (unhide HN).mono ?_
 rintro e w1 ⟨rfl, q1⟩
 have b1 := q1.mod.has (unhide B0) (fun q => q.2 rfl)
 have c2 : w1.cell? ⟨w.heap.size, 2, none⟩ = some (.int .i64 s.st) := b1.cell 2
 have c3 : w1.cell? ⟨w.heap.size, 3, none⟩ = some (.int .i64 s.pa) := b1.cell 3
 have c4 : w1.cell? ⟨w.heap.size, 4, none⟩ = some (.int .i64 s.cl) := b1.cell 4
 have c5 : w1.cell? ⟨w.heap.size, 5, none⟩ = some (.int .i64 s.un) := b1.cell 5
 have hlt := b1.lt
 have hsz := q1.mod.size
 have HO1 := hide ((unhide HO).mod q1.mod)
 have Q1 := hide q1
 have NE := hide (show ¬ w1.heap.size = w.heap.size by omega)
 clear q1 HN B0 b1
 go_upto_region 3 with fail
 obtain ⟨v1, hv1⟩ := (unhide Q1).ex
 have HN := hide (wnum_w ⟨v1, hv1.box (.cells #[.int .i64 s.st, .int .i64 s.pa, .int .i64 s.cl, .int .i64 s.un] 199)⟩ ((unhide HO1).box _) (by simp only [List.length_append]; omega) (s.st * 4 + s.cl) (by omega))
 have B1 := hide (Has.new w1 #[.int .i64 s.st, .int .i64 s.pa, .int .i64 s.cl, .int .i64 s.un] 199)
 have HO2 := hide ((unhide HO1).box (.cells #[.int .i64 s.st, .int .i64 s.pa, .int .i64 s.cl, .int .i64 s.un] 199))
 clear hv1 c2 c3 c4 c5
 go_wp2_with fail
 refine (unhide HN).mono ?_
 rintro e w2 ⟨rfl, q2⟩
 have b2 := q2.mod.has (unhide B1) (fun q => q.2 rfl)
 have c0 : w2.cell? ⟨w1.heap.size, 0, none⟩ = some (.int .i64 s.st) := b2.cell 0
 have c1 : w2.cell? ⟨w1.heap.size, 1, none⟩ = some (.int .i64 s.pa) := b2.cell 1
 have lt2 := b2.lt
 have HO3 := hide ((unhide HO2).mod q2.mod)
 have Q2 := hide q2
 have B2 := hide b2
 clear q2 b2 HN B1
 by_cases k3 : s.st = 3
 ·have k3b : (s.st != 3) = false := by simp [k3]
  have k1b : (s.st == 1) = false := by simp [k3]
  have K1 := hide (show ¬ s.st = 1 by omega)
  have K3 := hide k3
  clear k3
  have FIN := hide ((unhide Q2).unbox)
  go_wp2
  go_end0
  refine ⟨rfl, ?_⟩
  rw [unhide HF, if_pos (unhide K3), if_neg (unhide K1), List.append_nil, List.append_nil, ← List.append_assoc]
  exact ((unhide FIN).after (unhide Q1).mod (fun _ _ x => x)).unbox
 ·have k3b : (s.st != 3) = true := by simp [k3]
  have K3 := hide k3
  clear k3
  have HN := hide (wnum_w (unhide Q2).ex (unhide HO3) (by simp only [List.length_append]; omega) s.pa (by omega))
  go_wp2_with fail
  refine (unhide HN).mono ?_
  rintro e w3 ⟨rfl, q3⟩
  have b3 := q3.mod.has (unhide B2) (fun q => q.2 rfl)
  have d0 : w3.cell? ⟨w1.heap.size, 0, none⟩ = some (.int .i64 s.st) := b3.cell 0
  have d3 : w3.cell? ⟨w1.heap.size, 3, none⟩ = some (.int .i64 s.un) := b3.cell 3
  have lt3 := b3.lt
  have HO4 := hide ((unhide HO3).mod q3.mod)
  have Q3 := hide (q3.after (unhide Q2).mod (fun _ _ x => x))
  clear q3 b3 HN c0 c1 B2
  by_cases k1 : s.st = 1
  case neg =>
   have k1b : (s.st == 1) = false := by simp [k1]
   have K1 := hide k1
   clear k1
   have FIN := hide ((unhide Q3).unbox)
   go_wp2
   go_end0
   refine ⟨rfl, ?_⟩
   rw [unhide HF, if_neg (unhide K3), if_neg (unhide K1), List.append_nil, ← List.append_assoc, ← List.append_assoc]
   exact ((unhide FIN).after (unhide Q1).mod (fun _ _ x => x)).unbox
  ·have k1b : (s.st == 1) = true := by simp [k1]
   have h6 := (unhide h6) k1
   have K1 := hide k1
   clear k1
   obtain ⟨v3, hv3⟩ := (unhide Q3).ex
   have c0 : w3.cell? ⟨wb, 1, none⟩ = some (.int .i64 now) := hv3.has.cell 1
   have lt4 := hv3.has.lt
   have hw : IntKind.i64.wrap (s.un - now) = s.un - now := wrap_id _ (by omega) (by omega)
   have HN := hide fun n => wnum_w ⟨v3, hv3.mod (S := No) ((Mod.refl No w3).drewN n) (fun _ _ x => x)⟩ ((unhide HO4).mod ((Mod.refl No w3).drewN n)) (by simp only [List.length_append]; omega) (s.un - now) (by omega)
   have HM := hide fun n => (Mod.refl No w3).drewN n
   clear hv3 HO4 HO3 HO2 HO1 HO
   go_wp2_with fail
   go_region_law (refine step_call rfl 109 _ _ rfl #[.pointer (some ⟨wb, 0, none⟩), .int .i64 (s.un - now)] (by simp [Act.eval, Act.put]) (fun W => by kernel_rfl) (.tuple #[]) _ ((unhide HN) 1) ?_; intro w5 hk5)
   all_goals go_wp2
   all_goals go_end0
   all_goals
    refine ⟨rfl, ?_⟩
    rw [unhide HF, if_neg (unhide K3), if_pos (unhide K1), ← List.append_assoc, ← List.append_assoc, ← List.append_assoc]
    have q5 := (hk5.after ((unhide HM) 1) (fun _ _ x => x.elim)).after (unhide Q3).mod (fun _ _ x => x)
    exact (q5.unbox.after (unhide Q1).mod (fun _ _ x => x)).unbox
end Go.Proofs.YthhibagcpjeihaaGreat
