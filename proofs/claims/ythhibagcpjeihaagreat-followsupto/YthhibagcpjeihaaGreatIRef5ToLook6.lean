import Derived.Test.YthhibagcpjeihaaGreatIPass2ToRef4
import Derived.Test.YthhibagcpjeihaaGreatIBaseToMaps
import Derived.Test.YthhibagcpjeihaaGreatIChangeToEq40
namespace Go.Proofs.YthhibagcpjeihaaGreat
open Go.RowKit
open M
set_option linter.unusedVariables false
set_option linter.unusedSimpArgs false
set_option maxRecDepth 100000
set_option maxHeartbeats 4000000
structure EmptyI (p : Pla) (w wr : World) (v : Value) (m : Nat) : Prop where
 mod : Mod No w wr
 box : Has wr w.heap.size #[.int .i64 p.rows, .int .i64 p.cols, .int .i64 p.front, .int .i64 p.l0, .int .i64 p.l1, .int .i64 p.l2, .int .i64 p.l3] 39
 row : wr.ownsRow 0 63 6 v m (((emptySeats p).take m).flatMap seaL)
 new : ∀ k, v.ownBlock = some k → w.heap.size < k
theorem empty_at (p : Pla) (R C : Nat) (hR : p.rows = (R : Int)) (hC : p.cols = (C : Int)) (r c : Nat) (hr : 1 ≤ r ∧ r ≤ R) (hc : 1 ≤ c ∧ c ≤ C) :
  ((emptySeats p).take ((r - 1) * C + (c - 1) + 1)).flatMap seaL = ((emptySeats p).take ((r - 1) * C + (c - 1))).flatMap seaL ++ [.int .i64 r, .int .i64 c, .int .i64 0, .int .i64 0, .int .i64 0, .int .i64 0] := by
 have hlen : (emptySeats p).length = R * C := by
  unfold emptySeats
  rw [List.length_map, List.length_range, hR, hC]
  exact Int.toNat_natCast (R * C)
 have hm : (r - 1) * C + (c - 1) < R * C := by
  have : (r - 1) * C ≤ (R - 1) * C := Nat.mul_le_mul_right _ (by omega)
  have e : R * C = (R - 1) * C + C := by
   obtain ⟨q, rfl⟩ : ∃ q, R = q + 1 := ⟨R - 1, by omega⟩
   rw [Nat.add_sub_cancel, Nat.add_mul, Nat.one_mul]
  omega
 rw [List.take_add_one, List.getElem?_eq_getElem (by omega)]
 simp only [Option.toList_some, List.flatMap_append, List.flatMap_cons, List.flatMap_nil, List.append_nil]
 congr 1
 have e : (emptySeats p)[(r - 1) * C + (c - 1)]'(by omega) = ⟨r, c, 0, 0, 0, 0⟩ := by
  unfold emptySeats
  rw [List.getElem_map, List.getElem_range, hC]
  have d1 : (((r - 1) * C + (c - 1) : Nat) : Int) / (C : Int) = ((r - 1 : Nat) : Int) := by
   rw [← Int.natCast_ediv, Nat.mul_comm, Nat.mul_add_div (by omega), Nat.div_eq_of_lt (by omega), Nat.add_zero]
  have d2 : (((r - 1) * C + (c - 1) : Nat) : Int) % (C : Int) = ((c - 1 : Nat) : Int) := by
   rw [← Int.natCast_emod, Nat.mul_comm, Nat.mul_add_mod, Nat.mod_eq_of_lt (by omega)]
  rw [d1, d2]
  congr 1 <;> omega
 rw [e]
 rfl
theorem EmptyI.step {p : Pla} {w wr w3 : World} {v v' : Value} {R C r c m : Nat} (hR : p.rows = (R : Int)) (hC : p.cols = (C : Int)) (hr : 1 ≤ r ∧ r ≤ R) (hc : 1 ≤ c ∧ c ≤ C) (hm : m = (r - 1) * C + (c - 1)) (h : EmptyI p w wr v m) (o : Obj)
  (ho : w3.ownsRow 0 63 6 v' (m + 1) ((((emptySeats p).take m).flatMap seaL) ++ [.int .i64 r, .int .i64 c, .int .i64 0, .int .i64 0, .int .i64 0, .int .i64 0])) (hg : (wr.alloc o).grownBy w3 v.ownBlock) (hs : Stays (wr.alloc o) v v') :
  EmptyI p w w3 v' (m + 1) := by
 have hm1 : Mod (fun k => w.heap.size < k) wr w3 := ((Mod.refl _ wr).alloc o).grown hg (fun k hk => .inl (h.new k hk))
 refine ⟨h.mod.trans' hm1 (fun i hi hl => by omega), hm1.has h.box (by omega), ?_, fun k hk => ?_⟩
 ·rw [hm, empty_at p R C hR hC r c hr hc, ← hm]
  exact ho
 ·rcases hs k hk with h1 | h1
  ·exact h.new k h1
  ·have := h.box.lt
   simp at h1
   omega
theorem rempty_any (p : Pla) (h : p.sized = true) (w : World) :
  Calls Tryz.prog 84 #[plaV p] w fun e w' => ∃ g cap, e = .returned (.slice (some ⟨g, 0, none⟩) (emptySeats p).length cap) ∧ RowS w' g cap (emptySeats p) ∧ w.heap.size < g ∧ Mod No w w' := by
 have hb := h
 simp only [Pla.sized, decide_eq_true_eq] at hb
 obtain ⟨R, hR⟩ : ∃ R : Nat, p.rows = (R : Int) := ⟨p.rows.toNat, by omega⟩
 obtain ⟨C, hC⟩ : ∃ C : Nat, p.cols = (C : Int) := ⟨p.cols.toNat, by omega⟩
 have hR1 : 1 ≤ R ∧ R ≤ 20 := by omega
 have hC1 : 1 ≤ C ∧ C ≤ 6 := by omega
 have hlen : (emptySeats p).length = R * C := by
  unfold emptySeats
  rw [List.length_map, List.length_range, hR, hC]
  exact Int.toNat_natCast (R * C)
 have E0 : EmptyI p w (w.alloc (.cells #[.int .i64 p.rows, .int .i64 p.cols, .int .i64 p.front, .int .i64 p.l0, .int .i64 p.l1, .int .i64 p.l2, .int .i64 p.l3] 39)) (.slice none 0 0) 0 :=
  ⟨(Mod.refl No w).alloc _, Has.new w _ _, by simpa using World.ownsRow_nil _ _ _ _, fun k hk => by simp [Value.ownBlock] at hk⟩
 have E0 := hide E0
 have EL := hide hlen
 have FIN := hide fun (wr : World) (v : Value) (hE : EmptyI p w wr v (R * C)) => (show ∃ g cap, v = .slice (some ⟨g, 0, none⟩) (emptySeats p).length cap ∧ RowS wr g cap (emptySeats p) ∧ w.heap.size < g ∧ Mod No w wr from by
  have ho := hE.row
  rw [List.take_of_length_le (by rw [hlen]; exact Nat.le_refl _), ← hlen] at ho
  have hpos : 0 < (emptySeats p).length := by rw [hlen]; exact Nat.mul_pos (by omega) (by omega)
  have ho2 := ho
  obtain ⟨_, h1 | ⟨g, cap, cur, hv, _⟩⟩ := ho2
  ·omega
  ·subst hv
   exact ⟨g, cap, rfl, (rowS_of ho).2, hE.new g rfl, hE.mod⟩)
 have HR := hide hR
 have HC := hide hC
 clear hlen h hb hR hC
 obtain ⟨i114, q0, q1, q2, q3⟩ := info_parts info114
 unfold plaV
 go_enter Tryz.func84, Tryz.ntmps84
 go_wp2_with fail
 go_loopw [3, 4] (fun s3 s4 wr => ∃ (r : Nat) (a : Option Addr) (cp : Nat), s4 = .int .i64 r ∧ 1 ≤ r ∧ r ≤ R + 1 ∧ s3 = .slice a ((r - 1) * C) cp ∧ Hid (EmptyI p w wr (.slice a ((r - 1) * C) cp) ((r - 1) * C))) (fun _ s4 _ => R + 1 - (intOf s4).toNat)
 case atStart => exact ⟨1, none, 0, rfl, by omega, by omega, by simp, by simpa using E0⟩
 case round =>
  obtain ⟨r, a, cp, rfl, hr1, hr2, rfl, E1⟩ := hrel
  clear E0
  have hb1 := (unhide E1).box.cell
  by_cases h1 : r ≤ R
  ·have h1i : (r : Int) ≤ p.rows := by rw [unhide HR]; omega
   have hr3 : IntKind.i64.wrap ((r : Int) + 1) = ((r + 1 : Nat) : Int) := by rw [wrap_id _ (by omega) (by omega)]; rfl
   go_wp2_with fail
   go_loopw [3, 5] (fun s3 s5 wx => ∃ (c : Nat) (a : Option Addr) (cp : Nat), s5 = .int .i64 c ∧ 1 ≤ c ∧ c ≤ C + 1 ∧ s3 = .slice a ((r - 1) * C + (c - 1)) cp ∧ Hid (EmptyI p w wx (.slice a ((r - 1) * C + (c - 1)) cp) ((r - 1) * C + (c - 1)))) (fun _ s5 _ => C + 1 - (intOf s5).toNat)
   case atStart => exact ⟨1, a, cp, rfl, by omega, by omega, by simp, by simpa using E1⟩
   case round =>
    obtain ⟨c, a2, cp2, rfl, hc1, hc2, rfl, E2⟩ := hrel
    clear E1 hb1
    have hb2 := (unhide E2).box.cell
    by_cases h2 : c ≤ C
    ·have h2i : (c : Int) ≤ p.cols := by rw [unhide HC]; omega
     have hc3 : IntKind.i64.wrap ((c : Int) + 1) = ((c + 1 : Nat) : Int) := by rw [wrap_id _ (by omega) (by omega)]; rfl
     have hmn : (r - 1) * C + (c - 1) ≤ 120 := by
      have : (r - 1) * C ≤ 19 * 6 := Nat.mul_le_mul (by omega) (by omega)
      omega
     have hmm : (r - 1) * C + (c + 1 - 1) = (r - 1) * C + (c - 1) + 1 := by omega
     have hrC : 1 ≤ r ∧ r ≤ R := ⟨hr1, h1⟩
     have hcC : 1 ≤ c ∧ c ≤ C := ⟨hc1, h2⟩
     have hm0 : ∃ m, m = (r - 1) * C + (c - 1) := ⟨_, rfl⟩
     obtain ⟨m, hm⟩ := hm0
     rw [← hm] at E2 hmn hmm ⊢
     have HO := hide (((Mod.refl No wr).alloc (.cells #[.int .i64 r, .int .i64 c, .int .i64 0, .int .i64 0, .int .i64 0, .int .i64 0] 63)).owns (unhide E2).row (fun _ _ x => x))
     have HRD := hide (show Reads (wr.alloc (.cells #[.int .i64 r, .int .i64 c, .int .i64 0, .int .i64 0, .int .i64 0, .int .i64 0] 63)) (.slice (some ⟨wr.heap.size, 0, none⟩) 1 1) 1 [.int .i64 r, .int .i64 c, .int .i64 0, .int .i64 0, .int .i64 0, .int .i64 0] from
      .inr ⟨⟨wr.heap.size, 0, none⟩, 1, rfl, fun j u hu => by
       rw [Addr.add_mid, Nat.zero_add, (Has.new wr #[.int .i64 r, .int .i64 c, .int .i64 0, .int .i64 0, .int .i64 0, .int .i64 0] 63).cell, ← Array.getElem?_toList]
       exact hu⟩)
     have HST := hide fun (w3 : World) (v' : Value) => EmptyI.step (w3 := w3) (v' := v') (unhide HR) (unhide HC) hrC hcC hm (unhide E2) (.cells #[.int .i64 r, .int .i64 c, .int .i64 0, .int .i64 0, .int .i64 0, .int .i64 0] 63)
     have HM := hide hmm
     clear hmm hm
     go_wp2_with (first | (at_builtin; refine wpList_append_row rfl (.tmp 18) (.tmp 23) 61 rfl 63 i114 _ 6 48 Tryz.underlying61 q0 q1 q2 q3 rfl (by decide) (.slice a2 m cp2) m _ (by simp [Act.eval]) (by exact unhide HO) (.slice (some ⟨wr.heap.size, 0, none⟩) 1 1) 1 [.int .i64 r, .int .i64 c, .int .i64 0, .int .i64 0, .int .i64 0, .int .i64 0] (by simp [Act.eval]) (by exact unhide HRD) rfl (by intro u hu; simp at hu; rcases hu with rfl | rfl | rfl <;> rfl) (by unfold maxLen; omega) (by omega) ?_; intro v' w3 ho3 hg3 hs3; obtain ⟨a3, c3, rfl⟩ := slice_of_owns ho3))
     exact ⟨⟨c + 1, a3, c3, rfl, by omega, by omega, by rw [unhide HM], by rw [unhide HM]; exact (unhide HST) _ _ ho3 hg3 hs3⟩, by simp [intOf]; omega⟩
    ·have h2i : ¬ (c : Int) ≤ p.cols := by rw [unhide HC]; omega
     have hcC : c = C + 1 := by omega
     subst hcC
     have hmm : (r - 1) * C + (C + 1 - 1) = (r + 1 - 1) * C := by
      obtain ⟨q, rfl⟩ : ∃ q, r = q + 1 := ⟨r - 1, by omega⟩
      rw [Nat.add_sub_cancel, Nat.add_sub_cancel, Nat.add_sub_cancel, Nat.add_mul, Nat.one_mul]
     rw [hmm] at E2 ⊢
     have HM := hide hmm
     clear hmm
     go_wp2
     exact ⟨⟨r + 1, a2, cp2, rfl, by omega, by omega, rfl, E2⟩, by simp [intOf]; omega⟩
  ·have h1i : ¬ (r : Int) ≤ p.rows := by rw [unhide HR]; omega
   have hrR : r = R + 1 := by omega
   subst hrR
   have hmm : (R + 1 - 1) * C = R * C := by rw [Nat.add_sub_cancel]
   rw [hmm] at E1 ⊢
   obtain ⟨g, cap, hv, f1, f2, f3⟩ := (unhide FIN) _ _ (unhide E1)
   have F1 := hide f1
   have F3 := hide f3
   clear E1 hmm f1 f3 FIN EL
   go_wp2
   go_ret
   exact ⟨g, cap, by rw [← hv]; rfl, unhide F1, f2, unhide F3⟩
open Go.ChangeMaps (setBlock)
def refuse (e : Int) : Value := .tuple #[.nilIface, .int .i64 e]
def grant (v : Value) : Value := .tuple #[v, .int .i64 0]
def fillV (r c st pa cl un : Int) : Value := .iface 202 (.agg #[.int .i64 r, .int .i64 c, .int .i64 st, .int .i64 pa, .int .i64 cl, .int .i64 un])
def emptyV (r c : Int) : Value := .iface 214 (.agg #[.int .i64 r, .int .i64 c])
def shiftV (r c r' c' : Int) : Value := .iface 216 (.agg #[.int .i64 r, .int .i64 c, .int .i64 r', .int .i64 c'])
def startV (p : Pla) : Value := .iface 189 (plaV p)
def passV (n : Int) : Value := .iface 159 (.agg #[.int .i64 n])
attribute [local go_sem] field171
theorem has_walk (b : Nat) (r c rows cols : Int) (cs : Array Value) (w : World) (h : Has w b cs 164) (h0 : cs[0]? = some (.int .i64 rows)) (h1 : cs[1]? = some (.int .i64 cols)) :
  Calls Tryz.prog 99 #[.pointer (some ⟨b, 0, none⟩), .agg #[.int .i64 r, .int .i64 c]] w fun e w' => e = .returned (.bool (decide (1 ≤ r ∧ r ≤ rows ∧ 1 ≤ c ∧ c ≤ cols))) ∧ Mod No w w' := by
 have hlt := h.lt
 have c0 := h.cell 0
 rw [h0] at c0
 have c1 := h.cell 1
 rw [h1] at c1
 have MW := hide (fun n => ((Mod.refl No w).alloc (.cells #[.int .i64 r, .int .i64 c] 36)).drewN n)
 clear h h0 h1
 by_cases a1 : r ≥ 1
 ·have d1 : decide (r ≥ 1) = true := decide_eq_true a1
  by_cases a2 : r ≤ rows
  ·by_cases a3 : c ≥ 1
   ·by_cases a4 : c ≤ cols
    ·have HS := hide (show decide (1 ≤ r ∧ r ≤ rows ∧ 1 ≤ c ∧ c ≤ cols) = true by simp; omega)
     go_enter Tryz.func99, Tryz.ntmps99
     go_wp2_with fail
     go_quiet (fail)
     go_wp2
     go_ret
     exact ⟨by rw [unhide HS]; rfl, (unhide MW) _⟩
    ·have d4 : decide (c ≤ cols) = false := decide_eq_false a4
     have HS := hide (show decide (1 ≤ r ∧ r ≤ rows ∧ 1 ≤ c ∧ c ≤ cols) = false by simp; omega)
     go_enter Tryz.func99, Tryz.ntmps99
     go_wp2_with fail
     go_quiet (fail)
     go_wp2
     go_ret
     exact ⟨by rw [unhide HS]; rfl, (unhide MW) _⟩
   ·have d4 : decide (c ≥ 1) = false := decide_eq_false a3
    have d5 : decide (1 ≤ c) = false := decide_eq_false a3
    have HS := hide (show decide (1 ≤ r ∧ r ≤ rows ∧ 1 ≤ c ∧ c ≤ cols) = false by simp; omega)
    go_enter Tryz.func99, Tryz.ntmps99
    go_wp2_with fail
    go_quiet (fail)
    go_wp2
    go_ret
    exact ⟨by rw [unhide HS]; rfl, (unhide MW) _⟩
  ·have d4 : decide (r ≤ rows) = false := decide_eq_false a2
   have HS := hide (show decide (1 ≤ r ∧ r ≤ rows ∧ 1 ≤ c ∧ c ≤ cols) = false by simp; omega)
   go_enter Tryz.func99, Tryz.ntmps99
   go_wp2_with fail
   go_quiet (fail)
   go_wp2
   go_ret
   exact ⟨by rw [unhide HS]; rfl, (unhide MW) _⟩
 ·have d4 : decide (r ≥ 1) = false := decide_eq_false a1
  have d5 : decide (1 ≤ r) = false := decide_eq_false a1
  have HS := hide (show decide (1 ≤ r ∧ r ≤ rows ∧ 1 ≤ c ∧ c ≤ cols) = false by simp; omega)
  go_enter Tryz.func99, Tryz.ntmps99
  go_wp2_with fail
  go_quiet (fail)
  go_wp2
  go_ret
  exact ⟨by rw [unhide HS]; rfl, (unhide MW) _⟩
def holdV (c : Cmd) (now bu sl : Int) : Value :=
 if bu ≠ 0 then refuse bu else if c.time ≤ now ∨ c.time > now + 100 then refuse 8 else if sl ≠ 0 then refuse sl else grant (fillV c.ar c.ac 1 c.party c.cls c.time)
theorem hold_walk (b : Nat) (c : Cmd) (now bu sl : Int) (hn : 0 ≤ now ∧ now ≤ 4611686018427387000) (w : World)
  (hB : ∀ W, Mod No w W → Calls Tryz.prog 119 #[.agg (cmdCells c)] W fun e w' => e = .returned (.int .i64 bu) ∧ Mod No W w')
  (hS : bu = 0 → ∀ W, Mod No w W → Calls Tryz.prog 120 #[.pointer (some ⟨b, 0, none⟩), .agg (cmdCells c)] W fun e w' => e = .returned (.int .i64 sl) ∧ Mod No W w') :
  Calls Tryz.prog 100 #[.pointer (some ⟨b, 0, none⟩), .agg (cmdCells c), .int .i64 now] w fun e w' => e = .returned (holdV c now bu sl) ∧ Mod No w w' := by
 have hw : IntKind.i64.wrap (now + 100) = now + 100 := wrap_id _ (by omega) (by omega)
 have HB := hide hB
 have HS := hide hS
 have M0 := hide ((Mod.refl No w).alloc (.cells (cmdCells c) 41))
 have B0 := hide (Has.new w (cmdCells c) 41)
 unfold cmdCells at HB HS M0 B0 ⊢
 clear hB hS
 by_cases h1 : bu = 0
 ·have d1 : (bu != 0) = false := by simp [h1]
  have HBU := hide h1
  clear h1
  by_cases h2 : c.time ≤ now
  ·have HV := hide (show holdV c now bu sl = refuse 8 by unfold holdV; rw [if_neg (by simpa using unhide HBU), if_pos (.inl h2)])
   go_enter Tryz.func100, Tryz.ntmps100
   go_wp2_with fail
   refine ((unhide HB) _ (unhide M0)).mono ?_
   rintro e w1 ⟨rfl, m1⟩
   have cb := (m1.has (unhide B0) (fun x => x)).cell
   have M1 := hide ((unhide M0).trans m1)
   clear m1
   go_wp2
   go_ret2
   exact ⟨by rw [unhide HV]; rfl, unhide M1⟩
  ·by_cases h3 : c.time > now + 100
   ·have HV := hide (show holdV c now bu sl = refuse 8 by unfold holdV; rw [if_neg (by simpa using unhide HBU), if_pos (.inr h3)])
    go_enter Tryz.func100, Tryz.ntmps100
    go_wp2_with fail
    refine ((unhide HB) _ (unhide M0)).mono ?_
    rintro e w1 ⟨rfl, m1⟩
    have cb := (m1.has (unhide B0) (fun x => x)).cell
    have M1 := hide ((unhide M0).trans m1)
    clear m1
    go_wp2
    go_ret2
    exact ⟨by rw [unhide HV]; rfl, unhide M1⟩
   ·have HV := hide (show holdV c now bu sl = if sl ≠ 0 then refuse sl else grant (fillV c.ar c.ac 1 c.party c.cls c.time) by unfold holdV; rw [if_neg (by simpa using unhide HBU), if_neg (by omega)])
    go_enter Tryz.func100, Tryz.ntmps100
    go_wp2_with fail
    refine ((unhide HB) _ (unhide M0)).mono ?_
    rintro e w1 ⟨rfl, m1⟩
    have cb := (m1.has (unhide B0) (fun x => x)).cell
    have M1 := hide ((unhide M0).trans m1)
    have B1 := hide (m1.has (unhide B0) (fun x => x))
    clear m1
    go_wp2_with fail
    refine ((unhide HS) (unhide HBU) _ (unhide M1)).mono ?_
    rintro e w2 ⟨rfl, m2⟩
    have cb2 := (m2.has (unhide B1) (fun x => x)).cell
    have M2 := hide ((unhide M1).trans m2)
    clear m2 cb
    by_cases h4 : sl = 0
    ·have d4 : (sl != 0) = false := by simp [h4]
     have HV2 := hide (show holdV c now bu sl = grant (fillV c.ar c.ac 1 c.party c.cls c.time) by rw [unhide HV, if_neg (by simpa using h4)])
     clear h4
     go_wp2
     go_ret2
     exact ⟨by rw [unhide HV2]; rfl, unhide M2⟩
    ·have d4 : (sl != 0) = true := by simp [h4]
     have HV2 := hide (show holdV c now bu sl = refuse sl by rw [unhide HV, if_pos h4])
     clear h4
     go_wp2
     go_ret2
     exact ⟨by rw [unhide HV2]; rfl, unhide M2⟩
 ·have d1 : (bu != 0) = true := by simp [h1]
  have HV := hide (show holdV c now bu sl = refuse bu by unfold holdV; rw [if_pos h1])
  clear h1
  go_enter Tryz.func100, Tryz.ntmps100
  go_wp2_with fail
  refine ((unhide HB) _ (unhide M0)).mono ?_
  rintro e w1 ⟨rfl, m1⟩
  have M1 := hide ((unhide M0).trans m1)
  clear m1
  go_wp2
  go_ret2
  exact ⟨by rw [unhide HV]; rfl, unhide M1⟩
attribute [local go_sem] field171
theorem Sees.on {w w' : World} {m : Nat} {r c st pa cl un : Int} (h : Sees w m r c st pa cl un) (hm : Mod No w w') : Sees w' m r c st pa cl un := fun W hW => h W (hm.trans hW)
def cancelV (c : Cmd) (ow : Int) : Value := if ow ≠ 0 then refuse ow else grant (emptyV c.ar c.ac)
theorem cancel_walk (b : Nat) (c : Cmd) (ow : Int) (w : World)
  (hO : ∀ W, Mod No w W → Calls Tryz.prog 121 #[.pointer (some ⟨b, 0, none⟩), .agg (cmdCells c)] W fun e w' => e = .returned (.int .i64 ow) ∧ Mod No W w') :
  Calls Tryz.prog 102 #[.pointer (some ⟨b, 0, none⟩), .agg (cmdCells c)] w fun e w' => e = .returned (cancelV c ow) ∧ Mod No w w' := by
 have HO := hide hO
 have M0 := hide ((Mod.refl No w).alloc (.cells (cmdCells c) 41))
 have B0 := hide (Has.new w (cmdCells c) 41)
 unfold cmdCells at HO M0 B0 ⊢
 clear hO
 by_cases h1 : ow = 0
 ·have d1 : (ow != 0) = false := by simp [h1]
  have HV := hide (show cancelV c ow = grant (emptyV c.ar c.ac) by unfold cancelV; rw [if_neg (by simpa using h1)])
  clear h1
  go_enter Tryz.func102, Tryz.ntmps102
  go_wp2_with fail
  refine ((unhide HO) _ (unhide M0)).mono ?_
  rintro e w1 ⟨rfl, m1⟩
  have cb := (m1.has (unhide B0) (fun x => x)).cell
  have M1 := hide ((unhide M0).trans m1)
  clear m1
  go_wp2
  go_ret2
  exact ⟨by rw [unhide HV]; rfl, unhide M1⟩
 ·have d1 : (ow != 0) = true := by simp [h1]
  have HV := hide (show cancelV c ow = refuse ow by unfold cancelV; rw [if_pos h1])
  clear h1
  go_enter Tryz.func102, Tryz.ntmps102
  go_wp2_with fail
  refine ((unhide HO) _ (unhide M0)).mono ?_
  rintro e w1 ⟨rfl, m1⟩
  have M1 := hide ((unhide M0).trans m1)
  clear m1
  go_wp2
  go_ret2
  exact ⟨by rw [unhide HV]; rfl, unhide M1⟩
def moveV (c : Cmd) (ow st : Int) : Value := if ow ≠ 0 then refuse ow else if st ≠ 0 then refuse 9 else grant (shiftV c.ar c.ac c.tr c.tc)
theorem move_walk (b m : Nat) (cs : Array Value) (c : Cmd) (ow st pa cl un : Int) (w : World) (h : Has w b cs 164) (h7 : cs[7]? = some (.map (some m))) (hs : ow = 0 → Sees w m c.tr c.tc st pa cl un)
  (hO : ∀ W, Mod No w W → Calls Tryz.prog 121 #[.pointer (some ⟨b, 0, none⟩), .agg (cmdCells c)] W fun e w' => e = .returned (.int .i64 ow) ∧ Mod No W w') :
  Calls Tryz.prog 103 #[.pointer (some ⟨b, 0, none⟩), .agg (cmdCells c)] w fun e w' => e = .returned (moveV c ow st) ∧ Mod No w w' := by
 have HO := hide hO
 have HH := hide h
 have HL := hide hs
 have M0 := hide ((Mod.refl No w).alloc (.cells (cmdCells c) 41))
 have B0 := hide (Has.new w (cmdCells c) 41)
 unfold cmdCells at HO M0 B0 ⊢
 clear hO h hs
 by_cases h1 : ow = 0
 ·have d1 : (ow != 0) = false := by simp [h1]
  have hs := unhide HL h1
  have HL := hide hs
  have HV := hide (show moveV c ow st = if st ≠ 0 then refuse 9 else grant (shiftV c.ar c.ac c.tr c.tc) by unfold moveV; rw [if_neg (by simpa using h1)])
  clear h1 hs
  go_enter Tryz.func103, Tryz.ntmps103
  go_wp2_with fail
  refine ((unhide HO) _ (unhide M0)).mono ?_
  rintro e w1 ⟨rfl, m1⟩
  have cb := (m1.has (unhide B0) (fun x => x)).cell
  have hx := ((unhide M0).trans m1).has (unhide HH) (fun x => x)
  have hlt := hx.lt
  have c7 := hx.cell 7
  rw [h7] at c7
  have hL := fun n => (unhide HL) (w1.drewN n) (((unhide M0).trans m1).drewN n)
  have M1 := hide ((unhide M0).trans m1)
  clear m1 hx
  by_cases h2 : st = 0
  ·have d2 : (st != 0) = false := by simp [h2]
   have HV2 := hide (show moveV c ow st = grant (shiftV c.ar c.ac c.tr c.tc) by rw [unhide HV, if_neg (by simpa using h2)])
   clear h2
   go_wp2_with fail
   go_quiet (fail)
   go_wp2
   go_ret2
   exact ⟨by rw [unhide HV2]; rfl, (unhide M1).drewN _⟩
  ·have d2 : (st != 0) = true := by simp [h2]
   have HV2 := hide (show moveV c ow st = refuse 9 by rw [unhide HV, if_pos h2])
   clear h2
   go_wp2_with fail
   go_quiet (fail)
   go_wp2
   go_ret2
   exact ⟨by rw [unhide HV2]; rfl, (unhide M1).drewN _⟩
 ·have d1 : (ow != 0) = true := by simp [h1]
  have HV := hide (show moveV c ow st = refuse ow by unfold moveV; rw [if_pos h1])
  clear h1
  go_enter Tryz.func103, Tryz.ntmps103
  go_wp2_with fail
  refine ((unhide HO) _ (unhide M0)).mono ?_
  rintro e w1 ⟨rfl, m1⟩
  have M1 := hide ((unhide M0).trans m1)
  clear m1
  go_wp2
  go_ret2
  exact ⟨by rw [unhide HV]; rfl, unhide M1⟩
def blockV (c : Cmd) (st : Int) : Value := if st ≠ 0 then refuse 9 else grant (fillV c.ar c.ac 3 0 0 0)
def unblockV (c : Cmd) (st : Int) : Value := if st ≠ 3 then refuse 10 else grant (emptyV c.ar c.ac)
theorem block_walk (b m : Nat) (cs : Array Value) (c : Cmd) (st pa cl un : Int) (w : World) (h : Has w b cs 164) (h7 : cs[7]? = some (.map (some m))) (hs : Sees w m c.ar c.ac st pa cl un) :
  Calls Tryz.prog 104 #[.pointer (some ⟨b, 0, none⟩), .agg (cmdCells c)] w fun e w' => e = .returned (blockV c st) ∧ Mod No w w' := by
 have hlt := h.lt
 have c7 := h.cell 7
 rw [h7] at c7
 have hL := fun n => hs ((w.alloc (.cells (cmdCells c) 41)).drewN n) (((Mod.refl No w).alloc _).drewN n)
 have M0 := hide ((Mod.refl No w).alloc (.cells (cmdCells c) 41))
 unfold cmdCells at hL M0 ⊢
 clear h hs h7
 by_cases h2 : st = 0
 ·have d2 : (st != 0) = false := by simp [h2]
  have HV2 := hide (show blockV c st = grant (fillV c.ar c.ac 3 0 0 0) by unfold blockV; rw [if_neg (by simpa using h2)])
  clear h2
  go_enter Tryz.func104, Tryz.ntmps104
  go_wp2_with fail
  go_quiet (fail)
  go_wp2
  go_ret2
  exact ⟨by rw [unhide HV2]; rfl, (unhide M0).drewN _⟩
 ·have d2 : (st != 0) = true := by simp [h2]
  have HV2 := hide (show blockV c st = refuse 9 by unfold blockV; rw [if_pos h2])
  clear h2
  go_enter Tryz.func104, Tryz.ntmps104
  go_wp2_with fail
  go_quiet (fail)
  go_wp2
  go_ret2
  exact ⟨by rw [unhide HV2]; rfl, (unhide M0).drewN _⟩
theorem unblock_walk (b m : Nat) (cs : Array Value) (c : Cmd) (st pa cl un : Int) (w : World) (h : Has w b cs 164) (h7 : cs[7]? = some (.map (some m))) (hs : Sees w m c.ar c.ac st pa cl un) :
  Calls Tryz.prog 105 #[.pointer (some ⟨b, 0, none⟩), .agg (cmdCells c)] w fun e w' => e = .returned (unblockV c st) ∧ Mod No w w' := by
 have hlt := h.lt
 have c7 := h.cell 7
 rw [h7] at c7
 have hL := fun n => hs ((w.alloc (.cells (cmdCells c) 41)).drewN n) (((Mod.refl No w).alloc _).drewN n)
 have M0 := hide ((Mod.refl No w).alloc (.cells (cmdCells c) 41))
 unfold cmdCells at hL M0 ⊢
 clear h hs h7
 by_cases h2 : st = 3
 ·have d2 : (st != 3) = false := by simp [h2]
  have HV2 := hide (show unblockV c st = grant (emptyV c.ar c.ac) by unfold unblockV; rw [if_neg (by simpa using h2)])
  clear h2
  go_enter Tryz.func105, Tryz.ntmps105
  go_wp2_with fail
  go_quiet (fail)
  go_wp2
  go_ret2
  exact ⟨by rw [unhide HV2]; rfl, (unhide M0).drewN _⟩
 ·have d2 : (st != 3) = true := by simp [h2]
  have HV2 := hide (show unblockV c st = refuse 10 by unfold unblockV; rw [if_pos h2])
  clear h2
  go_enter Tryz.func105, Tryz.ntmps105
  go_wp2_with fail
  go_quiet (fail)
  go_wp2
  go_ret2
  exact ⟨by rw [unhide HV2]; rfl, (unhide M0).drewN _⟩
set_option maxHeartbeats 2000000
def bookV (c : Cmd) (bu st pa cl sl : Int) : Value :=
 if bu ≠ 0 then refuse bu else if st = 1 ∧ pa = c.party ∧ cl = c.cls then grant (fillV c.ar c.ac 2 c.party c.cls 0) else if sl ≠ 0 then refuse sl else grant (fillV c.ar c.ac 2 c.party c.cls 0)
theorem book_walk (b m : Nat) (cs : Array Value) (c : Cmd) (bu sl st pa cl un : Int) (w : World) (h : Has w b cs 164) (h7 : cs[7]? = some (.map (some m))) (hs : Sees w m c.ar c.ac st pa cl un)
  (hB : ∀ W, Mod No w W → Calls Tryz.prog 119 #[.agg (cmdCells c)] W fun e w' => e = .returned (.int .i64 bu) ∧ Mod No W w')
  (hS : bu = 0 → ∀ W, Mod No w W → Calls Tryz.prog 120 #[.pointer (some ⟨b, 0, none⟩), .agg (cmdCells c)] W fun e w' => e = .returned (.int .i64 sl) ∧ Mod No W w') :
  Calls Tryz.prog 101 #[.pointer (some ⟨b, 0, none⟩), .agg (cmdCells c)] w fun e w' => e = .returned (bookV c bu st pa cl sl) ∧ Mod No w w' := by
 have HB := hide hB
 have HS := hide hS
 have HH := hide h
 have HL := hide hs
 have M0 := hide ((Mod.refl No w).alloc (.cells (cmdCells c) 41))
 have B0 := hide (Has.new w (cmdCells c) 41)
 unfold cmdCells at HB HS M0 B0 ⊢
 clear hB hS h hs
 by_cases h1 : bu = 0
 ·have d1 : (bu != 0) = false := by simp [h1]
  have HBU := hide h1
  have HV := hide (show bookV c bu st pa cl sl = if st = 1 ∧ pa = c.party ∧ cl = c.cls then grant (fillV c.ar c.ac 2 c.party c.cls 0) else if sl ≠ 0 then refuse sl else grant (fillV c.ar c.ac 2 c.party c.cls 0) by unfold bookV; rw [if_neg (by simpa using h1)])
  clear h1
  go_enter Tryz.func101, Tryz.ntmps101
  go_wp2_with fail
  refine ((unhide HB) _ (unhide M0)).mono ?_
  rintro e w1 ⟨rfl, m1⟩
  have hb1 := m1.has (unhide B0) (fun x => x)
  have cb := hb1.cell
  have lb := hb1.lt
  have hx := ((unhide M0).trans m1).has (unhide HH) (fun x => x)
  have hlt := hx.lt
  have c7 := hx.cell 7
  rw [h7] at c7
  have hL := (unhide HL) w1.drew ((unhide M0).trans m1).drew
  have hLx := fun X => (unhide HL) (w1.alloc X).drew (((unhide M0).trans m1).alloc X).drew
  have M1 := hide ((unhide M0).trans m1)
  have B1 := hide hb1
  clear m1 hx hb1
  go_wp2_with fail
  go_cut [7] (fun s7 wx => s7 = .pointer (some ⟨w1.heap.size, 0, none⟩) ∧ Hid (Mod No w wx) ∧ Hid (Has wx w.heap.size (cmdCells c) 41) ∧ Hid (Has wx w1.heap.size #[.int .i64 st, .int .i64 pa, .int .i64 cl, .int .i64 un] 199))
  case first =>
   go_region
   all_goals go_wp2
   all_goals go_meet
   all_goals exact ⟨rfl, ((unhide M1).alloc _).drew, ((unhide B1).alloc _).drew, (Has.new w1 _ _).drew⟩
  case rest =>
   obtain ⟨rfl, hm, hb1, hb2⟩ := hcut
   have cb := (unhide hb2).cell
   have lb := (unhide hb2).lt
   have cb1 := (unhide hb1).cell
   unfold cmdCells at cb1
   clear hL hLx c7
   by_cases a1 : st = 1
   ·have e1 : (st == 1) = true := by simp [a1]
    by_cases a2 : pa = c.party
    ·have e2 : (pa == c.party) = true := by simp [a2]
     by_cases a3 : cl = c.cls
     ·have e3 : (cl == c.cls) = true := by simp [a3]
      have HV2 := hide (show bookV c bu st pa cl sl = grant (fillV c.ar c.ac 2 c.party c.cls 0) by rw [unhide HV, if_pos ⟨a1, a2, a3⟩])
      clear a1 a2 a3
      go_wp2
      go_ret2
      exact ⟨by rw [unhide HV2]; rfl, unhide hm⟩
     ·have e3 : (cl == c.cls) = false := by simp [a3]
      have HV2 := hide (show bookV c bu st pa cl sl = if sl ≠ 0 then refuse sl else grant (fillV c.ar c.ac 2 c.party c.cls 0) by rw [unhide HV, if_neg (fun h => a3 h.2.2)])
      clear a1 a2 a3
      go_wp2_with fail
      refine ((unhide HS) (unhide HBU) _ (unhide hm)).mono ?_
      rintro e w2 ⟨rfl, m2⟩
      have cb2 := (m2.has (unhide hb1) (fun x => x)).cell
      have M2 := hide ((unhide hm).trans m2)
      clear m2 cb1 cb
      unfold cmdCells at cb2
      by_cases h4 : sl = 0
      ·have d4 : (sl != 0) = false := by simp [h4]
       have HV3 := hide (show bookV c bu st pa cl sl = grant (fillV c.ar c.ac 2 c.party c.cls 0) by rw [unhide HV2, if_neg (by simpa using h4)])
       clear h4
       go_wp2
       go_ret2
       exact ⟨by rw [unhide HV3]; rfl, unhide M2⟩
      ·have d4 : (sl != 0) = true := by simp [h4]
       have HV3 := hide (show bookV c bu st pa cl sl = refuse sl by rw [unhide HV2, if_pos h4])
       clear h4
       go_wp2
       go_ret2
       exact ⟨by rw [unhide HV3]; rfl, unhide M2⟩
    ·have e2 : (pa == c.party) = false := by simp [a2]
     have HV2 := hide (show bookV c bu st pa cl sl = if sl ≠ 0 then refuse sl else grant (fillV c.ar c.ac 2 c.party c.cls 0) by rw [unhide HV, if_neg (fun h => a2 h.2.1)])
     clear a1 a2
     go_wp2_with fail
     refine ((unhide HS) (unhide HBU) _ (unhide hm)).mono ?_
     rintro e w2 ⟨rfl, m2⟩
     have cb2 := (m2.has (unhide hb1) (fun x => x)).cell
     have M2 := hide ((unhide hm).trans m2)
     clear m2 cb1 cb
     unfold cmdCells at cb2
     by_cases h4 : sl = 0
     ·have d4 : (sl != 0) = false := by simp [h4]
      have HV3 := hide (show bookV c bu st pa cl sl = grant (fillV c.ar c.ac 2 c.party c.cls 0) by rw [unhide HV2, if_neg (by simpa using h4)])
      clear h4
      go_wp2
      go_ret2
      exact ⟨by rw [unhide HV3]; rfl, unhide M2⟩
     ·have d4 : (sl != 0) = true := by simp [h4]
      have HV3 := hide (show bookV c bu st pa cl sl = refuse sl by rw [unhide HV2, if_pos h4])
      clear h4
      go_wp2
      go_ret2
      exact ⟨by rw [unhide HV3]; rfl, unhide M2⟩
   ·have e1 : (st == 1) = false := by simp [a1]
    have HV2 := hide (show bookV c bu st pa cl sl = if sl ≠ 0 then refuse sl else grant (fillV c.ar c.ac 2 c.party c.cls 0) by rw [unhide HV, if_neg (fun h => a1 h.1)])
    clear a1
    go_wp2_with fail
    refine ((unhide HS) (unhide HBU) _ (unhide hm)).mono ?_
    rintro e w2 ⟨rfl, m2⟩
    have cb2 := (m2.has (unhide hb1) (fun x => x)).cell
    have M2 := hide ((unhide hm).trans m2)
    clear m2 cb1 cb
    unfold cmdCells at cb2
    by_cases h4 : sl = 0
    ·have d4 : (sl != 0) = false := by simp [h4]
     have HV3 := hide (show bookV c bu st pa cl sl = grant (fillV c.ar c.ac 2 c.party c.cls 0) by rw [unhide HV2, if_neg (by simpa using h4)])
     clear h4
     go_wp2
     go_ret2
     exact ⟨by rw [unhide HV3]; rfl, unhide M2⟩
    ·have d4 : (sl != 0) = true := by simp [h4]
     have HV3 := hide (show bookV c bu st pa cl sl = refuse sl by rw [unhide HV2, if_pos h4])
     clear h4
     go_wp2
     go_ret2
     exact ⟨by rw [unhide HV3]; rfl, unhide M2⟩
 ·have d1 : (bu != 0) = true := by simp [h1]
  have HV := hide (show bookV c bu st pa cl sl = refuse bu by unfold bookV; rw [if_pos h1])
  clear h1
  go_enter Tryz.func101, Tryz.ntmps101
  go_wp2_with fail
  refine ((unhide HB) _ (unhide M0)).mono ?_
  rintro e w1 ⟨rfl, m1⟩
  have M1 := hide ((unhide M0).trans m1)
  clear m1
  go_wp2
  go_ret2
  exact ⟨by rw [unhide HV]; rfl, unhide M1⟩
theorem look_hold (b : Nat) (c : Cmd) (now : Int) (x y : Value) (hk : c.kind = 2) (w : World)
  (hA : ∀ W, Mod No w W → Calls Tryz.prog 99 #[.pointer (some ⟨b, 0, none⟩), .agg #[.int .i64 c.ar, .int .i64 c.ac]] W fun e w' => e = .returned (.bool true) ∧ Mod No W w')
  (hC : ∀ W, Mod No w W → Calls Tryz.prog 100 #[.pointer (some ⟨b, 0, none⟩), .agg (cmdCells c), .int .i64 now] W fun e w' => e = .returned (.tuple #[x, y]) ∧ Mod No W w') :
  Calls Tryz.prog 77 #[.pointer (some ⟨b, 0, none⟩), .agg (cmdCells c), .int .i64 now] w fun e w' => e = .returned (.tuple #[x, y]) ∧ Mod No w w' := by
 have HA := hide hA
 have HC := hide hC
 have M0 := hide ((Mod.refl No w).alloc (.cells (cmdCells c) 41))
 have B0 := hide (Has.new w (cmdCells c) 41)
 unfold cmdCells at HC M0 B0 ⊢
 rw [hk] at HC M0 B0 ⊢
 clear hA hC hk
 go_enter Tryz.func77, Tryz.ntmps77
 go_wp2_with fail
 refine ((unhide HA) _ (unhide M0)).mono ?_
 rintro e w1 ⟨rfl, m1⟩
 have cb := (m1.has (unhide B0) (fun x => x)).cell
 have M1 := hide ((unhide M0).trans m1)
 have B1 := hide (m1.has (unhide B0) (fun x => x))
 clear m1
 go_wp2_with fail
 refine ((unhide HC) _ (unhide M1)).mono ?_
 rintro e w3 ⟨rfl, m3⟩
 have M3 := hide ((unhide M1).trans m3)
 clear m3
 go_wp2
 go_ret2
 exact ⟨rfl, unhide M3⟩
theorem look_book (b : Nat) (c : Cmd) (now : Int) (x y : Value) (hk : c.kind = 3) (w : World)
  (hA : ∀ W, Mod No w W → Calls Tryz.prog 99 #[.pointer (some ⟨b, 0, none⟩), .agg #[.int .i64 c.ar, .int .i64 c.ac]] W fun e w' => e = .returned (.bool true) ∧ Mod No W w')
  (hC : ∀ W, Mod No w W → Calls Tryz.prog 101 #[.pointer (some ⟨b, 0, none⟩), .agg (cmdCells c)] W fun e w' => e = .returned (.tuple #[x, y]) ∧ Mod No W w') :
  Calls Tryz.prog 77 #[.pointer (some ⟨b, 0, none⟩), .agg (cmdCells c), .int .i64 now] w fun e w' => e = .returned (.tuple #[x, y]) ∧ Mod No w w' := by
 have HA := hide hA
 have HC := hide hC
 have M0 := hide ((Mod.refl No w).alloc (.cells (cmdCells c) 41))
 have B0 := hide (Has.new w (cmdCells c) 41)
 unfold cmdCells at HC M0 B0 ⊢
 rw [hk] at HC M0 B0 ⊢
 clear hA hC hk
 go_enter Tryz.func77, Tryz.ntmps77
 go_wp2_with fail
 refine ((unhide HA) _ (unhide M0)).mono ?_
 rintro e w1 ⟨rfl, m1⟩
 have cb := (m1.has (unhide B0) (fun x => x)).cell
 have M1 := hide ((unhide M0).trans m1)
 have B1 := hide (m1.has (unhide B0) (fun x => x))
 clear m1
 go_wp2_with fail
 refine ((unhide HC) _ (unhide M1)).mono ?_
 rintro e w3 ⟨rfl, m3⟩
 have M3 := hide ((unhide M1).trans m3)
 clear m3
 go_wp2
 go_ret2
 exact ⟨rfl, unhide M3⟩
theorem look_cancel (b : Nat) (c : Cmd) (now : Int) (x y : Value) (hk : c.kind = 4) (w : World)
  (hA : ∀ W, Mod No w W → Calls Tryz.prog 99 #[.pointer (some ⟨b, 0, none⟩), .agg #[.int .i64 c.ar, .int .i64 c.ac]] W fun e w' => e = .returned (.bool true) ∧ Mod No W w')
  (hC : ∀ W, Mod No w W → Calls Tryz.prog 102 #[.pointer (some ⟨b, 0, none⟩), .agg (cmdCells c)] W fun e w' => e = .returned (.tuple #[x, y]) ∧ Mod No W w') :
  Calls Tryz.prog 77 #[.pointer (some ⟨b, 0, none⟩), .agg (cmdCells c), .int .i64 now] w fun e w' => e = .returned (.tuple #[x, y]) ∧ Mod No w w' := by
 have HA := hide hA
 have HC := hide hC
 have M0 := hide ((Mod.refl No w).alloc (.cells (cmdCells c) 41))
 have B0 := hide (Has.new w (cmdCells c) 41)
 unfold cmdCells at HC M0 B0 ⊢
 rw [hk] at HC M0 B0 ⊢
 clear hA hC hk
 go_enter Tryz.func77, Tryz.ntmps77
 go_wp2_with fail
 refine ((unhide HA) _ (unhide M0)).mono ?_
 rintro e w1 ⟨rfl, m1⟩
 have cb := (m1.has (unhide B0) (fun x => x)).cell
 have M1 := hide ((unhide M0).trans m1)
 have B1 := hide (m1.has (unhide B0) (fun x => x))
 clear m1
 go_wp2_with fail
 refine ((unhide HC) _ (unhide M1)).mono ?_
 rintro e w3 ⟨rfl, m3⟩
 have M3 := hide ((unhide M1).trans m3)
 clear m3
 go_wp2
 go_ret2
 exact ⟨rfl, unhide M3⟩
theorem look_move (b : Nat) (c : Cmd) (now : Int) (x y : Value) (hk : c.kind = 5) (w : World)
  (hA : ∀ W, Mod No w W → Calls Tryz.prog 99 #[.pointer (some ⟨b, 0, none⟩), .agg #[.int .i64 c.ar, .int .i64 c.ac]] W fun e w' => e = .returned (.bool true) ∧ Mod No W w')
  (hB : ∀ W, Mod No w W → Calls Tryz.prog 99 #[.pointer (some ⟨b, 0, none⟩), .agg #[.int .i64 c.tr, .int .i64 c.tc]] W fun e w' => e = .returned (.bool true) ∧ Mod No W w')
  (hC : ∀ W, Mod No w W → Calls Tryz.prog 103 #[.pointer (some ⟨b, 0, none⟩), .agg (cmdCells c)] W fun e w' => e = .returned (.tuple #[x, y]) ∧ Mod No W w') :
  Calls Tryz.prog 77 #[.pointer (some ⟨b, 0, none⟩), .agg (cmdCells c), .int .i64 now] w fun e w' => e = .returned (.tuple #[x, y]) ∧ Mod No w w' := by
 have HA := hide hA
 have HC := hide hC
 have HB := hide hB
 have M0 := hide ((Mod.refl No w).alloc (.cells (cmdCells c) 41))
 have B0 := hide (Has.new w (cmdCells c) 41)
 unfold cmdCells at HC M0 B0 ⊢
 rw [hk] at HC M0 B0 ⊢
 clear hA hC hB hk
 go_enter Tryz.func77, Tryz.ntmps77
 go_wp2_with fail
 refine ((unhide HA) _ (unhide M0)).mono ?_
 rintro e w1 ⟨rfl, m1⟩
 have cb := (m1.has (unhide B0) (fun x => x)).cell
 have M1 := hide ((unhide M0).trans m1)
 have B1 := hide (m1.has (unhide B0) (fun x => x))
 clear m1
 go_wp2_with fail
 refine ((unhide HB) _ (unhide M1)).mono ?_
 rintro e w2 ⟨rfl, m2⟩
 have cb2 := (m2.has (unhide B1) (fun x => x)).cell
 have M2 := hide ((unhide M1).trans m2)
 clear m2 cb
 go_wp2_with fail
 refine ((unhide HC) _ (unhide M2)).mono ?_
 rintro e w3 ⟨rfl, m3⟩
 have M3 := hide ((unhide M2).trans m3)
 clear m3
 go_wp2
 go_ret2
 exact ⟨rfl, unhide M3⟩
theorem look_block (b : Nat) (c : Cmd) (now : Int) (x y : Value) (hk : c.kind = 6) (w : World)
  (hA : ∀ W, Mod No w W → Calls Tryz.prog 99 #[.pointer (some ⟨b, 0, none⟩), .agg #[.int .i64 c.ar, .int .i64 c.ac]] W fun e w' => e = .returned (.bool true) ∧ Mod No W w')
  (hC : ∀ W, Mod No w W → Calls Tryz.prog 104 #[.pointer (some ⟨b, 0, none⟩), .agg (cmdCells c)] W fun e w' => e = .returned (.tuple #[x, y]) ∧ Mod No W w') :
  Calls Tryz.prog 77 #[.pointer (some ⟨b, 0, none⟩), .agg (cmdCells c), .int .i64 now] w fun e w' => e = .returned (.tuple #[x, y]) ∧ Mod No w w' := by
 have HA := hide hA
 have HC := hide hC
 have M0 := hide ((Mod.refl No w).alloc (.cells (cmdCells c) 41))
 have B0 := hide (Has.new w (cmdCells c) 41)
 unfold cmdCells at HC M0 B0 ⊢
 rw [hk] at HC M0 B0 ⊢
 clear hA hC hk
 go_enter Tryz.func77, Tryz.ntmps77
 go_wp2_with fail
 refine ((unhide HA) _ (unhide M0)).mono ?_
 rintro e w1 ⟨rfl, m1⟩
 have cb := (m1.has (unhide B0) (fun x => x)).cell
 have M1 := hide ((unhide M0).trans m1)
 have B1 := hide (m1.has (unhide B0) (fun x => x))
 clear m1
 go_wp2_with fail
 refine ((unhide HC) _ (unhide M1)).mono ?_
 rintro e w3 ⟨rfl, m3⟩
 have M3 := hide ((unhide M1).trans m3)
 clear m3
 go_wp2
 go_ret2
 exact ⟨rfl, unhide M3⟩
theorem look_unblock (b : Nat) (c : Cmd) (now : Int) (x y : Value) (hk : c.kind = 7) (w : World)
  (hA : ∀ W, Mod No w W → Calls Tryz.prog 99 #[.pointer (some ⟨b, 0, none⟩), .agg #[.int .i64 c.ar, .int .i64 c.ac]] W fun e w' => e = .returned (.bool true) ∧ Mod No W w')
  (hC : ∀ W, Mod No w W → Calls Tryz.prog 105 #[.pointer (some ⟨b, 0, none⟩), .agg (cmdCells c)] W fun e w' => e = .returned (.tuple #[x, y]) ∧ Mod No W w') :
  Calls Tryz.prog 77 #[.pointer (some ⟨b, 0, none⟩), .agg (cmdCells c), .int .i64 now] w fun e w' => e = .returned (.tuple #[x, y]) ∧ Mod No w w' := by
 have HA := hide hA
 have HC := hide hC
 have M0 := hide ((Mod.refl No w).alloc (.cells (cmdCells c) 41))
 have B0 := hide (Has.new w (cmdCells c) 41)
 unfold cmdCells at HC M0 B0 ⊢
 rw [hk] at HC M0 B0 ⊢
 clear hA hC hk
 go_enter Tryz.func77, Tryz.ntmps77
 go_wp2_with fail
 refine ((unhide HA) _ (unhide M0)).mono ?_
 rintro e w1 ⟨rfl, m1⟩
 have cb := (m1.has (unhide B0) (fun x => x)).cell
 have M1 := hide ((unhide M0).trans m1)
 have B1 := hide (m1.has (unhide B0) (fun x => x))
 clear m1
 go_wp2_with fail
 refine ((unhide HC) _ (unhide M1)).mono ?_
 rintro e w3 ⟨rfl, m3⟩
 have M3 := hide ((unhide M1).trans m3)
 clear m3
 go_wp2
 go_ret2
 exact ⟨rfl, unhide M3⟩
theorem look_noAt (b : Nat) (c : Cmd) (now : Int) (w : World)
  (hA : ∀ W, Mod No w W → Calls Tryz.prog 99 #[.pointer (some ⟨b, 0, none⟩), .agg #[.int .i64 c.ar, .int .i64 c.ac]] W fun e w' => e = .returned (.bool false) ∧ Mod No W w') :
  (hk : c.kind ≠ 9) → Calls Tryz.prog 77 #[.pointer (some ⟨b, 0, none⟩), .agg (cmdCells c), .int .i64 now] w fun e w' => e = .returned (refuse 5) ∧ Mod No w w' := by
 intro hk
 have HA := hide hA
 have hd : (c.kind == 9) = false := by simp [hk]
 have M0 := hide ((Mod.refl No w).alloc (.cells (cmdCells c) 41))
 unfold cmdCells at M0 ⊢
 clear hA hk
 go_enter Tryz.func77, Tryz.ntmps77
 go_wp2_with fail
 refine ((unhide HA) _ (unhide M0)).mono ?_
 rintro e w1 ⟨rfl, m1⟩
 have M1 := hide ((unhide M0).trans m1)
 clear m1
 go_wp2
 go_ret2
 exact ⟨rfl, unhide M1⟩
theorem look_noTo (b : Nat) (c : Cmd) (now : Int) (hk : c.kind = 5) (w : World)
  (hA : ∀ W, Mod No w W → Calls Tryz.prog 99 #[.pointer (some ⟨b, 0, none⟩), .agg #[.int .i64 c.ar, .int .i64 c.ac]] W fun e w' => e = .returned (.bool true) ∧ Mod No W w')
  (hB : ∀ W, Mod No w W → Calls Tryz.prog 99 #[.pointer (some ⟨b, 0, none⟩), .agg #[.int .i64 c.tr, .int .i64 c.tc]] W fun e w' => e = .returned (.bool false) ∧ Mod No W w') :
  Calls Tryz.prog 77 #[.pointer (some ⟨b, 0, none⟩), .agg (cmdCells c), .int .i64 now] w fun e w' => e = .returned (refuse 5) ∧ Mod No w w' := by
 have HA := hide hA
 have HB := hide hB
 have M0 := hide ((Mod.refl No w).alloc (.cells (cmdCells c) 41))
 have B0 := hide (Has.new w (cmdCells c) 41)
 unfold cmdCells at M0 B0 ⊢
 rw [hk] at M0 B0 ⊢
 clear hA hB hk
 go_enter Tryz.func77, Tryz.ntmps77
 go_wp2_with fail
 refine ((unhide HA) _ (unhide M0)).mono ?_
 rintro e w1 ⟨rfl, m1⟩
 have cb := (m1.has (unhide B0) (fun x => x)).cell
 have M1 := hide ((unhide M0).trans m1)
 clear m1
 go_wp2_with fail
 refine ((unhide HB) _ (unhide M1)).mono ?_
 rintro e w2 ⟨rfl, m2⟩
 have M2 := hide ((unhide M1).trans m2)
 clear m2 cb
 go_wp2
 go_ret2
 exact ⟨rfl, unhide M2⟩
end Go.Proofs.YthhibagcpjeihaaGreat
