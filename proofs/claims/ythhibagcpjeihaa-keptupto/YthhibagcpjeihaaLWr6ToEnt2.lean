import Derived.Test.YthhibagcpjeihaaLWr3ToWr5
import Derived.Test.YthhibagcpjeihaaLLook3ToSwap0
import Derived.Test.YthhibagcpjeihaaLChangeToSwap1
namespace Go.Proofs.Ythhibagcpjeihaa
open Go.RowKit
open M
set_option linter.unusedVariables false
set_option linter.unusedSimpArgs false
set_option maxRecDepth 100000
set_option maxHeartbeats 4000000
theorem mod_c0 {w w' : World} (h : Mod No w w') {a : Addr} {v : Value} (hc : w.cell? a = some v) : w'.cell? a = some v := by
 have hl := World.block_lt_of_cell? w a hc
 unfold World.cell? at hc ⊢
 rw [h.block _ hl (fun x => x)]
 exact hc
def timeAt (now : Int) (es : List Ent) (i : Nat) : Int := (es.take i).foldl entNow now
theorem timeAt_succ (now : Int) (es : List Ent) (i : Nat) (hi : i < es.length) : timeAt now es (i + 1) = entNow (timeAt now es i) es[i] := by
 unfold timeAt
 rw [List.take_succ_eq_append_getElem hi, List.foldl_append]
 rfl
def entsTo (now : Int) (es : List Ent) (i : Nat) : List Int := entsB now (es.take i)
theorem entsB_append (now : Int) (es fs : List Ent) : entsB now (es ++ fs) = entsB now es ++ entsB (es.foldl entNow now) fs := by
 induction es generalizing now with
 | nil => rfl
 | cons e es ih => simp only [List.cons_append, entsB, ih, List.append_assoc, List.foldl_cons]
theorem entsTo_succ (now : Int) (es : List Ent) (i : Nat) (hi : i < es.length) : entsTo now es (i + 1) = entsTo now es i ++ entB (timeAt now es i) es[i] := by
 unfold entsTo timeAt
 rw [List.take_succ_eq_append_getElem hi, entsB_append]
 simp [entsB]
theorem Wrote.start {w w' : World} {now : Int} : WrX (fun k => w.heap.size ≤ k) (w.alloc (.cells #[.slice none 0 0, .int .i64 now] 167)) w.heap.size (.slice none 0 0) [] now :=
 ⟨Has.new w _ _, World.ownsRow_nil _ _ _ _, fun k hk => by simp [Value.ownBlock] at hk, Nat.le_refl _, by simp⟩
structure Recorded (w w' : World) (v : Value) (l : List Int) : Prop where
 row : w'.ownsRow 0 5 1 v l.length (u8s l)
 new : ∀ k, v.ownBlock = some k → w.heap.size ≤ k
 mod : Mod No w w'
theorem record_any (now : Int) (b o n cap : Nat) (w : World) (es : List Ent) (hn : es.length = n) (hn2 : 1 ≤ n ∧ n ≤ 21) (fv : Nat → Int) (tv : Nat → TypeId) (vv : Nat → Value)
  (hc : ∀ i, i < n → w.cell? ⟨b, o + i * 2, none⟩ = some (.int .i64 (fv i)) ∧ w.cell? ⟨b, o + i * 2 + 1, none⟩ = some (.iface (tv i) (vv i))) (hb : b < w.heap.size)
  (hlen : ∀ i, i ≤ n → (entsTo now es i).length ≤ 500000)
  (HE : ∀ i (hi : i < es.length) W, Mod No w W → ∀ wb xs, xs.length ≤ 600000 → (∃ v, WrX (fun k => w.heap.size ≤ k) W wb v xs (timeAt now es i)) →
   Calls Try.prog 88 #[.pointer (some ⟨wb, 0, none⟩), .agg #[.int .i64 (fv i), .iface (tv i) (vv i)]] W fun e W' => e = .returned (.tuple #[]) ∧ Wrote (fun k => w.heap.size ≤ k) W W' wb (xs ++ entB (timeAt now es i) es[i]) (entNow (timeAt now es i) es[i])) :
  Calls Try.prog 64 #[.int .i64 now, .slice (some ⟨b, o, none⟩) n cap] w fun e w' => ∃ v, e = .returned v ∧ Recorded w w' v (recB now es) := by
 have HN := hide (wnum_w (O := fun k => w.heap.size ≤ k) ⟨_, Wrote.start (w := w) (w' := w) (now := now)⟩ (fun k hk => Nat.le_trans ((Mod.refl No w).alloc _).size hk) (by simp) (n : Int) (by omega))
 have M0 := hide ((Mod.refl No w).alloc (.cells #[.slice none 0 0, .int .i64 now] 167))
 have HC := hide hc
 have HL := hide hlen
 have HE := hide HE
 have HB := hide hb
 have HEN := hide hn
 have HTS := hide (timeAt_succ now es)
 have HES := hide (entsTo_succ now es)
 obtain ⟨i5, q0, q1, q2, q3⟩ := info_parts info5
 clear hc hlen hn
 go_enter Try.func64, Try.ntmps64
 go_wp2_with fail
 refine (unhide HN).mono ?_
 rintro e w1 ⟨rfl, h1⟩
 have H1 := hide h1
 have hz := h1.mod.size
 clear h1 HN
 go_wp2_with fail
 go_loopw [15] (fun s wr => ∃ i : Nat, s = .int .i64 i ∧ i ≤ n ∧ Hid (Mod No w wr) ∧ Hid (∃ v, WrX (fun k => w.heap.size ≤ k) wr w.heap.size v (numB (n : Int) ++ entsTo now es i) (timeAt now es i))) (fun s _ => n - (intOf s).toNat)
 case atStart =>
  refine ⟨0, rfl, by omega, ?_, ?_⟩
  ·exact (unhide M0).trans' (unhide H1).mod (fun k (q : w.heap.size ≤ k) hk => by omega)
  ·have := (unhide H1).ex
   rw [List.nil_append] at this
   show Hid (∃ v, WrX (fun k => w.heap.size ≤ k) w1 w.heap.size v (numB (n : Int) ++ []) now)
   rw [List.append_nil]
   exact this
 case round =>
  obtain ⟨i, rfl, hi, M1, W1⟩ := hrel
  clear H1 hz M0
  by_cases hin : i < n
  ·have hini : (i : Int) < (n : Int) := by omega
   have hi0 : (0 : Int) ≤ i := by omega
   have hi1 : IntKind.i64.wrap ((i : Int) + 1) = ((i + 1 : Nat) : Int) := by rw [wrap_id _ (by omega) (by omega)]; rfl
   have c0 := mod_c0 (unhide M1) ((unhide HC) i hin).1
   have c1 := mod_c0 (unhide M1) ((unhide HC) i hin).2
   have bl := Nat.lt_of_lt_of_le (unhide HB) (unhide M1).size
   have mA : Mod No wr (wr.alloc (.cells #[.int .i64 (fv i), .iface (tv i) (vv i)] 124)) := (Mod.refl _ _).alloc _
   have HEI := hide ((unhide HE) i (by have := unhide HEN; omega) _ ((unhide M1).trans mA) w.heap.size (numB (n : Int) ++ entsTo now es i) (by
    have h1 := (unhide HL) i hi
    have h2 := (numB_len (n : Int)).2
    simp only [List.length_append]
    omega) (by
    obtain ⟨v, hv⟩ := unhide W1
    exact ⟨v, hv.mod mA (fun _ _ x => x)⟩))
   have MA := hide mA
   clear mA
   generalize tv i = ti at *
   generalize vv i = vi at *
   generalize fv i = fi at *
   go_wp2_with fail
   refine (unhide HEI).mono ?_
   rintro e w3 ⟨rfl, q3⟩
   have hil : i < es.length := by have := unhide HEN; omega
   have W3 := hide q3.ex
   have M3 := hide (((unhide M1).trans (unhide MA)).trans' q3.mod (fun k (q : w.heap.size ≤ k) hk => by omega))
   have E1 := hide ((unhide HTS) i hil)
   have E2 := hide ((unhide HES) i hil)
   clear q3 HEI
   go_wp2
   refine ⟨⟨i + 1, rfl, by omega, M3, ?_⟩, by simp [intOf]; omega⟩
   rw [unhide E1, unhide E2, ← List.append_assoc]
   exact W3
  ·have hini : ¬ (i : Int) < (n : Int) := by omega
   obtain rfl : i = n := by omega
   obtain ⟨v, hv⟩ := unhide W1
   obtain ⟨a, c, rfl⟩ := slice_of_owns hv.row
   have hc : wr.cell? ⟨w.heap.size, 0, none⟩ = some (.slice a (numB (i : Int) ++ entsTo now es i).length c) := hv.has.cell 0
   have hlt := hv.has.lt
   have mA : Mod No wr (wr.alloc (.cells #[.int .u8 229] 5)) := (Mod.refl _ _).alloc _
   have HOWN := hide (mA.owns hv.row (fun _ _ x => x))
   have HR := hide (byte_reads wr 229 5)
   have HV := hide hv
   have hlen := (unhide HL) i hi
   have hlen2 := (numB_len (i : Int)).2
   have HXL := hide (show (numB (i : Int) ++ entsTo now es i).length = (numB (i : Int)).length + (entsTo now es i).length by simp)
   have HREC := hide (show recB now es = numB (i : Int) ++ entsTo now es i ++ [229] from by
    unfold recB entsTo
    rw [unhide HEN, List.take_of_length_le (by have := unhide HEN; omega)])
   have MA := hide ((unhide M1).trans mA)
   clear hv mA hlen W1
   generalize hX : numB (i : Int) ++ entsTo now es i = X at *
   clear hX
   have hxl : X.length ≤ 600000 := by have := unhide HXL; have := (unhide HL) i hi; omega
   go_wp2_with (at_builtin; refine wpList_append_row rfl (.tmp 23) (.tmp 24) 96 rfl 5 i5 _ 1 1 Try.underlying96 q0 q1 q2 q3 rfl (by decide) (.slice a X.length c) X.length (u8s X) (by simp [Act.eval]) (by exact unhide HOWN) (.slice (some ⟨wr.heap.size, 0, none⟩) 1 1) 1 [.int .u8 229] (by simp [Act.eval]) (by exact unhide HR) rfl (by intro u hu; simp at hu; subst hu; rfl) (by unfold maxLen; omega) (by omega) ?_; intro v1 w1 ho hg hs; obtain ⟨a1, c1, rfl⟩ := slice_of_owns ho)
   go_ret
   have hv := unhide HV
   refine ⟨_, rfl, ?_⟩
   show Recorded w w1 (.slice a1 (X.length + 1) c1) (recB now es)
   rw [unhide HREC]
   refine ⟨?_, fun k hk => ?_, (unhide MA).grown hg (fun k hk => .inr (hv.own k hk).1)⟩
   ·unfold u8s at ho ⊢
    rw [List.length_append, List.map_append]
    exact ho
   ·rcases hs k hk with e | e
    ·exact (hv.own k e).1
    ·rw [World.size_alloc] at e
     have := (unhide M1).size
     omega
open Go.ChangeMaps (setBlock)
set_option maxHeartbeats 2000000
theorem look_hold (b : Nat) (c : Cmd) (now : Int) (x y : Value) (hk : c.kind = 2) (w : World)
  (hA : ∀ W, Mod No w W → Calls Try.prog 77 #[.pointer (some ⟨b, 0, none⟩), .agg #[.int .i64 c.ar, .int .i64 c.ac]] W fun e w' => e = .returned (.bool true) ∧ Mod No W w')
  (hC : ∀ W, Mod No w W → Calls Try.prog 78 #[.pointer (some ⟨b, 0, none⟩), .agg (cmdCells c), .int .i64 now] W fun e w' => e = .returned (.tuple #[x, y]) ∧ Mod No W w') :
  Calls Try.prog 60 #[.pointer (some ⟨b, 0, none⟩), .agg (cmdCells c), .int .i64 now] w fun e w' => e = .returned (.tuple #[x, y]) ∧ Mod No w w' := by
 have HA := hide hA
 have HC := hide hC
 have M0 := hide ((Mod.refl No w).alloc (.cells (cmdCells c) 37))
 have B0 := hide (Has.new w (cmdCells c) 37)
 unfold cmdCells at HC M0 B0 ⊢
 rw [hk] at HC M0 B0 ⊢
 clear hA hC hk
 go_enter Try.func60, Try.ntmps60
 go_wp2_with fail
 refine ((unhide HA) _ (unhide M0)).mono ?_
 rintro e w1 ⟨rfl, m1⟩
 have cb := (m1.has (unhide B0) (fun x => x)).cell
 have M1 := hide ((unhide M0).trans m1)
 have B1 := hide (m1.has (unhide B0) (fun x => x))
 clear m1
 go_wp2_with fail
 refine ((unhide HC) _ (unhide M1)).mono ?_
 rintro e w3 ⟨rfl, m3⟩
 have M3 := hide ((unhide M1).trans m3)
 clear m3
 go_wp2
 go_ret2
 exact ⟨rfl, unhide M3⟩
theorem look_book (b : Nat) (c : Cmd) (now : Int) (x y : Value) (hk : c.kind = 3) (w : World)
  (hA : ∀ W, Mod No w W → Calls Try.prog 77 #[.pointer (some ⟨b, 0, none⟩), .agg #[.int .i64 c.ar, .int .i64 c.ac]] W fun e w' => e = .returned (.bool true) ∧ Mod No W w')
  (hC : ∀ W, Mod No w W → Calls Try.prog 79 #[.pointer (some ⟨b, 0, none⟩), .agg (cmdCells c)] W fun e w' => e = .returned (.tuple #[x, y]) ∧ Mod No W w') :
  Calls Try.prog 60 #[.pointer (some ⟨b, 0, none⟩), .agg (cmdCells c), .int .i64 now] w fun e w' => e = .returned (.tuple #[x, y]) ∧ Mod No w w' := by
 have HA := hide hA
 have HC := hide hC
 have M0 := hide ((Mod.refl No w).alloc (.cells (cmdCells c) 37))
 have B0 := hide (Has.new w (cmdCells c) 37)
 unfold cmdCells at HC M0 B0 ⊢
 rw [hk] at HC M0 B0 ⊢
 clear hA hC hk
 go_enter Try.func60, Try.ntmps60
 go_wp2_with fail
 refine ((unhide HA) _ (unhide M0)).mono ?_
 rintro e w1 ⟨rfl, m1⟩
 have cb := (m1.has (unhide B0) (fun x => x)).cell
 have M1 := hide ((unhide M0).trans m1)
 have B1 := hide (m1.has (unhide B0) (fun x => x))
 clear m1
 go_wp2_with fail
 refine ((unhide HC) _ (unhide M1)).mono ?_
 rintro e w3 ⟨rfl, m3⟩
 have M3 := hide ((unhide M1).trans m3)
 clear m3
 go_wp2
 go_ret2
 exact ⟨rfl, unhide M3⟩
theorem look_cancel (b : Nat) (c : Cmd) (now : Int) (x y : Value) (hk : c.kind = 4) (w : World)
  (hA : ∀ W, Mod No w W → Calls Try.prog 77 #[.pointer (some ⟨b, 0, none⟩), .agg #[.int .i64 c.ar, .int .i64 c.ac]] W fun e w' => e = .returned (.bool true) ∧ Mod No W w')
  (hC : ∀ W, Mod No w W → Calls Try.prog 80 #[.pointer (some ⟨b, 0, none⟩), .agg (cmdCells c)] W fun e w' => e = .returned (.tuple #[x, y]) ∧ Mod No W w') :
  Calls Try.prog 60 #[.pointer (some ⟨b, 0, none⟩), .agg (cmdCells c), .int .i64 now] w fun e w' => e = .returned (.tuple #[x, y]) ∧ Mod No w w' := by
 have HA := hide hA
 have HC := hide hC
 have M0 := hide ((Mod.refl No w).alloc (.cells (cmdCells c) 37))
 have B0 := hide (Has.new w (cmdCells c) 37)
 unfold cmdCells at HC M0 B0 ⊢
 rw [hk] at HC M0 B0 ⊢
 clear hA hC hk
 go_enter Try.func60, Try.ntmps60
 go_wp2_with fail
 refine ((unhide HA) _ (unhide M0)).mono ?_
 rintro e w1 ⟨rfl, m1⟩
 have cb := (m1.has (unhide B0) (fun x => x)).cell
 have M1 := hide ((unhide M0).trans m1)
 have B1 := hide (m1.has (unhide B0) (fun x => x))
 clear m1
 go_wp2_with fail
 refine ((unhide HC) _ (unhide M1)).mono ?_
 rintro e w3 ⟨rfl, m3⟩
 have M3 := hide ((unhide M1).trans m3)
 clear m3
 go_wp2
 go_ret2
 exact ⟨rfl, unhide M3⟩
theorem look_move (b : Nat) (c : Cmd) (now : Int) (x y : Value) (hk : c.kind = 5) (w : World)
  (hA : ∀ W, Mod No w W → Calls Try.prog 77 #[.pointer (some ⟨b, 0, none⟩), .agg #[.int .i64 c.ar, .int .i64 c.ac]] W fun e w' => e = .returned (.bool true) ∧ Mod No W w')
  (hB : ∀ W, Mod No w W → Calls Try.prog 77 #[.pointer (some ⟨b, 0, none⟩), .agg #[.int .i64 c.tr, .int .i64 c.tc]] W fun e w' => e = .returned (.bool true) ∧ Mod No W w')
  (hC : ∀ W, Mod No w W → Calls Try.prog 81 #[.pointer (some ⟨b, 0, none⟩), .agg (cmdCells c)] W fun e w' => e = .returned (.tuple #[x, y]) ∧ Mod No W w') :
  Calls Try.prog 60 #[.pointer (some ⟨b, 0, none⟩), .agg (cmdCells c), .int .i64 now] w fun e w' => e = .returned (.tuple #[x, y]) ∧ Mod No w w' := by
 have HA := hide hA
 have HC := hide hC
 have HB := hide hB
 have M0 := hide ((Mod.refl No w).alloc (.cells (cmdCells c) 37))
 have B0 := hide (Has.new w (cmdCells c) 37)
 unfold cmdCells at HC M0 B0 ⊢
 rw [hk] at HC M0 B0 ⊢
 clear hA hC hB hk
 go_enter Try.func60, Try.ntmps60
 go_wp2_with fail
 refine ((unhide HA) _ (unhide M0)).mono ?_
 rintro e w1 ⟨rfl, m1⟩
 have cb := (m1.has (unhide B0) (fun x => x)).cell
 have M1 := hide ((unhide M0).trans m1)
 have B1 := hide (m1.has (unhide B0) (fun x => x))
 clear m1
 go_wp2_with fail
 refine ((unhide HB) _ (unhide M1)).mono ?_
 rintro e w2 ⟨rfl, m2⟩
 have cb2 := (m2.has (unhide B1) (fun x => x)).cell
 have M2 := hide ((unhide M1).trans m2)
 clear m2 cb
 go_wp2_with fail
 refine ((unhide HC) _ (unhide M2)).mono ?_
 rintro e w3 ⟨rfl, m3⟩
 have M3 := hide ((unhide M2).trans m3)
 clear m3
 go_wp2
 go_ret2
 exact ⟨rfl, unhide M3⟩
theorem look_block (b : Nat) (c : Cmd) (now : Int) (x y : Value) (hk : c.kind = 6) (w : World)
  (hA : ∀ W, Mod No w W → Calls Try.prog 77 #[.pointer (some ⟨b, 0, none⟩), .agg #[.int .i64 c.ar, .int .i64 c.ac]] W fun e w' => e = .returned (.bool true) ∧ Mod No W w')
  (hC : ∀ W, Mod No w W → Calls Try.prog 82 #[.pointer (some ⟨b, 0, none⟩), .agg (cmdCells c)] W fun e w' => e = .returned (.tuple #[x, y]) ∧ Mod No W w') :
  Calls Try.prog 60 #[.pointer (some ⟨b, 0, none⟩), .agg (cmdCells c), .int .i64 now] w fun e w' => e = .returned (.tuple #[x, y]) ∧ Mod No w w' := by
 have HA := hide hA
 have HC := hide hC
 have M0 := hide ((Mod.refl No w).alloc (.cells (cmdCells c) 37))
 have B0 := hide (Has.new w (cmdCells c) 37)
 unfold cmdCells at HC M0 B0 ⊢
 rw [hk] at HC M0 B0 ⊢
 clear hA hC hk
 go_enter Try.func60, Try.ntmps60
 go_wp2_with fail
 refine ((unhide HA) _ (unhide M0)).mono ?_
 rintro e w1 ⟨rfl, m1⟩
 have cb := (m1.has (unhide B0) (fun x => x)).cell
 have M1 := hide ((unhide M0).trans m1)
 have B1 := hide (m1.has (unhide B0) (fun x => x))
 clear m1
 go_wp2_with fail
 refine ((unhide HC) _ (unhide M1)).mono ?_
 rintro e w3 ⟨rfl, m3⟩
 have M3 := hide ((unhide M1).trans m3)
 clear m3
 go_wp2
 go_ret2
 exact ⟨rfl, unhide M3⟩
theorem look_unblock (b : Nat) (c : Cmd) (now : Int) (x y : Value) (hk : c.kind = 7) (w : World)
  (hA : ∀ W, Mod No w W → Calls Try.prog 77 #[.pointer (some ⟨b, 0, none⟩), .agg #[.int .i64 c.ar, .int .i64 c.ac]] W fun e w' => e = .returned (.bool true) ∧ Mod No W w')
  (hC : ∀ W, Mod No w W → Calls Try.prog 83 #[.pointer (some ⟨b, 0, none⟩), .agg (cmdCells c)] W fun e w' => e = .returned (.tuple #[x, y]) ∧ Mod No W w') :
  Calls Try.prog 60 #[.pointer (some ⟨b, 0, none⟩), .agg (cmdCells c), .int .i64 now] w fun e w' => e = .returned (.tuple #[x, y]) ∧ Mod No w w' := by
 have HA := hide hA
 have HC := hide hC
 have M0 := hide ((Mod.refl No w).alloc (.cells (cmdCells c) 37))
 have B0 := hide (Has.new w (cmdCells c) 37)
 unfold cmdCells at HC M0 B0 ⊢
 rw [hk] at HC M0 B0 ⊢
 clear hA hC hk
 go_enter Try.func60, Try.ntmps60
 go_wp2_with fail
 refine ((unhide HA) _ (unhide M0)).mono ?_
 rintro e w1 ⟨rfl, m1⟩
 have cb := (m1.has (unhide B0) (fun x => x)).cell
 have M1 := hide ((unhide M0).trans m1)
 have B1 := hide (m1.has (unhide B0) (fun x => x))
 clear m1
 go_wp2_with fail
 refine ((unhide HC) _ (unhide M1)).mono ?_
 rintro e w3 ⟨rfl, m3⟩
 have M3 := hide ((unhide M1).trans m3)
 clear m3
 go_wp2
 go_ret2
 exact ⟨rfl, unhide M3⟩
theorem look_noAt (b : Nat) (c : Cmd) (now : Int) (w : World)
  (hA : ∀ W, Mod No w W → Calls Try.prog 77 #[.pointer (some ⟨b, 0, none⟩), .agg #[.int .i64 c.ar, .int .i64 c.ac]] W fun e w' => e = .returned (.bool false) ∧ Mod No W w') :
  (hk : c.kind ≠ 9) → Calls Try.prog 60 #[.pointer (some ⟨b, 0, none⟩), .agg (cmdCells c), .int .i64 now] w fun e w' => e = .returned (refuse 5) ∧ Mod No w w' := by
 intro hk
 have HA := hide hA
 have hd : (c.kind == 9) = false := by simp [hk]
 have M0 := hide ((Mod.refl No w).alloc (.cells (cmdCells c) 37))
 unfold cmdCells at M0 ⊢
 clear hA hk
 go_enter Try.func60, Try.ntmps60
 go_wp2_with fail
 refine ((unhide HA) _ (unhide M0)).mono ?_
 rintro e w1 ⟨rfl, m1⟩
 have M1 := hide ((unhide M0).trans m1)
 clear m1
 go_wp2
 go_ret2
 exact ⟨rfl, unhide M1⟩
theorem look_noTo (b : Nat) (c : Cmd) (now : Int) (hk : c.kind = 5) (w : World)
  (hA : ∀ W, Mod No w W → Calls Try.prog 77 #[.pointer (some ⟨b, 0, none⟩), .agg #[.int .i64 c.ar, .int .i64 c.ac]] W fun e w' => e = .returned (.bool true) ∧ Mod No W w')
  (hB : ∀ W, Mod No w W → Calls Try.prog 77 #[.pointer (some ⟨b, 0, none⟩), .agg #[.int .i64 c.tr, .int .i64 c.tc]] W fun e w' => e = .returned (.bool false) ∧ Mod No W w') :
  Calls Try.prog 60 #[.pointer (some ⟨b, 0, none⟩), .agg (cmdCells c), .int .i64 now] w fun e w' => e = .returned (refuse 5) ∧ Mod No w w' := by
 have HA := hide hA
 have HB := hide hB
 have M0 := hide ((Mod.refl No w).alloc (.cells (cmdCells c) 37))
 have B0 := hide (Has.new w (cmdCells c) 37)
 unfold cmdCells at M0 B0 ⊢
 rw [hk] at M0 B0 ⊢
 clear hA hB hk
 go_enter Try.func60, Try.ntmps60
 go_wp2_with fail
 refine ((unhide HA) _ (unhide M0)).mono ?_
 rintro e w1 ⟨rfl, m1⟩
 have cb := (m1.has (unhide B0) (fun x => x)).cell
 have M1 := hide ((unhide M0).trans m1)
 clear m1
 go_wp2_with fail
 refine ((unhide HB) _ (unhide M1)).mono ?_
 rintro e w2 ⟨rfl, m2⟩
 have M2 := hide ((unhide M1).trans m2)
 clear m2 cb
 go_wp2
 go_ret2
 exact ⟨rfl, unhide M2⟩
def seatAt (p : Pla) (l : List Sea) (r c : Int) : Sea := l.getD (p.idx r c) noSea
def seatErr (p : Pla) (l : List Sea) (c : Cmd) (now : Int) : Int :=
 if c.kind = 9 then (if c.pla.sized = true ∧ ¬ (c.pla.rows * c.pla.cols < (nFull l : Int)) then 0 else 4)
 else if p.has c.ar c.ac = false ∨ (c.kind = 5 ∧ p.has c.tr c.tc = false) then 5
 else if c.kind = 2 then (if buyer c ≠ 0 then buyer c else if c.time ≤ now ∨ c.time > now + 100 then 8 else saleN (seatAt p l c.ar c.ac).st (M.leftOf p l c.cls.toNat))
 else if c.kind = 3 then (if buyer c ≠ 0 then buyer c else if (seatAt p l c.ar c.ac).st = 1 ∧ (seatAt p l c.ar c.ac).pa = c.party ∧ (seatAt p l c.ar c.ac).cl = c.cls then 0 else saleN (seatAt p l c.ar c.ac).st (M.leftOf p l c.cls.toNat))
 else if c.kind = 4 then ownerN (seatAt p l c.ar c.ac).st (seatAt p l c.ar c.ac).pa c.party
 else if c.kind = 5 then (if ownerN (seatAt p l c.ar c.ac).st (seatAt p l c.ar c.ac).pa c.party ≠ 0 then ownerN (seatAt p l c.ar c.ac).st (seatAt p l c.ar c.ac).pa c.party else if (seatAt p l c.tr c.tc).st ≠ 0 then 9 else 0)
 else if c.kind = 6 then (if (seatAt p l c.ar c.ac).st ≠ 0 then 9 else 0)
 else (if (seatAt p l c.ar c.ac).st ≠ 3 then 10 else 0)
def changeV (c : Cmd) : Value :=
 if c.kind = 9 then refitV c.pla
 else if c.kind = 2 then fillV c.ar c.ac 1 c.party c.cls c.time
 else if c.kind = 3 then fillV c.ar c.ac 2 c.party c.cls 0
 else if c.kind = 5 then shiftV c.ar c.ac c.tr c.tc
 else if c.kind = 6 then fillV c.ar c.ac 3 0 0 0
 else emptyV c.ar c.ac
def seatNew (p : Pla) (l : List Sea) (c : Cmd) : List Sea :=
 if c.kind = 9 then swapSeats (swapPla p c.pla) l
 else if c.kind = 2 then l.set (p.idx c.ar c.ac) ⟨c.ar, c.ac, 1, c.party, c.cls, c.time⟩
 else if c.kind = 3 then l.set (p.idx c.ar c.ac) ⟨c.ar, c.ac, 2, c.party, c.cls, 0⟩
 else if c.kind = 5 then (l.set (p.idx c.ar c.ac) (seatAt p l c.ar c.ac).freed).set (p.idx c.tr c.tc) ⟨c.tr, c.tc, (seatAt p l c.ar c.ac).st, (seatAt p l c.ar c.ac).pa, (seatAt p l c.ar c.ac).cl, (seatAt p l c.ar c.ac).un⟩
 else if c.kind = 6 then l.set (p.idx c.ar c.ac) ⟨c.ar, c.ac, 3, 0, 0, 0⟩
 else l.set (p.idx c.ar c.ac) (seatAt p l c.ar c.ac).freed
def planNew (p : Pla) (c : Cmd) : Pla := if c.kind = 9 then swapPla p c.pla else p.next
def lookV (p : Pla) (l : List Sea) (c : Cmd) (now : Int) : Value := if seatErr p l c now = 0 then grant (changeV c) else refuse (seatErr p l c now)
theorem seatAt_eq {p : Pla} {l : List Sea} (hwf : Wf p l) {r c : Int} (hh : p.has r c = true) : ∃ hi : p.idx r c < l.length, seatAt p l r c = l[p.idx r c] ∧ l[p.idx r c].row = r ∧ l[p.idx r c].col = c := by
 have h1 : p.idx r c < l.length := Fli.wf.idx_lt hwf hh
 have h2 := Fli.wf.idx_place hwf hh
 refine ⟨h1, ?_, h2⟩
 unfold seatAt
 rw [List.getD_eq_getElem?_getD, List.getElem?_eq_getElem h1]
 rfl
theorem buyer_ok {c : Cmd} (h : buyer c = 0) : 0 ≤ c.cls ∧ c.cls < 4 ∧ 1 ≤ c.party ∧ c.party ≤ 1000 := by
 unfold buyer at h
 split at h
 ·omega
 ·split at h
  ·omega
  ·omega
theorem flook_any {w : World} {b : Nat} {p : Pla} {l : List Sea} {m : Nat} {es : List MEnt} {clock : Nat} (h : FlX w b p l m es clock) (hwf : Wf p l) (c : Cmd) (now : Int) (hn : 0 ≤ now ∧ now ≤ 4611686018427387000) (hk : 2 ≤ c.kind ∧ c.kind ≤ 9 ∧ c.kind ≠ 8) :
  Calls Try.prog 60 #[.pointer (some ⟨b, 0, none⟩), .agg (cmdCells c), .int .i64 now] w fun e w' => e = .returned (lookV p l c now) ∧ Mod No w w' := by
 have hhas : ∀ r cc W, Mod No w W → Calls Try.prog 77 #[.pointer (some ⟨b, 0, none⟩), .agg #[.int .i64 r, .int .i64 cc]] W fun e w' => e = .returned (.bool (p.has r cc)) ∧ Mod No W w' := fun r cc W hW =>
  has_walk b r cc p.rows p.cols _ W (hW.has h.has (fun x => x)) rfl rfl
 by_cases h9 : c.kind = 9
 ·have hval : ∃ x y, swapV c.pla (nFull l) = .tuple #[x, y] := by
   unfold swapV; split <;> exact ⟨_, _, rfl⟩
  obtain ⟨x, y, hxy⟩ := hval
  refine (look_swap b c now x y h9 w (fun W hW => ?_)).mono ?_
  ·have := lookSwap_walk b m _ c.pla (nFull l) W (hW.has h.has (fun x => x)) rfl (fun W' hW' ty => by
    have hm' := (hW.trans hW').map h.map (fun x => x)
    have := run_len W' m clock es hm' ty
    rw [h.rel.size] at this
    exact this) (fun hs => by
     simp only [Pla.sized, decide_eq_true_eq] at hs
     have f1 : 0 ≤ c.pla.rows * c.pla.cols := Int.mul_nonneg (by omega) (by omega)
     have f2 : c.pla.rows * c.pla.cols ≤ 20 * 6 := Int.mul_le_mul (by omega) (by omega) (by omega) (by omega)
     exact wrap_id _ (by omega) (by omega))
   rw [hxy] at this
   exact this
  ·rintro e w' ⟨rfl, hm⟩
   refine ⟨?_, hm⟩
   rw [← hxy]
   congr 1
   unfold lookV swapV
   have hse : seatErr p l c now = (if c.pla.sized = true ∧ ¬ (c.pla.rows * c.pla.cols < (nFull l : Int)) then 0 else 4) := by unfold seatErr; rw [if_pos h9]
   have hch : changeV c = refitV c.pla := by unfold changeV; rw [if_pos h9]
   rw [hse, hch]
   by_cases hq : c.pla.sized = true ∧ ¬ (c.pla.rows * c.pla.cols < (nFull l : Int))
   ·rw [if_pos hq, if_pos hq, if_pos rfl]
   ·rw [if_neg hq, if_neg hq, if_neg (by omega)]
 by_cases hat : p.has c.ar c.ac = true
 case neg =>
  have hat' : p.has c.ar c.ac = false := by simpa using hat
  refine (look_noAt b c now w (fun W hW => by have := hhas c.ar c.ac W hW; rw [hat'] at this; exact this) h9).mono ?_
  rintro e w' ⟨rfl, hm⟩
  refine ⟨?_, hm⟩
  simp [lookV, seatErr, h9, hat']
 have hA := fun W hW => by have := hhas c.ar c.ac W hW; rw [hat] at this; exact this
 obtain ⟨hi, he, her, hec⟩ := seatAt_eq hwf hat
 have hs := h.sees hwf _ hi
 rw [her, hec, ← he] at hs
 have hswf : (seatAt p l c.ar c.ac).wf := by rw [he]; exact hwf.seat _ (List.getElem_mem hi)
 obtain ⟨n, hn'⟩ : ∃ n : Nat, (seatAt p l c.ar c.ac).st = n := ⟨(seatAt p l c.ar c.ac).st.toNat, by have := hswf.s0; omega⟩
 have hB : ∀ W, Mod No w W → Calls Try.prog 93 #[.agg (cmdCells c)] W fun e w' => e = .returned (.int .i64 (buyer c)) ∧ Mod No W w' := fun W hW => buyer_any c W
 have hS : buyer c = 0 → ∀ W, Mod No w W → Calls Try.prog 94 #[.pointer (some ⟨b, 0, none⟩), .agg (cmdCells c)] W fun e w' => e = .returned (.int .i64 (saleN (seatAt p l c.ar c.ac).st (M.leftOf p l c.cls.toNat))) ∧ Mod No W w' := fun hb W hW => by
  have hbk := buyer_ok hb
  refine sale_walk b m c.cls.toNat (by omega) _ c (by omega) _ _ _ _ _ W (hW.has h.has (fun x => x)) rfl ?_ (hs.on hW)
  have : c.cls.toNat = 0 ∨ c.cls.toNat = 1 ∨ c.cls.toNat = 2 ∨ c.cls.toNat = 3 := by omega
  rcases this with e | e | e | e <;> (rw [e]; rfl)
 have hO : ∀ W, Mod No w W → Calls Try.prog 95 #[.pointer (some ⟨b, 0, none⟩), .agg (cmdCells c)] W fun e w' => e = .returned (.int .i64 (ownerN (seatAt p l c.ar c.ac).st (seatAt p l c.ar c.ac).pa c.party)) ∧ Mod No W w' := fun W hW => by
  have hs' := hs.on hW
  rw [hn'] at hs' ⊢
  exact owner_walk b m n _ c _ _ _ W (hW.has h.has (fun x => x)) rfl hs'
 have hor : ¬ (p.has c.ar c.ac = false ∨ (c.kind = 5 ∧ p.has c.tr c.tc = false)) ∨ (c.kind = 5 ∧ p.has c.tr c.tc = false) := by
  by_cases hx : c.kind = 5 ∧ p.has c.tr c.tc = false
  ·exact .inr hx
  ·left; rintro (h | h); rw [hat] at h; exact absurd h (by simp); exact hx h
 rcases hor with hor | ⟨h5, hno⟩
 case inr =>
  refine (look_noTo b c now h5 w hA (fun W hW => by have := hhas c.tr c.tc W hW; rw [hno] at this; exact this)).mono ?_
  rintro e w' ⟨rfl, hm⟩
  refine ⟨?_, hm⟩
  simp [lookV, seatErr, h5, hno]
 by_cases k2 : c.kind = 2
 ·have hval : ∃ x y, holdV c now (buyer c) (saleN (seatAt p l c.ar c.ac).st (M.leftOf p l c.cls.toNat)) = .tuple #[x, y] := by
   unfold holdV; (repeat' split) <;> exact ⟨_, _, rfl⟩
  obtain ⟨x, y, hxy⟩ := hval
  refine (look_hold b c now x y k2 w hA (fun W hW => ?_)).mono ?_
  ·have := hold_walk b c now _ _ hn W (fun W' hW' => hB W' (hW.trans hW')) (fun hb W' hW' => hS hb W' (hW.trans hW'))
   rw [hxy] at this
   exact this
  ·rintro e w' ⟨rfl, hm⟩
   refine ⟨?_, hm⟩
   rw [← hxy]
   congr 1
   have hse : seatErr p l c now = (if buyer c ≠ 0 then buyer c else if c.time ≤ now ∨ c.time > now + 100 then 8 else saleN (seatAt p l c.ar c.ac).st (M.leftOf p l c.cls.toNat)) := by
    unfold seatErr; rw [if_neg h9, if_neg hor, if_pos k2]
   have hch : changeV c = fillV c.ar c.ac 1 c.party c.cls c.time := by unfold changeV; rw [if_neg h9, if_pos k2]
   unfold lookV holdV
   rw [hse, hch]
   by_cases hb : buyer c = 0
   ·by_cases ht : c.time ≤ now ∨ c.time > now + 100
    ·simp only [hb, ne_eq, not_true_eq_false, if_false, if_pos ht]; simp
    ·simp only [hb, ne_eq, not_true_eq_false, if_false, if_neg ht]
     by_cases hsl : saleN (seatAt p l c.ar c.ac).st (M.leftOf p l c.cls.toNat) = 0 <;> simp [hsl]
   ·simp [hb]
 by_cases k3 : c.kind = 3
 ·have hval : ∃ x y, bookV c (buyer c) (seatAt p l c.ar c.ac).st (seatAt p l c.ar c.ac).pa (seatAt p l c.ar c.ac).cl (saleN (seatAt p l c.ar c.ac).st (M.leftOf p l c.cls.toNat)) = .tuple #[x, y] := by
   unfold bookV; (repeat' split) <;> exact ⟨_, _, rfl⟩
  obtain ⟨x, y, hxy⟩ := hval
  refine (look_book b c now x y k3 w hA (fun W hW => ?_)).mono ?_
  ·have := book_walk b m _ c _ _ _ _ _ _ W (hW.has h.has (fun x => x)) rfl (hs.on hW) (fun W' hW' => hB W' (hW.trans hW')) (fun hb W' hW' => hS hb W' (hW.trans hW'))
   rw [hxy] at this
   exact this
  ·rintro e w' ⟨rfl, hm⟩
   refine ⟨?_, hm⟩
   rw [← hxy]
   congr 1
   have hse : seatErr p l c now = (if buyer c ≠ 0 then buyer c else if (seatAt p l c.ar c.ac).st = 1 ∧ (seatAt p l c.ar c.ac).pa = c.party ∧ (seatAt p l c.ar c.ac).cl = c.cls then 0 else saleN (seatAt p l c.ar c.ac).st (M.leftOf p l c.cls.toNat)) := by
    unfold seatErr; rw [if_neg h9, if_neg hor, if_neg k2, if_pos k3]
   have hch : changeV c = fillV c.ar c.ac 2 c.party c.cls 0 := by unfold changeV; rw [if_neg h9, if_neg k2, if_pos k3]
   unfold lookV bookV
   rw [hse, hch]
   by_cases hb : buyer c = 0
   ·by_cases ht : (seatAt p l c.ar c.ac).st = 1 ∧ (seatAt p l c.ar c.ac).pa = c.party ∧ (seatAt p l c.ar c.ac).cl = c.cls
    ·simp only [hb, ne_eq, not_true_eq_false, if_false, if_pos ht]; simp
    ·simp only [hb, ne_eq, not_true_eq_false, if_false, if_neg ht]
     by_cases hsl : saleN (seatAt p l c.ar c.ac).st (M.leftOf p l c.cls.toNat) = 0 <;> simp [hsl]
   ·simp [hb]
 by_cases k4 : c.kind = 4
 ·have hval : ∃ x y, cancelV c (ownerN (seatAt p l c.ar c.ac).st (seatAt p l c.ar c.ac).pa c.party) = .tuple #[x, y] := by
   unfold cancelV; (repeat' split) <;> exact ⟨_, _, rfl⟩
  obtain ⟨x, y, hxy⟩ := hval
  refine (look_cancel b c now x y k4 w hA (fun W hW => ?_)).mono ?_
  ·have := cancel_walk b c _ W (fun W' hW' => hO W' (hW.trans hW'))
   rw [hxy] at this
   exact this
  ·rintro e w' ⟨rfl, hm⟩
   refine ⟨?_, hm⟩
   rw [← hxy]
   congr 1
   have hse : seatErr p l c now = ownerN (seatAt p l c.ar c.ac).st (seatAt p l c.ar c.ac).pa c.party := by
    unfold seatErr; rw [if_neg h9, if_neg hor, if_neg k2, if_neg k3, if_pos k4]
   have hch : changeV c = emptyV c.ar c.ac := by unfold changeV; rw [if_neg h9, if_neg k2, if_neg k3, if_neg (by omega), if_neg (by omega)]
   unfold lookV cancelV
   rw [hse, hch]
   by_cases hsl : ownerN (seatAt p l c.ar c.ac).st (seatAt p l c.ar c.ac).pa c.party = 0 <;> simp [hsl]
 by_cases k5 : c.kind = 5
 ·have hto : p.has c.tr c.tc = true := by
   by_cases ht : p.has c.tr c.tc = true
   ·exact ht
   ·exact absurd (.inr ⟨k5, by simpa using ht⟩) hor
  obtain ⟨hj, hje, hjr, hjc⟩ := seatAt_eq hwf hto
  have hs2 := h.sees hwf _ hj
  rw [hjr, hjc, ← hje] at hs2
  have hval : ∃ x y, moveV c (ownerN (seatAt p l c.ar c.ac).st (seatAt p l c.ar c.ac).pa c.party) (seatAt p l c.tr c.tc).st = .tuple #[x, y] := by
   unfold moveV; (repeat' split) <;> exact ⟨_, _, rfl⟩
  obtain ⟨x, y, hxy⟩ := hval
  refine (look_move b c now x y k5 w hA (fun W hW => by have := hhas c.tr c.tc W hW; rw [hto] at this; exact this) (fun W hW => ?_)).mono ?_
  ·have := move_walk b m _ c _ _ _ _ _ W (hW.has h.has (fun x => x)) rfl (fun _ => hs2.on hW) (fun W' hW' => hO W' (hW.trans hW'))
   rw [hxy] at this
   exact this
  ·rintro e w' ⟨rfl, hm⟩
   refine ⟨?_, hm⟩
   rw [← hxy]
   congr 1
   have hse : seatErr p l c now = (if ownerN (seatAt p l c.ar c.ac).st (seatAt p l c.ar c.ac).pa c.party ≠ 0 then ownerN (seatAt p l c.ar c.ac).st (seatAt p l c.ar c.ac).pa c.party else if (seatAt p l c.tr c.tc).st ≠ 0 then 9 else 0) := by
    unfold seatErr; rw [if_neg h9, if_neg hor, if_neg k2, if_neg k3, if_neg k4, if_pos k5]
   have hch : changeV c = shiftV c.ar c.ac c.tr c.tc := by unfold changeV; rw [if_neg h9, if_neg k2, if_neg k3, if_pos k5]
   unfold lookV moveV
   rw [hse, hch]
   by_cases hsl : ownerN (seatAt p l c.ar c.ac).st (seatAt p l c.ar c.ac).pa c.party = 0
   ·by_cases hst : (seatAt p l c.tr c.tc).st = 0 <;> simp [hsl, hst]
   ·simp [hsl]
 by_cases k6 : c.kind = 6
 ·have hval : ∃ x y, blockV c (seatAt p l c.ar c.ac).st = .tuple #[x, y] := by
   unfold blockV; (repeat' split) <;> exact ⟨_, _, rfl⟩
  obtain ⟨x, y, hxy⟩ := hval
  refine (look_block b c now x y k6 w hA (fun W hW => ?_)).mono ?_
  ·have := block_walk b m _ c _ _ _ _ W (hW.has h.has (fun x => x)) rfl (hs.on hW)
   rw [hxy] at this
   exact this
  ·rintro e w' ⟨rfl, hm⟩
   refine ⟨?_, hm⟩
   rw [← hxy]
   congr 1
   have hse : seatErr p l c now = if (seatAt p l c.ar c.ac).st ≠ 0 then 9 else 0 := by
    unfold seatErr; rw [if_neg h9, if_neg hor, if_neg k2, if_neg k3, if_neg k4, if_neg k5, if_pos k6]
   have hch : changeV c = fillV c.ar c.ac 3 0 0 0 := by unfold changeV; rw [if_neg h9, if_neg k2, if_neg k3, if_neg k5, if_pos k6]
   unfold lookV blockV
   rw [hse, hch]
   by_cases hst : (seatAt p l c.ar c.ac).st = 0 <;> simp [hst]
 have k7 : c.kind = 7 := by omega
 ·have hval : ∃ x y, unblockV c (seatAt p l c.ar c.ac).st = .tuple #[x, y] := by
   unfold unblockV; (repeat' split) <;> exact ⟨_, _, rfl⟩
  obtain ⟨x, y, hxy⟩ := hval
  refine (look_unblock b c now x y k7 w hA (fun W hW => ?_)).mono ?_
  ·have := unblock_walk b m _ c _ _ _ _ W (hW.has h.has (fun x => x)) rfl (hs.on hW)
   rw [hxy] at this
   exact this
  ·rintro e w' ⟨rfl, hm⟩
   refine ⟨?_, hm⟩
   rw [← hxy]
   congr 1
   have hse : seatErr p l c now = if (seatAt p l c.ar c.ac).st ≠ 3 then 10 else 0 := by
    unfold seatErr; rw [if_neg h9, if_neg hor, if_neg k2, if_neg k3, if_neg k4, if_neg k5, if_neg k6]
   have hch : changeV c = emptyV c.ar c.ac := by unfold changeV; rw [if_neg h9, if_neg k2, if_neg k3, if_neg k5, if_neg k6]
   unfold lookV unblockV
   rw [hse, hch]
   by_cases hst : (seatAt p l c.ar c.ac).st = 3 <;> simp [hst]
def chV (e : Ent) : Value :=
 if e.kind = 1 then startV e.pla
 else if e.kind = 2 then fillV e.sea.row e.sea.col e.sea.st e.sea.pa e.sea.cl e.sea.un
 else if e.kind = 3 then emptyV e.sea.row e.sea.col
 else if e.kind = 4 then shiftV e.sea.row e.sea.col e.tr e.tc
 else if e.kind = 5 then refitV e.pla
 else passV e.now
structure CFit (now : Int) (e : Ent) : Prop where
 kind : 1 ≤ e.kind ∧ e.kind ≤ 6
 fl : e.kind ≠ 6 → 0 ≤ e.fl ∧ e.fl < 32
 start : e.kind = 1 → (0 ≤ e.pla.rows ∧ e.pla.rows < 128) ∧ (0 ≤ e.pla.cols ∧ e.pla.cols < 128) ∧ (0 ≤ e.pla.front ∧ e.pla.front < 128) ∧ ∀ k, 0 ≤ e.pla.lim k ∧ e.pla.lim k < 16384
 fill : e.kind = 2 → SFit now e.sea
 at_ : e.kind = 3 ∨ e.kind = 4 → (1 ≤ e.sea.row ∧ e.sea.row ≤ 20) ∧ (1 ≤ e.sea.col ∧ e.sea.col ≤ 6)
 dest : e.kind = 4 → (1 ≤ e.tr ∧ e.tr ≤ 20) ∧ (1 ≤ e.tc ∧ e.tc ≤ 6)
 refit : e.kind = 5 → (0 ≤ e.pla.rows ∧ e.pla.rows < 128) ∧ (0 ≤ e.pla.cols ∧ e.pla.cols < 128) ∧ (0 ≤ e.pla.front ∧ e.pla.front < 128)
 pass : e.kind = 6 → 0 ≤ now ∧ now ≤ e.now ∧ e.now ≤ 4611686018427387904
theorem wentry_any {O : Nat → Prop} {w : World} {wb : Nat} {xs : List Int} {now : Int} (h : ∃ v, WrX O w wb v xs now) (hO : Up O w) (hl : xs.length < 1099511627600) (e : Ent) (hf : CFit now e) :
  Calls Try.prog 88 #[.pointer (some ⟨wb, 0, none⟩), .agg #[.int .i64 e.fl, chV e]] w fun r w' => r = .returned (.tuple #[]) ∧ Wrote O w w' wb (xs ++ entB now e) (entNow now e) := by
 unfold chV entB entNow
 have hk := hf.kind
 by_cases k1 : e.kind = 1
 ·rw [if_pos k1, if_pos k1, if_neg (by omega)]
  obtain ⟨p1, p2, p3, p4⟩ := hf.start k1
  exact wentry_start h hO hl e.fl (hf.fl (by omega)) e.pla ⟨by omega, by omega, by omega, fun k => by have := p4 k; omega⟩
 rw [if_neg k1, if_neg k1]
 by_cases k2 : e.kind = 2
 ·rw [if_pos k2, if_pos k2, if_neg (by omega)]
  exact wentry_fill h hO hl e.fl (hf.fl (by omega)) e.sea (hf.fill k2)
 rw [if_neg k2, if_neg k2]
 by_cases k3 : e.kind = 3
 ·rw [if_pos k3, if_pos k3, if_neg (by omega)]
  exact wentry_empty h hO hl e.fl (hf.fl (by omega)) _ _ (hf.at_ (.inl k3)).1 (hf.at_ (.inl k3)).2
 rw [if_neg k3, if_neg k3]
 by_cases k4 : e.kind = 4
 ·rw [if_pos k4, if_pos k4, if_neg (by omega)]
  exact wentry_shift h hO hl e.fl (hf.fl (by omega)) _ _ _ _ (hf.at_ (.inr k4)).1 (hf.at_ (.inr k4)).2 (hf.dest k4).1 (hf.dest k4).2
 rw [if_neg k4, if_neg k4]
 by_cases k5 : e.kind = 5
 ·rw [if_pos k5, if_pos k5, if_neg (by omega)]
  obtain ⟨p1, p2, p3⟩ := hf.refit k5
  exact wentry_refit h hO hl e.fl (hf.fl (by omega)) _ _ _ (by omega) (by omega) (by omega)
 rw [if_neg k5, if_neg k5]
 have k6 : e.kind = 6 := by omega
 rw [if_pos k6, if_pos k6]
 have p := hf.pass k6
 exact wentry_pass h hO hl e.fl e.now ⟨p.1, p.2.1, p.2.2⟩
theorem entB_len {now : Int} {e : Ent} (hf : CFit now e) : (entB now e).length ≤ 40 := by
 unfold entB
 have hk := hf.kind
 by_cases k1 : e.kind = 1
 ·rw [if_pos k1]
  obtain ⟨p1, p2, p3, p4⟩ := hf.start k1
  have a := shapeB_len e.pla
  have l0 := numB_two (p4 0).2
  have l1 := numB_two (p4 1).2
  have l2 := numB_two (p4 2).2
  have l3 := numB_two (p4 3).2
  simp only [planeB, List.length_cons, List.length_append]
  simp only [Pla.lim] at l0 l1 l2 l3
  omega
 rw [if_neg k1]
 by_cases k2 : e.kind = 2
 ·rw [if_pos k2]
  have := fillB_len now e.sea
  simp only [List.length_cons]
  omega
 rw [if_neg k2]
 have a := (numB_len ((e.sea.row - 1) * 6 + e.sea.col - 1)).2
 have b := (numB_len ((e.tr - 1) * 6 + e.tc - 1)).2
 have c := shapeB_len e.pla
 have d := (numB_len (e.now - now)).2
 by_cases k3 : e.kind = 3
 ·rw [if_pos k3]
  simp only [placeB, List.length_cons]
  omega
 rw [if_neg k3]
 by_cases k4 : e.kind = 4
 ·rw [if_pos k4]
  simp only [placeB, List.length_cons, List.length_append]
  omega
 rw [if_neg k4]
 by_cases k5 : e.kind = 5
 ·rw [if_pos k5]
  simp only [List.length_cons]
  omega
 rw [if_neg k5, if_pos (by omega)]
 simp only [List.length_cons]
 omega
def isB (b : Int) : Prop := 0 ≤ b ∧ b < 256
theorem all_app {l r : List Int} (h : ∀ b ∈ l, isB b) (h' : ∀ b ∈ r, isB b) : ∀ b ∈ l ++ r, isB b := fun b hb => by
 rcases List.mem_append.1 hb with q | q
 ·exact h b q
 ·exact h' b q
theorem all_cons {a : Int} {r : List Int} (h : isB a) (h' : ∀ b ∈ r, isB b) : ∀ b ∈ a :: r, isB b := fun b hb => by
 rcases List.mem_cons.1 hb with q | q
 ·subst q; exact h
 ·exact h' b q
theorem all_nil : ∀ b ∈ ([] : List Int), isB b := fun b hb => by cases hb
theorem num_isB {x : Int} (h : x < 9223372036854775808) : ∀ b ∈ numB x, isB b := numB_byte h
theorem fillB_byte {now : Int} {s : Sea} (h : SFit now s) : ∀ b ∈ fillB now s, isB b := by
 obtain ⟨h1, h2, h3, h4, h5, h6, h7⟩ := h
 unfold fillB placeB
 refine all_app (all_app (all_app (num_isB (by omega)) (num_isB (by omega))) ?_) ?_
 ·split
  ·exact all_nil
  ·exact num_isB (by omega)
 ·split
  ·rename_i e
   have := h6 e
   exact num_isB (by omega)
  ·exact all_nil
theorem entB_byte {now : Int} {e : Ent} (hf : CFit now e) : ∀ b ∈ entB now e, isB b := by
 unfold entB
 have hk := hf.kind
 have hfl := hf.fl
 by_cases k1 : e.kind = 1
 ·rw [if_pos k1]
  obtain ⟨p1, p2, p3, p4⟩ := hf.start k1
  have l0 := p4 0
  have l1 := p4 1
  have l2 := p4 2
  have l3 := p4 3
  simp only [Pla.lim] at l0 l1 l2 l3
  have := hfl (by omega)
  refine all_cons ⟨by omega, by omega⟩ ?_
  unfold planeB shapeB
  exact all_app (all_app (all_app (all_app (all_app (all_app (num_isB (by omega)) (num_isB (by omega))) (num_isB (by omega))) (num_isB (by omega))) (num_isB (by omega))) (num_isB (by omega))) (num_isB (by omega))
 rw [if_neg k1]
 by_cases k2 : e.kind = 2
 ·rw [if_pos k2]
  have := hfl (by omega)
  exact all_cons ⟨by omega, by omega⟩ (fillB_byte (hf.fill k2))
 rw [if_neg k2]
 by_cases k3 : e.kind = 3
 ·rw [if_pos k3]
  have := hfl (by omega)
  have := hf.at_ (.inl k3)
  exact all_cons ⟨by omega, by omega⟩ (num_isB (by omega))
 rw [if_neg k3]
 by_cases k4 : e.kind = 4
 ·rw [if_pos k4]
  have := hfl (by omega)
  have := hf.at_ (.inr k4)
  have := hf.dest k4
  exact all_cons ⟨by omega, by omega⟩ (all_app (num_isB (by omega)) (num_isB (by omega)))
 rw [if_neg k4]
 by_cases k5 : e.kind = 5
 ·rw [if_pos k5]
  have := hfl (by omega)
  have := hf.refit k5
  exact all_cons ⟨by omega, by omega⟩ (all_app (all_app (num_isB (by omega)) (num_isB (by omega))) (num_isB (by omega)))
 rw [if_neg k5, if_pos (by omega)]
 have := hf.pass (by omega)
 exact all_cons ⟨by omega, by omega⟩ (num_isB (by omega))
theorem rec1_len {now : Int} {e : Ent} (hf : CFit now e) : (recB now [e]).length ≤ 42 := by
 have := entB_len hf
 have h1 : numB (([e] : List Ent).length : Int) = [1] := numB_one (by simp) (by simp)
 unfold recB
 rw [h1]
 simp only [entsB, List.length_append, List.length_cons, List.length_nil, List.append_nil]
 omega
theorem rec1_byte {now : Int} {e : Ent} (hf : CFit now e) : ∀ b ∈ recB now [e], 0 ≤ b ∧ b < 256 := by
 have h1 : numB (([e] : List Ent).length : Int) = [1] := numB_one (by simp) (by simp)
 unfold recB
 rw [h1]
 simp only [entsB, List.append_nil]
 exact all_app (all_app (all_cons ⟨by omega, by omega⟩ all_nil) (entB_byte hf)) (all_cons ⟨by omega, by omega⟩ all_nil)
end Go.Proofs.Ythhibagcpjeihaa
