import Derived.Test.YthhibagcpjeihaaGreatHWr2ToWr5
import Derived.Test.YthhibagcpjeihaaGreatHLook7ToRef7
import Derived.Test.YthhibagcpjeihaaGreatHPTapeToSto1
import Derived.Test.YthhibagcpjeihaaGreatHRef13ToRef15
namespace Go.Proofs.YthhibagcpjeihaaGreat
open Go.RowKit
open M
set_option linter.unusedVariables false
set_option linter.unusedSimpArgs false
set_option maxRecDepth 100000
set_option maxHeartbeats 4000000
theorem mod_c0 {w w' : World} (h : Mod No w w') {a : Addr} {v : Value} (hc : w.cell? a = some v) : w'.cell? a = some v := by
 have hl := World.block_lt_of_cell? w a hc
 unfold World.cell? at hc ⊢
 rw [h.block _ hl (fun x => x)]
 exact hc
def timeAt (now : Int) (es : List Ent) (i : Nat) : Int := (es.take i).foldl entNow now
theorem timeAt_succ (now : Int) (es : List Ent) (i : Nat) (hi : i < es.length) : timeAt now es (i + 1) = entNow (timeAt now es i) es[i] := by
 unfold timeAt
 rw [List.take_succ_eq_append_getElem hi, List.foldl_append]
 rfl
def entsTo (now : Int) (es : List Ent) (i : Nat) : List Int := entsB now (es.take i)
theorem entsB_append (now : Int) (es fs : List Ent) : entsB now (es ++ fs) = entsB now es ++ entsB (es.foldl entNow now) fs := by
 induction es generalizing now with
 | nil => rfl
 | cons e es ih => simp only [List.cons_append, entsB, ih, List.append_assoc, List.foldl_cons]
theorem entsTo_succ (now : Int) (es : List Ent) (i : Nat) (hi : i < es.length) : entsTo now es (i + 1) = entsTo now es i ++ entB (timeAt now es i) es[i] := by
 unfold entsTo timeAt
 rw [List.take_succ_eq_append_getElem hi, entsB_append]
 simp [entsB]
theorem Wrote.start {w w' : World} {now : Int} : WrX (fun k => w.heap.size ≤ k) (w.alloc (.cells #[.slice none 0 0, .int .i64 now] 193)) w.heap.size (.slice none 0 0) [] now :=
 ⟨Has.new w _ _, World.ownsRow_nil _ _ _ _, fun k hk => by simp [Value.ownBlock] at hk, Nat.le_refl _, by simp⟩
structure Recorded (w w' : World) (v : Value) (l : List Int) : Prop where
 row : w'.ownsRow 0 5 1 v l.length (u8s l)
 new : ∀ k, v.ownBlock = some k → w.heap.size ≤ k
 mod : Mod No w w'
theorem record_any (now : Int) (b o n cap : Nat) (w : World) (es : List Ent) (hn : es.length = n) (hn2 : 1 ≤ n ∧ n ≤ 21) (fv : Nat → Int) (tv : Nat → TypeId) (vv : Nat → Value)
  (hc : ∀ i, i < n → w.cell? ⟨b, o + i * 2, none⟩ = some (.int .i64 (fv i)) ∧ w.cell? ⟨b, o + i * 2 + 1, none⟩ = some (.iface (tv i) (vv i))) (hb : b < w.heap.size)
  (hlen : ∀ i, i ≤ n → (entsTo now es i).length ≤ 500000)
  (HE : ∀ i (hi : i < es.length) W, Mod No w W → ∀ wb xs, xs.length ≤ 600000 → (∃ v, WrX (fun k => w.heap.size ≤ k) W wb v xs (timeAt now es i)) →
   Calls Tryz.prog 110 #[.pointer (some ⟨wb, 0, none⟩), .agg #[.int .i64 (fv i), .iface (tv i) (vv i)]] W fun e W' => e = .returned (.tuple #[]) ∧ Wrote (fun k => w.heap.size ≤ k) W W' wb (xs ++ entB (timeAt now es i) es[i]) (entNow (timeAt now es i) es[i])) :
  Calls Tryz.prog 81 #[.int .i64 now, .slice (some ⟨b, o, none⟩) n cap] w fun e w' => ∃ v, e = .returned v ∧ Recorded w w' v (recB now es) := by
 have HN := hide (wnum_w (O := fun k => w.heap.size ≤ k) ⟨_, Wrote.start (w := w) (w' := w) (now := now)⟩ (fun k hk => Nat.le_trans ((Mod.refl No w).alloc _).size hk) (by simp) (n : Int) (by omega))
 have M0 := hide ((Mod.refl No w).alloc (.cells #[.slice none 0 0, .int .i64 now] 193))
 have HC := hide hc
 have HL := hide hlen
 have HE := hide HE
 have HB := hide hb
 have HEN := hide hn
 have HTS := hide (timeAt_succ now es)
 have HES := hide (entsTo_succ now es)
 obtain ⟨i5, q0, q1, q2, q3⟩ := info_parts info5
 clear hc hlen hn
 go_enter Tryz.func81, Tryz.ntmps81
 go_wp2_with fail
 refine (unhide HN).mono ?_
 rintro e w1 ⟨rfl, h1⟩
 have H1 := hide h1
 have hz := h1.mod.size
 clear h1 HN
 go_wp2_with fail
 go_loopw [15] (fun s wr => ∃ i : Nat, s = .int .i64 i ∧ i ≤ n ∧ Hid (Mod No w wr) ∧ Hid (∃ v, WrX (fun k => w.heap.size ≤ k) wr w.heap.size v (numB (n : Int) ++ entsTo now es i) (timeAt now es i))) (fun s _ => n - (intOf s).toNat)
 case atStart =>
  refine ⟨0, rfl, by omega, ?_, ?_⟩
  ·exact (unhide M0).trans' (unhide H1).mod (fun k (q : w.heap.size ≤ k) hk => by omega)
  ·have := (unhide H1).ex
   rw [List.nil_append] at this
   show Hid (∃ v, WrX (fun k => w.heap.size ≤ k) w1 w.heap.size v (numB (n : Int) ++ []) now)
   rw [List.append_nil]
   exact this
 case round =>
  obtain ⟨i, rfl, hi, M1, W1⟩ := hrel
  clear H1 hz M0
  by_cases hin : i < n
  ·have hini : (i : Int) < (n : Int) := by omega
   have hi0 : (0 : Int) ≤ i := by omega
   have hi1 : IntKind.i64.wrap ((i : Int) + 1) = ((i + 1 : Nat) : Int) := by rw [wrap_id _ (by omega) (by omega)]; rfl
   have c0 := mod_c0 (unhide M1) ((unhide HC) i hin).1
   have c1 := mod_c0 (unhide M1) ((unhide HC) i hin).2
   have bl := Nat.lt_of_lt_of_le (unhide HB) (unhide M1).size
   have mA : Mod No wr (wr.alloc (.cells #[.int .i64 (fv i), .iface (tv i) (vv i)] 125)) := (Mod.refl _ _).alloc _
   have HEI := hide ((unhide HE) i (by have := unhide HEN; omega) _ ((unhide M1).trans mA) w.heap.size (numB (n : Int) ++ entsTo now es i) (by
    have h1 := (unhide HL) i hi
    have h2 := (numB_len (n : Int)).2
    simp only [List.length_append]
    omega) (by
    obtain ⟨v, hv⟩ := unhide W1
    exact ⟨v, hv.mod mA (fun _ _ x => x)⟩))
   have MA := hide mA
   clear mA
   generalize tv i = ti at *
   generalize vv i = vi at *
   generalize fv i = fi at *
   go_wp2_with fail
   refine (unhide HEI).mono ?_
   rintro e w3 ⟨rfl, q3⟩
   have hil : i < es.length := by have := unhide HEN; omega
   have W3 := hide q3.ex
   have M3 := hide (((unhide M1).trans (unhide MA)).trans' q3.mod (fun k (q : w.heap.size ≤ k) hk => by omega))
   have E1 := hide ((unhide HTS) i hil)
   have E2 := hide ((unhide HES) i hil)
   clear q3 HEI
   go_wp2
   refine ⟨⟨i + 1, rfl, by omega, M3, ?_⟩, by simp [intOf]; omega⟩
   rw [unhide E1, unhide E2, ← List.append_assoc]
   exact W3
  ·have hini : ¬ (i : Int) < (n : Int) := by omega
   obtain rfl : i = n := by omega
   obtain ⟨v, hv⟩ := unhide W1
   obtain ⟨a, c, rfl⟩ := slice_of_owns hv.row
   have hc : wr.cell? ⟨w.heap.size, 0, none⟩ = some (.slice a (numB (i : Int) ++ entsTo now es i).length c) := hv.has.cell 0
   have hlt := hv.has.lt
   have mA : Mod No wr (wr.alloc (.cells #[.int .u8 229] 5)) := (Mod.refl _ _).alloc _
   have HOWN := hide (mA.owns hv.row (fun _ _ x => x))
   have HR := hide (byte_reads wr 229 5)
   have HV := hide hv
   have hlen := (unhide HL) i hi
   have hlen2 := (numB_len (i : Int)).2
   have HXL := hide (show (numB (i : Int) ++ entsTo now es i).length = (numB (i : Int)).length + (entsTo now es i).length by simp)
   have HREC := hide (show recB now es = numB (i : Int) ++ entsTo now es i ++ [229] from by
    unfold recB entsTo
    rw [unhide HEN, List.take_of_length_le (by have := unhide HEN; omega)])
   have MA := hide ((unhide M1).trans mA)
   clear hv mA hlen W1
   generalize hX : numB (i : Int) ++ entsTo now es i = X at *
   clear hX
   have hxl : X.length ≤ 600000 := by have := unhide HXL; have := (unhide HL) i hi; omega
   go_wp2_with (at_builtin; refine wpList_append_row rfl (.tmp 23) (.tmp 24) 103 rfl 5 i5 _ 1 1 Tryz.underlying103 q0 q1 q2 q3 rfl (by decide) (.slice a X.length c) X.length (u8s X) (by simp [Act.eval]) (by exact unhide HOWN) (.slice (some ⟨wr.heap.size, 0, none⟩) 1 1) 1 [.int .u8 229] (by simp [Act.eval]) (by exact unhide HR) rfl (by intro u hu; simp at hu; subst hu; rfl) (by unfold maxLen; omega) (by omega) ?_; intro v1 w1 ho hg hs; obtain ⟨a1, c1, rfl⟩ := slice_of_owns ho)
   go_ret
   have hv := unhide HV
   refine ⟨_, rfl, ?_⟩
   show Recorded w w1 (.slice a1 (X.length + 1) c1) (recB now es)
   rw [unhide HREC]
   refine ⟨?_, fun k hk => ?_, (unhide MA).grown hg (fun k hk => .inr (hv.own k hk).1)⟩
   ·unfold u8s at ho ⊢
    rw [List.length_append, List.map_append]
    exact ho
   ·rcases hs k hk with e | e
    ·exact (hv.own k e).1
    ·rw [World.size_alloc] at e
     have := (unhide M1).size
     omega
def chV (e : Ent) : Value :=
 if e.kind = 1 then startV e.pla
 else if e.kind = 2 then fillV e.sea.row e.sea.col e.sea.st e.sea.pa e.sea.cl e.sea.un
 else if e.kind = 3 then emptyV e.sea.row e.sea.col
 else if e.kind = 4 then shiftV e.sea.row e.sea.col e.tr e.tc
 else if e.kind = 5 then refitV e.pla
 else passV e.now
structure CFit (now : Int) (e : Ent) : Prop where
 kind : 1 ≤ e.kind ∧ e.kind ≤ 6
 fl : e.kind ≠ 6 → 0 ≤ e.fl ∧ e.fl < 32
 start : e.kind = 1 → (0 ≤ e.pla.rows ∧ e.pla.rows < 128) ∧ (0 ≤ e.pla.cols ∧ e.pla.cols < 128) ∧ (0 ≤ e.pla.front ∧ e.pla.front < 128) ∧ ∀ k, 0 ≤ e.pla.lim k ∧ e.pla.lim k < 16384
 fill : e.kind = 2 → SFit now e.sea
 at_ : e.kind = 3 ∨ e.kind = 4 → (1 ≤ e.sea.row ∧ e.sea.row ≤ 20) ∧ (1 ≤ e.sea.col ∧ e.sea.col ≤ 6)
 dest : e.kind = 4 → (1 ≤ e.tr ∧ e.tr ≤ 20) ∧ (1 ≤ e.tc ∧ e.tc ≤ 6)
 refit : e.kind = 5 → (0 ≤ e.pla.rows ∧ e.pla.rows < 128) ∧ (0 ≤ e.pla.cols ∧ e.pla.cols < 128) ∧ (0 ≤ e.pla.front ∧ e.pla.front < 128)
 pass : e.kind = 6 → 0 ≤ now ∧ now ≤ e.now ∧ e.now ≤ 4611686018427387904
theorem wentry_any {O : Nat → Prop} {w : World} {wb : Nat} {xs : List Int} {now : Int} (h : ∃ v, WrX O w wb v xs now) (hO : Up O w) (hl : xs.length < 1099511627600) (e : Ent) (hf : CFit now e) :
  Calls Tryz.prog 110 #[.pointer (some ⟨wb, 0, none⟩), .agg #[.int .i64 e.fl, chV e]] w fun r w' => r = .returned (.tuple #[]) ∧ Wrote O w w' wb (xs ++ entB now e) (entNow now e) := by
 unfold chV entB entNow
 have hk := hf.kind
 by_cases k1 : e.kind = 1
 ·rw [if_pos k1, if_pos k1, if_neg (by omega)]
  obtain ⟨p1, p2, p3, p4⟩ := hf.start k1
  exact wentry_start h hO hl e.fl (hf.fl (by omega)) e.pla ⟨by omega, by omega, by omega, fun k => by have := p4 k; omega⟩
 rw [if_neg k1, if_neg k1]
 by_cases k2 : e.kind = 2
 ·rw [if_pos k2, if_pos k2, if_neg (by omega)]
  exact wentry_fill h hO hl e.fl (hf.fl (by omega)) e.sea (hf.fill k2)
 rw [if_neg k2, if_neg k2]
 by_cases k3 : e.kind = 3
 ·rw [if_pos k3, if_pos k3, if_neg (by omega)]
  exact wentry_empty h hO hl e.fl (hf.fl (by omega)) _ _ (hf.at_ (.inl k3)).1 (hf.at_ (.inl k3)).2
 rw [if_neg k3, if_neg k3]
 by_cases k4 : e.kind = 4
 ·rw [if_pos k4, if_pos k4, if_neg (by omega)]
  exact wentry_shift h hO hl e.fl (hf.fl (by omega)) _ _ _ _ (hf.at_ (.inr k4)).1 (hf.at_ (.inr k4)).2 (hf.dest k4).1 (hf.dest k4).2
 rw [if_neg k4, if_neg k4]
 by_cases k5 : e.kind = 5
 ·rw [if_pos k5, if_pos k5, if_neg (by omega)]
  obtain ⟨p1, p2, p3⟩ := hf.refit k5
  exact wentry_refit h hO hl e.fl (hf.fl (by omega)) _ _ _ (by omega) (by omega) (by omega)
 rw [if_neg k5, if_neg k5]
 have k6 : e.kind = 6 := by omega
 rw [if_pos k6, if_pos k6]
 have p := hf.pass k6
 exact wentry_pass h hO hl e.fl e.now ⟨p.1, p.2.1, p.2.2⟩
theorem entB_len {now : Int} {e : Ent} (hf : CFit now e) : (entB now e).length ≤ 40 := by
 unfold entB
 have hk := hf.kind
 by_cases k1 : e.kind = 1
 ·rw [if_pos k1]
  obtain ⟨p1, p2, p3, p4⟩ := hf.start k1
  have a := shapeB_len e.pla
  have l0 := numB_two (p4 0).2
  have l1 := numB_two (p4 1).2
  have l2 := numB_two (p4 2).2
  have l3 := numB_two (p4 3).2
  simp only [planeB, List.length_cons, List.length_append]
  simp only [Pla.lim] at l0 l1 l2 l3
  omega
 rw [if_neg k1]
 by_cases k2 : e.kind = 2
 ·rw [if_pos k2]
  have := fillB_len now e.sea
  simp only [List.length_cons]
  omega
 rw [if_neg k2]
 have a := (numB_len ((e.sea.row - 1) * 6 + e.sea.col - 1)).2
 have b := (numB_len ((e.tr - 1) * 6 + e.tc - 1)).2
 have c := shapeB_len e.pla
 have d := (numB_len (e.now - now)).2
 by_cases k3 : e.kind = 3
 ·rw [if_pos k3]
  simp only [placeB, List.length_cons]
  omega
 rw [if_neg k3]
 by_cases k4 : e.kind = 4
 ·rw [if_pos k4]
  simp only [placeB, List.length_cons, List.length_append]
  omega
 rw [if_neg k4]
 by_cases k5 : e.kind = 5
 ·rw [if_pos k5]
  simp only [List.length_cons]
  omega
 rw [if_neg k5, if_pos (by omega)]
 simp only [List.length_cons]
 omega
def isB (b : Int) : Prop := 0 ≤ b ∧ b < 256
theorem all_app {l r : List Int} (h : ∀ b ∈ l, isB b) (h' : ∀ b ∈ r, isB b) : ∀ b ∈ l ++ r, isB b := fun b hb => by
 rcases List.mem_append.1 hb with q | q
 ·exact h b q
 ·exact h' b q
theorem all_cons {a : Int} {r : List Int} (h : isB a) (h' : ∀ b ∈ r, isB b) : ∀ b ∈ a :: r, isB b := fun b hb => by
 rcases List.mem_cons.1 hb with q | q
 ·subst q; exact h
 ·exact h' b q
theorem all_nil : ∀ b ∈ ([] : List Int), isB b := fun b hb => by cases hb
theorem num_isB {x : Int} (h : x < 9223372036854775808) : ∀ b ∈ numB x, isB b := numB_byte h
theorem fillB_byte {now : Int} {s : Sea} (h : SFit now s) : ∀ b ∈ fillB now s, isB b := by
 obtain ⟨h1, h2, h3, h4, h5, h6, h7⟩ := h
 unfold fillB placeB
 refine all_app (all_app (all_app (num_isB (by omega)) (num_isB (by omega))) ?_) ?_
 ·split
  ·exact all_nil
  ·exact num_isB (by omega)
 ·split
  ·rename_i e
   have := h6 e
   exact num_isB (by omega)
  ·exact all_nil
theorem entB_byte {now : Int} {e : Ent} (hf : CFit now e) : ∀ b ∈ entB now e, isB b := by
 unfold entB
 have hk := hf.kind
 have hfl := hf.fl
 by_cases k1 : e.kind = 1
 ·rw [if_pos k1]
  obtain ⟨p1, p2, p3, p4⟩ := hf.start k1
  have l0 := p4 0
  have l1 := p4 1
  have l2 := p4 2
  have l3 := p4 3
  simp only [Pla.lim] at l0 l1 l2 l3
  have := hfl (by omega)
  refine all_cons ⟨by omega, by omega⟩ ?_
  unfold planeB shapeB
  exact all_app (all_app (all_app (all_app (all_app (all_app (num_isB (by omega)) (num_isB (by omega))) (num_isB (by omega))) (num_isB (by omega))) (num_isB (by omega))) (num_isB (by omega))) (num_isB (by omega))
 rw [if_neg k1]
 by_cases k2 : e.kind = 2
 ·rw [if_pos k2]
  have := hfl (by omega)
  exact all_cons ⟨by omega, by omega⟩ (fillB_byte (hf.fill k2))
 rw [if_neg k2]
 by_cases k3 : e.kind = 3
 ·rw [if_pos k3]
  have := hfl (by omega)
  have := hf.at_ (.inl k3)
  exact all_cons ⟨by omega, by omega⟩ (num_isB (by omega))
 rw [if_neg k3]
 by_cases k4 : e.kind = 4
 ·rw [if_pos k4]
  have := hfl (by omega)
  have := hf.at_ (.inr k4)
  have := hf.dest k4
  exact all_cons ⟨by omega, by omega⟩ (all_app (num_isB (by omega)) (num_isB (by omega)))
 rw [if_neg k4]
 by_cases k5 : e.kind = 5
 ·rw [if_pos k5]
  have := hfl (by omega)
  have := hf.refit k5
  exact all_cons ⟨by omega, by omega⟩ (all_app (all_app (num_isB (by omega)) (num_isB (by omega))) (num_isB (by omega)))
 rw [if_neg k5, if_pos (by omega)]
 have := hf.pass (by omega)
 exact all_cons ⟨by omega, by omega⟩ (num_isB (by omega))
theorem rec1_len {now : Int} {e : Ent} (hf : CFit now e) : (recB now [e]).length ≤ 42 := by
 have := entB_len hf
 have h1 : numB (([e] : List Ent).length : Int) = [1] := numB_one (by simp) (by simp)
 unfold recB
 rw [h1]
 simp only [entsB, List.length_append, List.length_cons, List.length_nil, List.append_nil]
 omega
theorem rec1_byte {now : Int} {e : Ent} (hf : CFit now e) : ∀ b ∈ recB now [e], 0 ≤ b ∧ b < 256 := by
 have h1 : numB (([e] : List Ent).length : Int) = [1] := numB_one (by simp) (by simp)
 unfold recB
 rw [h1]
 simp only [entsB, List.append_nil]
 exact all_app (all_app (all_cons ⟨by omega, by omega⟩ all_nil) (entB_byte hf)) (all_cons ⟨by omega, by omega⟩ all_nil)
structure KS where
 tb : Nat
 file : Nat
 torn : Bool
 live : Bool
 T : TP
def flE (n : Nat) (x : Pla × List Sea) : Ent :=
 ⟨n, if x.1.ep = 1 then 1 else 7, x.1, noSea, 0, 0, 0, x.2.filter fun s => s.st != 0⟩
def wholeEs (now : Int) (fl : Nat → Option (Pla × List Sea)) : List Ent :=
 (if 0 < now then [⟨0, 6, ⟨0, 0, 0, 0, 0, 0, 0, 0⟩, noSea, 0, 0, now, []⟩] else []) ++ (List.range 21).filterMap fun n => (fl n).map (flE n)
def wholeK (now : Int) (fl : Nat → Option (Pla × List Sea)) : List Int := if wholeEs now fl = [] then [] else recB 0 (wholeEs now fl)
def layK (K : KS) (r : List Int) : Int × KS :=
 if K.live = false then (17, K) else ((layP K.T K.file r).1, { K with T := (layP K.T K.file r).2, live := (layP K.T K.file r).1 != 16 })
def replaceK (K : KS) (r : List Int) : Int × KS :=
 if K.live = false then (17, K)
 else if K.T.room < (K.T.used : Int) + r.length then (15, K)
 else
  let W := if r = [] then (true, K.T) else writeP K.T (1 - K.file) r
  if W.1 = false then (16, { K with T := W.2, live := false })
  else
   let C := clearP W.2 K.file
   if C.1 = false then (16, { K with T := C.2, live := false }) else (0, { K with T := C.2, file := 1 - K.file, torn := false })
def saveK (K : KS) (whole r : List Int) : Int × KS :=
 if K.torn = true then (if (replaceK K whole).1 = 0 then layK (replaceK K whole).2 r else replaceK K whole) else layK K r
structure KeepT (w : World) (ow : Nat → Nat) (kb : Nat) (now : Int) (pt : Nat → Option Nat) (fl : Nat → Option (Pla × List Sea)) (K : KS) : Prop where
 keep : KeepX w ow kb now pt fl
 ptr : pt 29 = if K.live = true then some K.tb else none
 file : fileN pt = K.file
 torn : tornB pt = K.torn
 tape : TapeH w (fun k => ow k = 30) K.tb K.T
theorem KeepT.mod {w w' : World} {ow : Nat → Nat} {kb : Nat} {now : Int} {pt : Nat → Option Nat} {fl : Nat → Option (Pla × List Sea)} {K : KS} {S : Nat → Prop} (h : KeepT w ow kb now pt fl K) (hm : Mod S w w') (hs : ∀ k, ow k ≠ 0 → ¬ S k) : KeepT w' ow kb now pt fl K := by
 have hx := h.keep
 refine ⟨⟨hm.has hx.has (hs _ (by rw [hx.mine]; omega)), hx.mine, fun k hk => Nat.lt_of_lt_of_le (hx.old k hk) hm.size, hx.gone, fun n p l hn hf => ?_⟩, h.ptr, h.file, h.torn, h.tape.mod hm (fun k hk => hs k (by omega))⟩
 obtain ⟨b, h1, h2, h3⟩ := hx.here n p l hn hf
 exact ⟨b, h1, h2, h3.mod hm (fun k hk => hs k (by omega))⟩
theorem KeepT.mod0 {w w' : World} {ow : Nat → Nat} {kb : Nat} {now : Int} {pt : Nat → Option Nat} {fl : Nat → Option (Pla × List Sea)} {K : KS} (h : KeepT w ow kb now pt fl K) (hm : Mod No w w') : KeepT w' ow kb now pt fl K := h.mod hm (fun _ _ x => x)
theorem keep_s0 (now : Int) (pt : Nat → Option Nat) : (keepCells now pt)[30]? = some (pv (pt 29)) := rfl
theorem keep_s1 (now : Int) (pt : Nat → Option Nat) : (keepCells now pt)[31]? = some (.int .i64 (fileN pt)) := rfl
theorem keep_s2 (now : Int) (pt : Nat → Option Nat) : (keepCells now pt)[32]? = some (.bool (tornB pt)) := rfl
def clrP (pt : Nat → Option Nat) : Nat → Option Nat := fun j => if j = 29 then none else pt j
theorem keep_clr (now : Int) (pt : Nat → Option Nat) : (keepCells now pt).setIfInBounds 30 (.pointer none) = keepCells now (clrP pt) := rfl
def ptOf (pt : Nat → Option Nat) (e : Int) : Nat → Option Nat := if e = 16 then clrP pt else pt
theorem ptOf_eq (pt : Nat → Option Nat) (e : Int) (j : Nat) (hj : j ≠ 29) : ptOf pt e j = pt j := by
 unfold ptOf clrP
 split
 ·exact if_neg hj
 ·rfl
def owT (ow : Nat → Nat) (n m : Nat) : Nat → Nat := fun k => if k < n then ow k else if k < m then 30 else 0
theorem KeepX.ow {w : World} {ow ow' : Nat → Nat} {kb : Nat} {now : Int} {pt : Nat → Option Nat} {fl : Nat → Option (Pla × List Sea)} (h : KeepX w ow kb now pt fl) (n : Nat) (hn : ∀ k, k < n → ow' k = ow k) (hl : ∀ k, ow k ≠ 0 → k < n) (ho : ∀ k, ow' k ≠ 0 → k < w.heap.size) : KeepX w ow' kb now pt fl := by
 refine ⟨h.has, ?_, ho, h.gone, fun m p l hm hf => ?_⟩
 ·rw [hn kb (hl kb (by rw [h.mine]; omega))]; exact h.mine
 ·obtain ⟨b, h1, h2, h3⟩ := h.here m p l hm hf
  exact ⟨b, h1, h2, h3.wide (fun k hk => by rw [hn k (hl k (by omega))]; exact hk)⟩
theorem KeepT.laid {w w' : World} {ow : Nat → Nat} {kb : Nat} {now : Int} {pt : Nat → Option Nat} {fl : Nat → Option (Pla × List Sea)} {K : KS} {n : Nat} {e : Int} {T' : TP} (h : KeepT w ow kb now pt fl K) (hn : w.heap.size ≤ n) (hw : w'.heap.size ≥ n) (hlive : K.live = true)
  (ht : TapeH w' (fun k => ow k = 30 ∨ n ≤ k) K.tb T') (hh : Has w' kb (if e = 16 then (keepCells now pt).setIfInBounds 30 (.pointer none) else keepCells now pt) 121) (hm : Mod (fun k => ow k = 30 ∨ k = kb) w w') :
  KeepT w' (owT ow n w'.heap.size) kb now (ptOf pt e) fl { K with T := T', live := e != 16 } ∧ (∀ k, k < w.heap.size → owT ow n w'.heap.size k = ow k) ∧ Mod (fun k => ow k ≠ 0) w w' := by
 have hx := h.keep
 have hold : ∀ k, ow k ≠ 0 → k < n := fun k hk => Nat.lt_of_lt_of_le (hx.old k hk) hn
 have hk' : keepCells now (ptOf pt e) = (if e = 16 then (keepCells now pt).setIfInBounds 30 (.pointer none) else keepCells now pt) := by
  unfold ptOf
  split
  ·rw [keep_clr]
  ·rfl
 refine ⟨⟨?_, ?_, ?_, ?_, ?_⟩, fun k hk => if_pos (by omega), hm.mono (fun k _ q => by
  rcases q with q | q
  ·show ow k ≠ 0; omega
  ·show ow k ≠ 0; rw [q, hx.mine]; omega)⟩
 ·have hx' : KeepX w' ow kb now (ptOf pt e) fl := by
   refine ⟨by rw [hk']; exact hh, hx.mine, fun k hk => Nat.lt_of_lt_of_le (hx.old k hk) hm.size, fun j hj hf => by rw [ptOf_eq pt e j (by omega)]; exact hx.gone j hj hf, fun j p l hj hf => ?_⟩
   obtain ⟨b, h1, h2, h3⟩ := hx.here j p l hj hf
   refine ⟨b, by rw [ptOf_eq pt e j (by omega)]; exact h1, h2, h3.mod hm (fun k hk q => ?_)⟩
   rcases q with q | q
   ·omega
   ·rw [q, hx.mine] at hk; omega
  refine hx'.ow n (fun k hk => if_pos hk) hold (fun k hk => ?_)
  unfold owT at hk
  split at hk
  ·omega
  ·split at hk
   ·assumption
   ·exact absurd rfl hk
 ·unfold ptOf clrP
  by_cases he : e = 16
  ·rw [if_pos he, if_pos rfl]
   simp [he]
  ·rw [if_neg he, h.ptr, if_pos hlive]
   simp [he]
 ·have := h.file
  unfold fileN at this ⊢
  rw [ptOf_eq pt e 30 (by omega)]
  exact this
 ·have := h.torn
  unfold tornB at this ⊢
  rw [ptOf_eq pt e 31 (by omega)]
  exact this
 ·refine ht.narrow.wide (fun k ⟨hk, hl⟩ => ?_)
  show owT ow n w'.heap.size k = 30
  unfold owT
  rcases hk with hk | hk
  ·rw [if_pos (hold k (by omega))]; exact hk
  ·rw [if_neg (by omega), if_pos hl]
def betP (n m s t : Nat) : Bool := decide (0 < n) && (decide (m = 0) || decide (s < t))
def foundV (i : Int) (s : Nat) (v : Value) (all : Bool) : Value := .agg #[.int .i64 i, .int .i64 s, v, .bool all]
theorem better_any (w : World) (i j : Int) (s t n m c d : Nat) (a b : Option Addr) (x y : Bool) :
  Calls Tryz.prog 70 #[foundV i s (.slice a n c) x, foundV j t (.slice b m d) y] w fun e w' => e = .returned (.bool (betP n m s t)) ∧ Mod No w w' := by
 have M0 := hide (((Mod.refl No w).alloc (.cells #[.int .i64 i, .int .i64 s, .slice a n c, .bool x] 155)).alloc (.cells #[.int .i64 j, .int .i64 t, .slice b m d, .bool y] 155))
 unfold foundV betP
 by_cases h1 : 0 < n
 case neg =>
  obtain rfl : n = 0 := by omega
  go_enter Tryz.func70, Tryz.ntmps70
  go_wp2
  go_ret
  exact ⟨rfl, unhide M0⟩
 have h1i : (0 : Int) < n := by omega
 have hd : decide (0 < n) = true := by simpa using h1
 rw [hd]
 clear hd
 by_cases h2 : m = 0
 ·subst h2
  go_enter Tryz.func70, Tryz.ntmps70
  go_wp2
  go_ret
  exact ⟨rfl, unhide M0⟩
 have h2i : ((m : Int) == 0) = false := by simp; omega
 have hd : decide (m = 0) = false := by simpa using h2
 rw [hd]
 clear hd
 by_cases h3 : s < t
 ·have h3i : (s : Int) < t := by omega
  have hd : decide (s < t) = true := by simpa using h3
  rw [hd]
  clear hd
  go_enter Tryz.func70, Tryz.ntmps70
  go_wp2
  go_ret
  exact ⟨rfl, unhide M0⟩
 ·have h3i : ¬ (s : Int) < t := by omega
  have hd : decide (s < t) = false := by simpa using h3
  rw [hd]
  clear hd
  go_enter Tryz.func70, Tryz.ntmps70
  go_wp2
  go_ret
  exact ⟨rfl, unhide M0⟩
theorem post_w {P : Program} {f : Func} {post : Ending → World → Prop} {ex : Exit} {a : Act} {w : World} (R : World → Prop) (h : R w) (k : ∀ w, R w → bodyPost P f post ex a w) : bodyPost P f post ex a w := k w h
theorem sfind_any {w : World} {S : Nat → Prop} {tb : Nat} {T : TP} (ht : TapeH w S tb T) (i : Nat) (hi : i < 4) (n : Nat) (all : Bool) (Q : Nat → Nat → Value → World → Prop)
  (hR : ∀ W v, Mod No w W → W.ownsRow 0 5 1 v (T.b i).length (u8s (T.b i)) → Calls Tryz.prog 94 #[v] W fun e w' => ∃ a c, e = .returned (.tuple #[.slice a n c, .bool all]) ∧ Q W.heap.size w'.heap.size (.slice a n c) w' ∧ Mod No W w')
  (hQ : ∀ l h v W W', Q l h v W → Mod (fun k => k < l ∨ h ≤ k) W W' → Q l h v W') (hQm : ∀ l l' h h' v W, l ≤ l' → h' ≤ h → Q l' h' v W → Q l h v W) :
  Calls Tryz.prog 69 #[.pointer (some ⟨tb, 0, none⟩), .int .i64 i] w fun e w' => ∃ a c, e = .returned (foundV i (T.b i).length (.slice a n c) all) ∧ Q w.heap.size w'.heap.size (.slice a n c) w' ∧ Mod No w w' := by
 have m0 : Mod No w (w.alloc (.cells #[.int .i64 0, .int .i64 0, .slice none 0 0, .bool false] 155)) := (Mod.refl _ _).alloc _
 have B0 := hide (Has.new w #[.int .i64 0, .int .i64 0, .slice none 0 0, .bool false] 155)
 have HR := hide (read_t (ht.mod0 m0) i hi)
 have M0 := hide m0
 have HQ := hide hQ
 have HQM := hide hQm
 have hsz0 : w.heap.size + 1 ≤ (w.alloc (.cells #[.int .i64 0, .int .i64 0, .slice none 0 0, .bool false] 155)).heap.size := by simp
 have HRR := hide hR
 have hlen := (ht.last i hi).2
 unfold foundV
 clear ht m0 hQ hR hQm
 generalize hL : (T.b i).length = L at *
 have HL := hide hL
 clear hL
 go_enter Tryz.func69, Tryz.ntmps69
 go_wp2_with fail
 refine (unhide HR).mono ?_
 rintro e w1 ⟨v1, rfl, ho1, hs1, m1⟩
 have M1 := hide ((unhide M0).trans m1)
 have HR2 := hide ((unhide HRR) w1 v1 (unhide M1) ho1)
 obtain ⟨a1, c1, rfl⟩ := slice_of_owns ho1
 have B1 := hide (m1.has (unhide B0) (fun x => x))
 have HZ1 := hide (Nat.le_trans hsz0 m1.size)
 clear ho1 hs1 m1 HR
 go_wp2_with fail
 refine (unhide HR2).mono ?_
 rintro e w2 ⟨a2, c2, rfl, q2, m2⟩
 have b2 := m2.has (unhide B1) (fun x => x)
 have d0 : w2.cell? ⟨w.heap.size, 0, none⟩ = some (.int .i64 0) := b2.cell 0
 have d1 : w2.cell? ⟨w.heap.size, 1, none⟩ = some (.int .i64 0) := b2.cell 1
 have d2 : w2.cell? ⟨w.heap.size, 2, none⟩ = some (.slice none 0 0) := b2.cell 2
 have d3 : w2.cell? ⟨w.heap.size, 3, none⟩ = some (.bool false) := b2.cell 3
 have df := b2.frozen
 have dl := b2.lt
 have B2 := hide b2
 have Q2 := hide q2
 have M2 := hide ((unhide M1).trans m2)
 clear q2 m2 HR2 b2
 go_wp2
 refine post_w (fun W => Has W w.heap.size #[.int .i64 i, .int .i64 L, .slice a2 n c2, .bool all] 155 ∧ Q w.heap.size W.heap.size (.slice a2 n c2) W ∧ Mod No w W) ?_ ?_
 ·have q := ((((unhide B2).set 0 (.int .i64 i)).set 1 (.int .i64 L)).set 2 (.slice a2 n c2)).set 3 (.bool all)
  have hp : ∀ (o : Nat), No (⟨w.heap.size, o, none⟩ : Addr).block ∨ w.heap.size ≤ (⟨w.heap.size, o, none⟩ : Addr).block := fun o => .inr (Nat.le_refl _)
  have hq : ∀ (o : Nat), (fun k => k < w1.heap.size ∨ w2.heap.size ≤ k) (⟨w.heap.size, o, none⟩ : Addr).block ∨ w2.heap.size ≤ (⟨w.heap.size, o, none⟩ : Addr).block := fun o => .inl (.inl (by show w.heap.size < w1.heap.size; have := unhide HZ1; omega))
  refine ⟨q, (unhide HQM) _ w1.heap.size _ w2.heap.size _ _ (by have := unhide HZ1; omega) (by simp) ((unhide HQ) _ _ _ _ _ (unhide Q2) ?_), ((((unhide M2).setCell (hp 0) _).setCell (hp 1) _).setCell (hp 2) _).setCell (hp 3) _⟩
  exact ((((Mod.refl _ w2).setCell (hq 0) _).setCell (hq 1) _).setCell (hq 2) _).setCell (hq 3) _
 ·intro w3 ⟨h3, q3, m3⟩
  have d0 : w3.cell? ⟨w.heap.size, 0, none⟩ = some (.int .i64 i) := h3.cell 0
  have d1 : w3.cell? ⟨w.heap.size, 1, none⟩ = some (.int .i64 L) := h3.cell 1
  have d2 : w3.cell? ⟨w.heap.size, 2, none⟩ = some (.slice a2 n c2) := h3.cell 2
  have d3 : w3.cell? ⟨w.heap.size, 3, none⟩ = some (.bool all) := h3.cell 3
  refine bodyPost_ret (by simp [results, Tryz.results69, go_sem, d0, d1, d2, d3]; try rfl) rfl ?_
  exact ⟨a2, c2, rfl, q3, m3⟩
end Go.Proofs.YthhibagcpjeihaaGreat
