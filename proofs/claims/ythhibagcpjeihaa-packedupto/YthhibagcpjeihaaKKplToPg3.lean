import Derived.Test.YthhibagcpjeihaaKDsk3ToDsk5
import Derived.Test.YthhibagcpjeihaaKKeepGToPTape2
import Derived.Test.YthhibagcpjeihaaKOpenToWw1
import Derived.Handy
import Derived.Test.YthhibagcpjeihaaKRd3ToSeat
import Derived.Test.YthhibagcpjeihaaKReckonToPut2
import Derived.Test.YthhibagcpjeihaaKBaseToAppend
import Derived.OwnWalk
import Derived.Deep.MidRow
import Derived.Test.YthhibagcpjeihaaKSwap2ToWr2
namespace Go.Proofs.Ythhibagcpjeihaa
open Go.RowKit
open M
set_option linter.unusedVariables false
set_option linter.unusedSimpArgs false
set_option maxRecDepth 100000
theorem burnt_neg {f : Int} (h : f < 0) : burnt f < 0 := by unfold burnt; rw [if_neg (by omega)]; exact h
theorem append_neg {T : TP} (i : Nat) (r : List Int) (h : T.fuse < 0) : (appendP T i r).2.fuse < 0 := by
 unfold appendP
 repeat' split
 all_goals first | exact h | exact burnt_neg h
theorem sync_neg {T : TP} (i : Nat) (h : T.fuse < 0) : (syncP T i).2.fuse < 0 := by
 unfold syncP
 split
 ·exact h
 ·exact burnt_neg h
theorem clear_neg {T : TP} (i : Nat) (h : T.fuse < 0) : (clearP T i).2.fuse < 0 := by
 unfold clearP
 split
 ·exact h
 ·exact burnt_neg h
theorem write_neg {T : TP} (i : Nat) (r : List Int) (h : T.fuse < 0) : (writeP T i r).2.fuse < 0 := by
 unfold writeP
 split
 ·exact sync_neg i (append_neg i r h)
 ·exact append_neg i r h
theorem lay_neg {T : TP} (i : Nat) (r : List Int) (h : T.fuse < 0) : (layP T i r).2.fuse < 0 := by
 unfold layP
 repeat' split
 ·exact h
 ·exact write_neg i r h
 ·exact write_neg i r h
theorem rep_neg {T : TP} (i : Nat) (r : List Int) (h : T.fuse < 0) : (repP T i r).2.fuse < 0 := by
 unfold repP
 have hw : (if r = [] then (true, T) else writeP T (1 - i) r).2.fuse < 0 := by
  split
  ·exact h
  ·exact write_neg _ r h
 generalize (if r = [] then (true, T) else writeP T (1 - i) r) = W at *
 by_cases h1 : T.room < (T.used : Int) + r.length
 ·rw [if_pos h1]; exact h
 rw [if_neg h1]
 dsimp only
 by_cases h2 : W.1 = false
 ·rw [if_pos h2]; exact hw
 rw [if_neg h2]
 by_cases h3 : (clearP W.2 i).1 = false
 ·rw [if_pos h3]; exact clear_neg i hw
 ·rw [if_neg h3]; exact clear_neg i hw
theorem layK_neg {K : KS} (r : List Int) (h : K.T.fuse < 0) : (layK K r).2.T.fuse < 0 := by
 unfold layK
 split
 ·exact h
 ·exact lay_neg _ r h
theorem saveK_neg {K : KS} (a r : List Int) (h : K.T.fuse < 0) : (saveK K a r).2.T.fuse < 0 := by
 have hr : (replaceK K a).2.T.fuse < 0 := by
  by_cases hl : K.live = true
  ·rw [replaceK_eq hl]
   exact rep_neg _ a h
  ·unfold replaceK
   rw [if_pos (by simpa using hl)]
   exact h
 unfold saveK
 repeat' split
 ·exact layK_neg r hr
 ·exact hr
 ·exact layK_neg r h
theorem packK_neg {K : KS} {now : Int} {fl : Fls} (h : K.T.fuse < 0) : (packK now fl K).2.T.fuse < 0 := by
 unfold packK
 repeat' split
 ·exact h
 ·exact h
 ·exact rep_neg _ _ h
theorem open_neg {T : TP} (h : T.fuse < 0) : (openT T).2.fuse < 0 := by
 unfold openT openP
 have hA : (if 0 < (T.b (keptI T)).length then syncP T (keptI T) else (true, T)).2.fuse < 0 := by
  split
  ·exact sync_neg _ h
  ·exact h
 generalize (if 0 < (T.b (keptI T)).length then syncP T (keptI T) else (true, T)) = A at *
 dsimp only
 by_cases h2 : A.1 = false
 ·rw [if_pos h2]; exact hA
 rw [if_neg h2]
 have hB : (if 0 < (T.b (1 - keptI T)).length then clearP A.2 (1 - keptI T) else (true, A.2)).2.fuse < 0 := by
  split
  ·exact clear_neg _ hA
  ·exact hA
 generalize (if 0 < (T.b (1 - keptI T)).length then clearP A.2 (1 - keptI T) else (true, A.2)) = B at *
 by_cases h3 : B.1 = false
 ·rw [if_pos h3]; exact hB
 ·rw [if_neg h3]; exact hB
theorem wtF_le {N now : Int} {fl : Fls} (h : FlOk N now fl) : ∀ k, wtF fl k ≤ 200 + 4000 * k
 | 0 => by unfold wtF; omega
 | k + 1 => by
  have := wtF_le h k
  unfold wtF
  split
  ·omega
  ·rename_i x hx
   have hl : x.2.length ≤ 120 := Fli.wf.len_le (h.wf k x.1 x.2 hx)
   have hn : nFull x.2 ≤ x.2.length := by unfold nFull; exact List.countP_le_length
   show wtF fl k + (60 + 30 * (nFull x.2 : Int)) ≤ 200 + 4000 * ((k + 1 : Nat) : Int)
   omega
theorem whole_100 {N now : Int} {fl : Fls} (h : FlOk N now fl) : ((wholeK now fl).length : Int) ≤ 100000 := by
 have := wholeK_short h
 have := wtF_le h 21
 omega
structure KpL (w : World) (ow : Nat → Nat) (kb : Nat) (now : Int) (fl : Fls) (K : KS) (N : Nat) : Prop where
 keep : ∃ pt, KeepT w ow kb now pt fl K
 live : K.live = true
 disk : DiskL K.T K.file K.torn now fl (100000 + 60 * N)
 ok : FlOk N now fl
 room : K.T.room = 1099511627776
 few : N ≤ 1000000000
structure KpC (w : World) (S : Nat → Prop) (tb : Nat) (T : TP) (now : Int) (fl : Fls) (mb : Option (Int × Fls)) (N : Nat) : Prop where
 tape : TapeH w S tb T
 disk : DiskC T now fl mb (100000 + 60 * N) 100000
 ok : FlOk N now fl
 may : ∀ n f, mb = some (n, f) → FlOk N n f
 room : T.room = 1099511627776
 few : N ≤ 1000000000
theorem KpL.mod {w w' : World} {ow : Nat → Nat} {kb N : Nat} {now : Int} {fl : Fls} {K : KS} {S : Nat → Prop} (h : KpL w ow kb now fl K N) (hm : Mod S w w') (hs : ∀ k, ow k ≠ 0 → ¬ S k) : KpL w' ow kb now fl K N := by
 obtain ⟨⟨pt, h1⟩, h2, h3, h4, h5, h6⟩ := h
 exact ⟨⟨pt, h1.mod hm hs⟩, h2, h3, h4, h5, h6⟩
theorem KpL.toH {w : World} {ow : Nat → Nat} {kb N : Nat} {now : Int} {fl : Fls} {K : KS} (h : KpL w ow kb now fl K N) : KeepH w ow kb now fl := by
 obtain ⟨pt, h1⟩ := h.keep
 exact ⟨pt, h1.keep⟩
theorem KpL.more {w : World} {ow : Nat → Nat} {kb N M : Nat} {now : Int} {fl : Fls} {K : KS} (h : KpL w ow kb now fl K N) (hM : N ≤ M) (hb : M ≤ 1000000000) : KpL w ow kb now fl K M :=
 ⟨h.keep, h.live, h.disk.more (by omega), h.ok.more (by omega) (by omega), h.room, hb⟩
theorem KpL.last {w : World} {ow : Nat → Nat} {kb N : Nat} {now : Int} {fl : Fls} {K : KS} (h : KpL w ow kb now fl K N) : ∀ i, i < 4 → K.T.last i ≤ (K.T.b i).length := by
 obtain ⟨pt, h1⟩ := h.keep
 exact fun i hi => (h1.tape.last i hi).1
theorem KpL.roomW {w : World} {ow : Nat → Nat} {kb N : Nat} {now : Int} {fl : Fls} {K : KS} (h : KpL w ow kb now fl K N) : RoomW now fl K := by
 have hw := whole_100 h.ok
 exact ⟨h.ok.rng 0 (.inl rfl), wholeEs_fit h.ok, wholeK_byte h.ok, h.disk.hf, by rw [h.disk.oth]; simp only [List.length_nil]; omega⟩
theorem KpL.time {w : World} {ow : Nat → Nat} {kb N : Nat} {now : Int} {fl : Fls} {K : KS} (h : KpL w ow kb now fl K N) : 0 ≤ now ∧ now ≤ 4611686018427387000 := by
 have := h.ok.time
 have := h.few
 omega
theorem KpL.close {w : World} {ow : Nat → Nat} {kb N : Nat} {now : Int} {fl : Fls} {K : KS} (h : KpL w ow kb now fl K N) : KpC w (fun k => ow k = 30) K.tb K.T now fl none N := by
 obtain ⟨pt, h1⟩ := h.keep
 exact ⟨h1.tape, h.disk.close (by omega) none, h.ok, fun n f e => (by cases e), h.room, h.few⟩
theorem seatErr_le12 (p : Pla) (l : List Sea) (c : Cmd) (now : Int) : seatErr p l c now ≤ 12 := by
 unfold seatErr saleN ownerN buyer
 repeat' split
 all_goals omega
theorem doK_le12 (now : Int) (fl : Nat → Option (Pla × List Sea)) (c : Cmd) : (doK now fl c).1 ≤ 12 := by
 unfold doK
 repeat' split
 all_goals first | omega | (simp only; omega) | exact seatErr_le12 _ _ _ _
structure KpD (w w' : World) (ow : Nat → Nat) (kb : Nat) (now : Int) (fl : Fls) (K : KS) (N : Nat) (c : Cmd) (e : Int) : Prop where
 mod : Mod (fun k => ow k ≠ 0) w w'
 yes : e ≠ 16 → e = (doK now fl c).1 ∧ ∃ (ow' : Nat → Nat) (K' : KS), KpL w' ow' kb (doK now fl c).2.1 (doK now fl c).2.2 K' (N + 1) ∧ (∀ k, k < w.heap.size → ow' k = ow k) ∧ K'.tb = K.tb ∧ (K.T.fuse < 0 → K'.T.fuse < 0)
 no : e = 16 → 0 ≤ K.T.fuse ∧ (doK now fl c).1 = 0 ∧ ∃ (ow' : Nat → Nat) (T' : TP), KpC w' (fun k => ow' k = 30) K.tb T' now fl (some (doK now fl c).2) (N + 1) ∧ (∀ k, k < w.heap.size → ow' k = ow k) ∧ T'.fuse = 0
theorem kp_do {w : World} {ow : Nat → Nat} {kb N : Nat} {now : Int} {fl : Fls} {K : KS} (h : KpL w ow kb now fl K N) (hN : N + 1 ≤ 1000000000) (c : Cmd) :
  Calls Try.prog 26 #[.pointer (some ⟨kb, 0, none⟩), .agg (cmdCells c)] w fun e w' => ∃ e', e = .returned (.int .i64 e') ∧ KpD w w' ow kb now fl K N c e' := by
 have hR := h.roomW
 have hT := h.time
 have hL := h.last
 have hsz := h.disk.size
 obtain ⟨pt, h1⟩ := h.keep
 refine (do_T h1 hT hR (by have := h.few; omega) c).mono ?_
 rintro e w' ⟨rfl, ⟨⟨ow', pt', q1, q2, q3⟩, q4⟩⟩
 have hF := h.ok
 have hfew := h.few
 have hC := whole_100 hF
 unfold doT at q1 ⊢
 by_cases hz : (doK now fl c).1 = 0
 case neg =>
  rw [if_pos hz] at q1 ⊢
  have h2e : (doK now fl c).2 = (now, fl) := by
   have := hz
   unfold doK at this ⊢
   repeat' split
   all_goals first | rfl | (exfalso; simp_all; done)
  have n16 : (doK now fl c).1 ≠ 16 := by have := doK_le12 now fl c; omega
  refine ⟨_, rfl, q4, fun _ => ⟨rfl, ow', K, ?_, q2, rfl, fun x => x⟩, fun e => absurd e n16⟩
  rw [h2e]
  exact (⟨⟨pt', q1⟩, h.live, h.disk, h.ok, h.room, h.few⟩ : KpL w' ow' kb now fl K N).more (by omega) hN
 rw [if_neg (by simpa using hz)] at q1 ⊢
 have hneg := saveK_neg (K := K) (wholeK now fl) (recB now [entOf now c])
 have hd : doK now fl c = (0, (doK now fl c).2.1, (doK now fl c).2.2) := by rw [← hz]
 obtain ⟨n', f', hd⟩ : ∃ n' f', doK now fl c = (0, n', f') := ⟨_, _, hd⟩
 rw [hd] at q1 ⊢
 have hsv := save_disk (C := 100000) h.disk h.live hF hd hC (by omega) hL
 have hF' := hF.step hd (by omega)
 generalize saveK K (wholeK now fl) (recB now [entOf now c]) = R at *
 obtain ⟨r, K'⟩ := R
 simp only at hsv hneg q1 ⊢
 have hroom := h.room
 rcases hsv.err with h0 | h0 | h0
 ·rw [if_pos h0] at q1 ⊢
  obtain ⟨s1, s2⟩ := hsv.ok h0
  refine ⟨_, rfl, q4, fun _ => ?_, fun e => (by cases e)⟩
  rw [hd]
  exact ⟨rfl, ow', K', ⟨⟨pt', q1⟩, s1, s2.more (by omega), hF'.more (by omega) (by omega), hsv.room.trans hroom, hN⟩, q2, hsv.tb, hneg⟩
 ·obtain ⟨_, _, s3⟩ := hsv.space h0
  rw [hroom] at s3
  omega
 ·rw [if_neg (by omega)] at q1 ⊢
  obtain ⟨s1, s2, s3⟩ := hsv.dead h0
  refine ⟨_, rfl, q4, fun e => absurd h0 e, fun _ => ?_⟩
  rw [hd]
  refine ⟨?_, rfl, ow', K'.T, ⟨?_, s3.more (by omega) (by omega), hF.more (by omega) (by omega), fun n f e => ?_, hsv.room.trans hroom, hN⟩, q2, s2⟩
  ·by_cases hq : K.T.fuse < 0
   ·have := hneg hq; omega
   ·omega
  ·have := q1.tape
   rw [hsv.tb] at this
   exact this
  ·injection e with e
   injection e with e1 e2
   subst e1; subst e2
   exact hF'.more (by omega) (by omega)
structure KpP (w w' : World) (ow : Nat → Nat) (kb : Nat) (now : Int) (fl : Fls) (K : KS) (N : Nat) (e : Int) : Prop where
 mod : Mod (fun k => ow k ≠ 0) w w'
 err : e = 0 ∨ e = 16
 yes : e = 0 → ∃ (ow' : Nat → Nat) (K' : KS), KpL w' ow' kb now fl K' N ∧ (∀ k, k < w.heap.size → ow' k = ow k) ∧ K'.tb = K.tb ∧ (K.T.fuse < 0 → K'.T.fuse < 0)
 no : e = 16 → 0 ≤ K.T.fuse ∧ ∃ (ow' : Nat → Nat) (T' : TP), KpC w' (fun k => ow' k = 30) K.tb T' now fl none N ∧ (∀ k, k < w.heap.size → ow' k = ow k) ∧ T'.fuse = 0
theorem kp_pack {w : World} {ow : Nat → Nat} {kb N : Nat} {now : Int} {fl : Fls} {K : KS} (h : KpL w ow kb now fl K N) :
  Calls Try.prog 36 #[.pointer (some ⟨kb, 0, none⟩)] w fun e w' => ∃ e', e = .returned (.int .i64 e') ∧ KpP w w' ow kb now fl K N e' := by
 have hR := h.roomW
 have hL := h.last
 have hF := h.ok
 have hfew := h.few
 have hroom := h.room
 have hC := whole_100 hF
 have hneg := packK_neg (K := K) (now := now) (fl := fl)
 have hsv := pack_disk (C := 100000) h.disk h.live hF hC hL
 obtain ⟨pt, h1⟩ := h.keep
 refine (pack_any h1 hR).mono ?_
 rintro e w' ⟨rfl, ⟨ow', pt', q1, q2, q3⟩, q4⟩
 refine ⟨_, rfl, ?_⟩
 generalize packK now fl K = R at *
 obtain ⟨r, K'⟩ := R
 simp only at hsv hneg q1 ⊢
 rcases hsv.err with h0 | h0 | h0
 ·obtain ⟨s1, s2⟩ := hsv.ok h0
  exact ⟨q4, .inl h0, fun _ => ⟨ow', K', ⟨⟨pt', q1⟩, s1, s2.more (by omega), hF, hsv.room.trans hroom, hfew⟩, q2, hsv.tb, hneg⟩, fun e => by omega⟩
 ·obtain ⟨_, _, s3⟩ := hsv.space h0
  rw [hroom] at s3
  omega
 ·obtain ⟨s1, s2, s3⟩ := hsv.dead h0
  refine ⟨q4, .inr h0, fun e => by omega, fun _ => ⟨?_, ow', K'.T, ⟨?_, s3 none, hF, fun n f e => (by cases e), hsv.room.trans hroom, hfew⟩, q2, s2⟩⟩
  ·by_cases hq : K.T.fuse < 0
   ·have := hneg hq; omega
   ·omega
  ·have := q1.tape
   rw [hsv.tb] at this
   exact this
structure KpO (w w' : World) (sw : Nat → Nat) (tb : Nat) (N : Nat) (now : Int) (fl : Fls) (mb : Option (Int × Fls)) (kb : Nat) (nw : Int) (fw : Fls) : Prop where
 which : (nw = now ∧ fw = fl) ∨ mb = some (nw, fw)
 keep : ∃ (ow : Nat → Nat) (K : KS), KpL w' ow kb nw fw K N ∧ (∀ k, k < w.heap.size → ow k = if sw k = 30 then 30 else 0) ∧ K.tb = tb ∧ K.T.fuse < 0
 new : w.heap.size ≤ kb
 mod : Mod (fun k => sw k = 30) w w'
theorem kp_open {w : World} {sw : Nat → Nat} {tb N : Nat} {T : TP} {now : Int} {fl : Fls} {mb : Option (Int × Fls)} (h : KpC w (fun k => sw k = 30) tb T now fl mb N) (hS : ∀ k, sw k = 30 → k < w.heap.size) (hneg : T.fuse < 0) :
  ∃ nw fw, ((nw = now ∧ fw = fl) ∨ mb = some (nw, fw)) ∧ Calls Try.prog 33 #[.pointer (some ⟨tb, 0, none⟩)] w fun e w' => ∃ kb, e = .returned (.tuple #[.pointer (some ⟨kb, 0, none⟩), .int .i64 0]) ∧ KpO w w' sw tb N now fl mb kb nw fw := by
 have hL := fun i (hi : i < 4) => (h.tape.last i hi).1
 have hfew := h.few
 obtain ⟨nw, fw, hw, hD⟩ := h.disk.opens h.ok hL (by omega)
 have hF : FlOk N nw fw := by
  rcases hw with ⟨rfl, rfl⟩ | e
  ·exact h.ok
  ·exact h.may _ _ e
 have hlen : ∀ i, i < 2 → (T.b i).length ≤ 1099511627776 := by
  obtain ⟨f, rs, t, hm, hB, hC, _⟩ := h.disk.ex
  have := hm.hf
  intro i hi
  by_cases e : i = f
  ·subst e; omega
  ·have : i = 1 - f := by omega
   subst this; omega
 have hng := open_neg hneg
 refine ⟨nw, fw, hw, (open_any h.tape hS (by rw [h.room]; omega) (hlen 0 (by omega)) (hlen 1 (by omega)) (by have := hF.time; omega) hD.play).mono ?_⟩
 rintro e w' ⟨h1, h2⟩
 by_cases hz : (openT T).1 = 0
 ·obtain ⟨kb, rfl, ⟨ow, pt, q1, q2, q3⟩, q4, q5⟩ := h1 hz
  exact ⟨kb, rfl, hw, ⟨ow, _, ⟨⟨pt, q1⟩, rfl, hD.ok hz, hF, hD.room.trans h.room, hfew⟩, q2, rfl, hng⟩, q4, q5⟩
 ·have := (hD.dead hz).2.1
  omega
theorem kp_copy {w : World} {S : Nat → Prop} {tb N : Nat} {T : TP} {now : Int} {fl : Fls} {mb : Option (Int × Fls)} (h : KpC w S tb T now fl mb N) :
  Calls Try.prog 32 #[.pointer (some ⟨tb, 0, none⟩)] w fun e w' => ∃ g : Nat, e = .returned (.pointer (some ⟨g, 0, none⟩)) ∧ Mod No w w' ∧ w.heap.size ≤ g ∧ g < w'.heap.size ∧ KpC w' (fun k => (if w.heap.size ≤ k ∧ k < w'.heap.size then 30 else 0) = 30) g T now fl mb N := by
 refine (copy_t h.tape).mono ?_
 rintro e w' ⟨g, q1, q2, q3, q4⟩
 exact ⟨g, q1, q4, q2, q3.lt, ⟨q3.narrow.wide (fun k hk => if_pos hk), h.disk, h.ok, h.may, h.room, h.few⟩⟩
open Go.ChangeMaps (setBlock)
set_option maxHeartbeats 2000000
def p0 : Pla := ⟨4, 3, 2, 10, 8, 5, 1, 1⟩
def addC : Cmd := ⟨1, 1, 0, 0, 0, 0, 0, 0, 0, p0⟩
def fl0 : Nat → Option (Pla × List Sea) := fun j => if j = 1 then some (p0, emptySeats p0) else none
theorem doK_begun : doK 0 noFl addC = (0, 0, fl0) := by
 unfold doK
 rw [if_neg (by decide), if_neg (by decide), if_neg (by decide)]
 simp only [noFl]
 rw [if_pos (by decide), if_pos (by decide)]
 rfl
theorem left_begun0 : leftK fl0 1 0 = (9, 0) := by decide +kernel
theorem left_begun2 : leftK fl0 1 2 = (5, 0) := by decide +kernel
def tape0 : Array Value := (⟨⟨.slice none 0 0, [], 0⟩, ⟨.slice none 0 0, [], 0⟩, ⟨.slice none 0 0, [], 0⟩, ⟨.slice none 0 0, [], 0⟩, 1099511627776, -1⟩ : TTape).cells
theorem first_any (w : World) : Calls Try.prog 16 #[] w fun e w' => ∃ cs, cs.size = 84 ∧ e = .returned (.pointer (some ⟨w.heap.size, 0, none⟩)) ∧ Has w' w.heap.size cs 104 ∧ Mod No w w' := by
 go_enter Try.func16, Try.ntmps16
 go_wp2
 go_ret
 exact ⟨_, rfl, rfl, Has.new w _ _, (Mod.refl No w).alloc _⟩
theorem doK_add {now : Int} {fl : Nat → Option (Pla × List Sea)} {c : Cmd} (h : (doK now fl c).1 = 0) (hk : c.kind = 1) : 1 ≤ c.flight ∧ c.flight ≤ 20 := by
 unfold doK at h
 rw [if_neg (by omega), if_neg (by omega)] at h
 by_cases hf : 1 ≤ c.flight ∧ c.flight ≤ 20
 ·exact hf
 ·rw [if_pos hf] at h
  exact absurd h (by simp)
set_option maxHeartbeats 20000000
structure KpM (w : World) (ow : Nat → Nat) (kb : Nat) (now : Int) (fl : Fls) (tb N : Nat) : Prop where
 ex : ∃ K, KpL w ow kb now fl K N ∧ K.tb = tb ∧ K.T.fuse < 0
theorem KpM.mod {w w' : World} {ow : Nat → Nat} {kb tb N : Nat} {now : Int} {fl : Fls} {S : Nat → Prop} (h : KpM w ow kb now fl tb N) (hm : Mod S w w') (hs : ∀ k, ow k ≠ 0 → ¬ S k) : KpM w' ow kb now fl tb N := by
 obtain ⟨K, h1, h2⟩ := h
 exact ⟨K, h1.mod hm hs, h2⟩
theorem KpM.toH {w : World} {ow : Nat → Nat} {kb tb N : Nat} {now : Int} {fl : Fls} (h : KpM w ow kb now fl tb N) : KeepH w ow kb now fl := by
 obtain ⟨K, h1, h2⟩ := h
 exact h1.toH
theorem KpM.old {w : World} {ow : Nat → Nat} {kb tb N : Nat} {now : Int} {fl : Fls} (h : KpM w ow kb now fl tb N) : ∀ k, ow k ≠ 0 → k < w.heap.size := by
 obtain ⟨K, h1, h2⟩ := h
 obtain ⟨pt, h3⟩ := h1.keep
 exact h3.keep.old
theorem KpM.zero {w : World} {ow : Nat → Nat} {kb tb N : Nat} {now : Int} {fl : Fls} (h : KpM w ow kb now fl tb N) : fl 0 = none := by
 obtain ⟨K, h1, h2⟩ := h
 exact h1.ok.rng 0 (.inl rfl)
theorem kpm_do {w : World} {ow : Nat → Nat} {kb tb N : Nat} {now : Int} {fl : Fls} (h : KpM w ow kb now fl tb N) (hN : N + 1 ≤ 1000000000) (c : Cmd) :
  Calls Try.prog 26 #[.pointer (some ⟨kb, 0, none⟩), .agg (cmdCells c)] w fun e w' => e = .returned (.int .i64 (doK now fl c).1) ∧ (∃ ow', KpM w' ow' kb (doK now fl c).2.1 (doK now fl c).2.2 tb (N + 1) ∧ ∀ k, k < w.heap.size → ow' k = ow k) ∧ Mod (fun k => ow k ≠ 0) w w' := by
 obtain ⟨K, h1, h2, h3⟩ := h
 refine (kp_do h1 hN c).mono ?_
 rintro e w' ⟨e', rfl, hm, hy, hn⟩
 by_cases h16 : e' = 16
 ·have := (hn h16).1; omega
 ·obtain ⟨rfl, ow', K', q1, q2, q3, q4⟩ := hy h16
  exact ⟨rfl, ⟨ow', ⟨K', q1, q3.trans h2, q4 h3⟩, q2⟩, hm⟩
theorem kpm_pack {w : World} {ow : Nat → Nat} {kb tb N : Nat} {now : Int} {fl : Fls} (h : KpM w ow kb now fl tb N) :
  Calls Try.prog 36 #[.pointer (some ⟨kb, 0, none⟩)] w fun e w' => e = .returned (.int .i64 0) ∧ (∃ ow', KpM w' ow' kb now fl tb N ∧ ∀ k, k < w.heap.size → ow' k = ow k) ∧ Mod (fun k => ow k ≠ 0) w w' := by
 obtain ⟨K, h1, h2, h3⟩ := h
 refine (kp_pack h1).mono ?_
 rintro e w' ⟨e', rfl, hm, he, hy, hn⟩
 rcases he with rfl | rfl
 ·obtain ⟨ow', K', q1, q2, q3, q4⟩ := hy rfl
  exact ⟨rfl, ⟨ow', ⟨K', q1, q3.trans h2, q4 h3⟩, q2⟩, hm⟩
 ·have := (hn rfl).1; omega
structure DoesP (w w' : World) (ow : Nat → Nat) (kb lb : Nat) (now : Int) (fl : Nat → Option (Pla × List Sea)) (tb N : Nat) : Prop where
 keep : ∃ ow', KpM w' ow' kb now fl tb N ∧ ∀ k, k < w.heap.size → ow' k = ow k
 lim : ∃ cs, cs.size = 84 ∧ Has w' lb cs 104
 mod : Mod (fun k => ow k ≠ 0 ∨ k = lb) w w'
theorem doesP_any {w : World} {ow : Nat → Nat} {kb lb tb N : Nat} {now : Int} {fl : Nat → Option (Pla × List Sea)} (h : KpM w ow kb now fl tb N) (hn : N + 1 ≤ 1000000000) (c : Cmd) (cs : Array Value) (hs : cs.size = 84) (hb : Has w lb cs 104) (hol : ow lb = 0) :
  Calls Try.prog 18 #[.pointer (some ⟨kb, 0, none⟩), .agg (cmdCells c), .pointer (some ⟨lb, 0, none⟩)] w fun e w' =>
   e = .returned (.int .i64 (doK now fl c).1) ∧ DoesP w w' ow kb lb (doK now fl c).2.1 (doK now fl c).2.2 tb (N + 1) := by
 have hlb := hb.lt
 have HD := hide (kpm_do (h.mod ((Mod.refl No w).alloc (.cells (cmdCells c) 37)) (fun _ _ x => x)) hn c)
 have HB := hide (hb.alloc (.cells (cmdCells c) 37))
 have HC := hide (Has.new w (cmdCells c) 37)
 have M0 := hide ((Mod.refl No w).alloc (.cells (cmdCells c) 37))
 have HO := hide (show ow w.heap.size = 0 from by
  by_cases e : ow w.heap.size = 0
  ·exact e
  ·have := h.old _ e; omega)
 have HA := hide fun (q : (doK now fl c).1 = 0) (r : c.kind = 1) => doK_add q r
 generalize doK now fl c = D at *
 obtain ⟨r, now', fl'⟩ := D
 simp only at *
 clear h hb
 unfold cmdCells at *
 go_enter Try.func18, Try.ntmps18
 go_wp2_with fail
 refine (unhide HD).mono ?_
 rintro e w2 ⟨rfl, ⟨ow', k2, ho⟩, m2⟩
 have b2 := m2.has (unhide HB) (by simp [hol])
 have c2 := m2.has (unhide HC) (by simp [unhide HO])
 have cc := c2.cell
 have M2 := hide (((unhide M0).mono (S' := fun k => ow k ≠ 0) (fun _ _ x => x.elim)).trans m2)
 have K2 := hide k2
 have HO2 := hide (fun k hk => ho k hk)
 have B2 := hide b2
 have lc2 := c2.lt
 have lb2 := b2.lt
 clear k2 ho m2 b2 c2 HD HB HC M0
 have R0 : DoesP w w2 ow kb lb now' fl' tb (N + 1) := ⟨⟨ow', unhide K2, fun k hk => (unhide HO2) k (by simp; omega)⟩, ⟨cs, hs, unhide B2⟩, (unhide M2).mono (fun _ _ x => .inl x)⟩
 have R0 := hide R0
 by_cases h0 : r = 0
 case neg =>
  clear K2 HO2 B2 M2 HA
  have e0 : (r == 0) = false := by simp [h0]
  go_wp2
  go_ret
  exact ⟨rfl, unhide R0⟩
 by_cases h1 : c.kind = 1
 case neg =>
  clear K2 HO2 B2 M2 HA
  have e1 : (c.kind == 1) = false := by simp [h1]
  subst h0
  go_wp2
  go_ret
  exact ⟨rfl, unhide R0⟩
 obtain ⟨f1, f2⟩ := (unhide HA) h0 h1
 obtain ⟨n, hfn⟩ : ∃ n : Nat, c.flight = (n : Int) := ⟨c.flight.toNat, by omega⟩
 subst h0
 have e1 : (c.kind == 1) = true := by simp [h1]
 rw [hfn] at cc f1 f2
 have i21 : (n : Int) < 21 := by omega
 have i0 : (0 : Int) ≤ n := by omega
 have fz := (unhide B2).frozen
 obtain ⟨v0, g0⟩ : ∃ v, w2.cell? ⟨lb, n * 4, none⟩ = some v := ⟨_, by rw [(unhide B2).cell, Array.getElem?_eq_getElem (by omega)]⟩
 obtain ⟨v1, g1⟩ : ∃ v, w2.cell? ⟨lb, n * 4 + 1, none⟩ = some v := ⟨_, by rw [(unhide B2).cell, Array.getElem?_eq_getElem (by omega)]⟩
 obtain ⟨v2, g2⟩ : ∃ v, w2.cell? ⟨lb, n * 4 + 2, none⟩ = some v := ⟨_, by rw [(unhide B2).cell, Array.getElem?_eq_getElem (by omega)]⟩
 obtain ⟨v3, g3⟩ : ∃ v, w2.cell? ⟨lb, n * 4 + 3, none⟩ = some v := ⟨_, by rw [(unhide B2).cell, Array.getElem?_eq_getElem (by omega)]⟩
 have hp : ∀ o, (fun k => ow k ≠ 0 ∨ k = lb) (⟨lb, o, none⟩ : Addr).block ∨ w.heap.size ≤ (⟨lb, o, none⟩ : Addr).block := fun o => .inl (.inr rfl)
 have hq : ∀ o, (fun k => k = lb) (⟨lb, o, none⟩ : Addr).block ∨ w2.heap.size ≤ (⟨lb, o, none⟩ : Addr).block := fun o => .inl rfl
 have ol : ow' lb = 0 := by rw [(unhide HO2) lb (by simp; omega)]; exact hol
 have R1 := hide (show DoesP w ((((w2.setCell ⟨lb, n * 4, none⟩ (.int .i64 c.pla.l0)).setCell ⟨lb, n * 4 + 1, none⟩ (.int .i64 c.pla.l1)).setCell ⟨lb, n * 4 + 2, none⟩ (.int .i64 c.pla.l2)).setCell ⟨lb, n * 4 + 3, none⟩ (.int .i64 c.pla.l3)).drew ow kb lb now' fl' tb (N + 1) from
  ⟨⟨ow', (unhide K2).mod (((((Mod.refl (fun k => k = lb) w2).setCell (hq _) _).setCell (hq _) _).setCell (hq _) _).setCell (hq _) _).drew (fun k hk e => by subst e; exact hk ol), fun k hk => (unhide HO2) k (by simp; omega)⟩,
   ⟨_, by simpa using hs, ((((((unhide B2).set (n * 4) _).set (n * 4 + 1) _).set (n * 4 + 2) _).set (n * 4 + 3) _)).drew⟩,
   (((((((unhide M2).mono (fun _ _ x => .inl x)).setCell (hp _) _).setCell (hp _) _).setCell (hp _) _).setCell (hp _) _)).drew⟩)
 clear K2 HO2 B2 M2 HA R0
 go_wp2_with fail
 go_region
 all_goals go_wp2
 all_goals go_ret
 all_goals exact ⟨rfl, unhide R1⟩
theorem begunP_any (w : World) :
  Calls Try.prog 14 #[.pointer (some ⟨w.heap.size, 0, none⟩)] (w.alloc (.cells tape0 103)) fun e w' => ∃ kb, e = .returned (.tuple #[.pointer (some ⟨kb, 0, none⟩), .bool true]) ∧
   (∃ ow, KpM w' ow kb 0 fl0 w.heap.size 1 ∧ ∀ k, k < w.heap.size → ow k = 0) ∧ Mod No w w' ∧ w.heap.size ≤ kb := by
 have ht : TapeH (w.alloc (.cells tape0 103)) (fun k => k = w.heap.size) w.heap.size ⟨fun _ => [], fun _ => 0, 1099511627776, -1⟩ := tape_new w 1099511627776
 have hs0 : (w.alloc (.cells tape0 103)).heap.size = w.heap.size + 1 := by simp
 have HO := hide (open_nil ht (fun k e => by rw [hs0]; omega) rfl rfl (by show ¬ (1099511627776 : Int) < 200; omega))
 have M0 := hide ((Mod.refl No w).alloc (.cells tape0 103))
 have S0 := hide hs0
 clear ht hs0
 go_enter Try.func14, Try.ntmps14
 go_wp2_with fail
 refine (unhide HO).mono ?_
 rintro e w1 ⟨kb, rfl, hx⟩
 have hne : w.heap.size ≠ kb := by have := hx.new; have := unhide S0; omega
 have hk1 := hx.keep (fun k e => by have := unhide S0; omega) (fun k => if k = kb then 1 else if k = w.heap.size then 30 else 0) (if_pos rfl) (fun k e => by rw [if_neg (by rw [e]; exact hne), if_pos e]) (fun k hk => by
  by_cases e1 : k = kb
  ·exact .inl e1
  ·rw [if_neg e1] at hk
   by_cases e2 : k = w.heap.size
   ·exact .inr e2
   ·rw [if_neg e2] at hk; exact absurd rfl hk)
 have K0 := hide (show KpM w1 (fun k => if k = kb then 1 else if k = w.heap.size then 30 else 0) kb 0 noFl w.heap.size 0 from ⟨_, ⟨⟨_, hk1⟩, rfl, DiskL.zero _ _ (by omega), FlOk.zero, rfl, by omega⟩, rfl, by show (-1 : Int) < 0; decide⟩)
 have M1 := hide ((unhide M0).trans' hx.mod (fun k (e : k = w.heap.size) hl => by omega))
 have N1 := hide (show w.heap.size ≤ kb by have := hx.new; have := unhide S0; omega)
 have l0 := hx.has.lt
 clear hx hk1 HO hne
 go_wp2_with fail
 have HD : Calls Try.prog 26 #[.pointer (some ⟨kb, 0, none⟩), .agg #[.int .i64 1, .int .i64 1, .int .i64 0, .int .i64 0, .int .i64 0, .int .i64 0, .int .i64 0, .int .i64 0, .int .i64 0, .int .i64 4, .int .i64 3, .int .i64 2, .int .i64 10, .int .i64 8, .int .i64 5, .int .i64 1]] (w1.alloc (.cells #[.int .i64 4, .int .i64 3, .int .i64 2, .int .i64 10, .int .i64 8, .int .i64 5, .int .i64 1] 35)) fun e w' => e = .returned (.int .i64 0) ∧ (∃ ow', KpM w' ow' kb 0 fl0 w.heap.size 1 ∧ ∀ k, k < (w1.alloc (.cells #[.int .i64 4, .int .i64 3, .int .i64 2, .int .i64 10, .int .i64 8, .int .i64 5, .int .i64 1] 35)).heap.size → ow' k = (fun k => if k = kb then 1 else if k = w.heap.size then 30 else 0) k) ∧ Mod (fun k => (fun k => if k = kb then 1 else if k = w.heap.size then 30 else 0) k ≠ 0) (w1.alloc (.cells #[.int .i64 4, .int .i64 3, .int .i64 2, .int .i64 10, .int .i64 8, .int .i64 5, .int .i64 1] 35)) w' := by
  have := kpm_do ((unhide K0).mod ((Mod.refl No _).alloc (.cells #[.int .i64 4, .int .i64 3, .int .i64 2, .int .i64 10, .int .i64 8, .int .i64 5, .int .i64 1] 35)) (fun _ _ x => x)) (by omega) addC
  rw [doK_begun] at this
  exact this
 refine HD.mono ?_
 rintro e w2 ⟨rfl, ⟨ow, k2, ho⟩, m2⟩
 have H0 : ∀ W, Mod No w2 W → Calls Try.prog 25 #[.pointer (some ⟨kb, 0, none⟩), .int .i64 1, .int .i64 0] W fun e w' => e = .returned (.tuple #[.int .i64 9, .int .i64 0]) ∧ Mod No W w' := fun W hW => by
  have := left_any (k2.mod hW (fun _ _ x => x)).toH 1 0
  rw [left_begun0] at this
  exact this
 have H2 : ∀ W, Mod No w2 W → Calls Try.prog 25 #[.pointer (some ⟨kb, 0, none⟩), .int .i64 1, .int .i64 2] W fun e w' => e = .returned (.tuple #[.int .i64 5, .int .i64 0]) ∧ Mod No W w' := fun W hW => by
  have := left_any (k2.mod hW (fun _ _ x => x)).toH 1 2
  rw [left_begun2] at this
  exact this
 have K2 := hide k2
 have OW := hide ho
 have M2 := hide (((unhide M1).alloc (.cells #[.int .i64 4, .int .i64 3, .int .i64 2, .int .i64 10, .int .i64 8, .int .i64 5, .int .i64 1] 35)).trans' m2 (fun i hi hl => by
  have hi : (if i = kb then 1 else if i = w.heap.size then 30 else 0) ≠ 0 := hi
  have := unhide N1
  rw [if_neg (by omega), if_neg (by omega)] at hi
  exact absurd rfl hi))
 have HH0 := hide H0
 have HH2 := hide H2
 have SW := hide (unhide M1).size
 clear H0 H2 k2 ho m2 HD K0
 go_wp2_with fail
 refine ((unhide HH0) _ (Mod.refl _ _)).mono ?_
 rintro e w3 ⟨rfl, m3⟩
 have M3 := hide m3
 clear m3
 go_wp2_with fail
 refine ((unhide HH2) _ (unhide M3)).mono ?_
 rintro e w4 ⟨rfl, m4⟩
 have M4 := hide ((unhide M3).trans m4)
 clear m4
 go_wp2
 go_ret2
 refine ⟨kb, rfl, ⟨ow, (unhide K2).mod (unhide M4) (fun _ _ x => x), fun k hk => ?_⟩, (unhide M2).trans (unhide M4), unhide N1⟩
 rw [(unhide OW) k (by have := unhide SW; simp; omega)]
 have := unhide N1
 rw [if_neg (by omega), if_neg (by omega)]
open Go.RowKit Go.WideMaps
structure FEnt where
 born : Nat
 r : Int
 c : Int
 n : Int
def FEnt.is (r c : Int) (e : FEnt) : Bool := e.r == r && e.c == c
def lookF (l : List FEnt) (r c : Int) : Option Int := (l.find? (FEnt.is r c)).map FEnt.n
set_option maxHeartbeats 2000000
attribute [local go_sem] idx40_0 idx40_1 idx40_2 idx40_3
def tb (es : List FEnt) (n c : Int) : Int := (lookF es n c).getD (-1)
theorem meq_none (w : World) : (binOp .eql 110 (.map none) (.map none)).run Try.prog w = .ok (.bool true) w := by kernel_rfl
theorem meq_some (m : Nat) (w : World) : (binOp .eql 110 (.map (some m)) (.map none)).run Try.prog w = .ok (.bool false) w := by kernel_rfl
theorem run_makeMapF (w : World) : (Instr.makeMap 110 none).run Try.prog w = .ok (.map (some w.heap.size)) (w.alloc (.map #[] 0)) := by
 simp [Instr.makeMap, newObj, Sem.run]
attribute [local go_sem] meq_none meq_some run_makeMapF
def tab (f : Nat → Int) (n : Nat) : Array Value := ((List.range n).map fun j => Value.int .i64 (f j)).toArray
theorem tab_size (f : Nat → Int) (n : Nat) : (tab f n).size = n := by simp [tab]
theorem tab_get (f : Nat → Int) (n o : Nat) (ho : o < n) : (tab f n)[o]? = some (.int .i64 (f o)) := by simp [tab, ho]
theorem tab_out (f : Nat → Int) (n o : Nat) (ho : n ≤ o) : (tab f n)[o]? = none := by simp [tab, ho]
theorem tab_set (f : Nat → Int) (n o : Nat) (v : Int) : (tab f n).setIfInBounds o (.int .i64 v) = tab (fun j => if j = o then v else f j) n := by
 apply Array.ext_getElem?
 intro i
 rw [Array.getElem?_setIfInBounds, tab_size]
 by_cases h : i < n
 ·rw [tab_get _ _ _ h, tab_get _ _ _ h]
  by_cases e : o = i
  ·subst e; simp [h]
  ·have e' : ¬ i = o := fun x => e x.symm
   simp [e, e']
 ·rw [tab_out _ _ _ (by omega), tab_out _ _ _ (by omega)]
  by_cases e : o = i
  ·subst e; simp [h]
  ·simp [e]
theorem tab_congr {f g : Nat → Int} {n : Nat} (h : ∀ j, j < n → f j = g j) : tab f n = tab g n := by
 unfold tab
 congr 1
 exact List.map_congr_left fun j hj => by rw [h j (List.mem_range.1 hj)]
theorem tab_one (f : Nat → Int) (n : Nat) : (tab f n).all (·.oneCell') = true := by
 simp [tab, Value.oneCell']
theorem results_box {P : Program} {fn : Func} {a : Tmp} {t : TypeId} (h : fn.results = #[.cell a t]) {tmps : Array Value} {b : Nat} {cells : Array Value} {T : TypeId} {w : World} (ha : tmps[a]? = some (.pointer (some ⟨b, 0, none⟩))) (hb : Has w b cells T)
  (hu : (P.underlying t).map (·.isRow) = some true) (hi : (P.info? t).map (·.size) = some cells.size) : (results fn tmps).run P w = .ok (.agg cells) w := by
 cases hd : P.underlying t with
 | none => rw [hd] at hu; simp at hu
 | some d =>
  rw [hd] at hu
  have hl := run_loadVar_mid (P := P) w b 0 t cells.toList d (hb.range 0 _ (fun j v hv => by rw [Nat.zero_add]; simpa using hv)) hd (by simpa using hu) (by simpa using hi)
  rw [show cells.toList.toArray = cells from by simp] at hl
  simp [results, h, ha, asAddr, hl]
def leftT (fl : Nat → Option (Pla × List Sea)) (j : Nat) : Int := if (leftK fl (j / 4 : Nat) (j % 4 : Nat)).2 = 0 then (leftK fl (j / 4 : Nat) (j % 4 : Nat)).1 else -1
theorem sizeLT : (Try.prog.info? 69).map (·.size) = some 84 := by kernel_rfl
theorem rowLT : (Try.prog.underlying 69).map (·.isRow) = some true := by kernel_rfl
theorem zeroLT : Try.zeroCells69 = tab (fun _ => 0) 84 := by kernel_rfl
theorem leftT_walk {w : World} {ow : Nat → Nat} {kb : Nat} {now : Int} {fl : Nat → Option (Pla × List Sea)} (h : KeepH w ow kb now fl) :
  Calls Try.prog 29 #[.pointer (some ⟨kb, 0, none⟩)] w fun e w' => e = .returned (.agg (tab (leftT fl) 84)) ∧ Mod No w w' := by
 have HL := hide fun W (hW : Mod No w W) (n c : Int) => left_any (h.mod hW (fun _ _ x => x)) n c
 clear h
 go_enter Try.func29, Try.ntmps29
 go_wp2_with fail
 go_loopw [4] (fun x wr => ∃ n : Nat, x = .int .i64 n ∧ n ≤ 21 ∧ Hid (Mod No w wr) ∧ Hid (Has wr w.heap.size (tab (fun _ => 0) 84) 69) ∧ Hid (Has wr (w.heap.size + 1) (tab (fun j => if j < 4 * n then leftT fl j else 0) 84) 69)) (fun x _ => 21 - (intOf x).toNat)
 case atStart =>
  rw [zeroLT]
  refine ⟨0, rfl, by omega, ((Mod.refl No w).alloc _).alloc _, (Has.new w _ _).alloc _, hide ?_⟩
  have := Has.new (w.alloc (.cells (tab (fun _ => 0) 84) 69)) (tab (fun _ => 0) 84) 69
  rw [World.size_alloc] at this
  rw [tab_congr (f := fun j => if j < 4 * 0 then leftT fl j else 0) (g := fun _ => 0) (fun j _ => if_neg (by omega))]
  exact this
 case round =>
  obtain ⟨n, rfl, hn, hm, h0, h1⟩ := hrel
  by_cases h21 : n = 21
  ·subst h21
   have hcond : ¬ ((21 : Nat) : Int) ≤ 20 := by omega
   have e9 : tab (fun j => if j < 4 * 21 then leftT fl j else 0) 84 = tab (leftT fl) 84 := tab_congr (fun j hj => if_pos (by omega))
   rw [e9] at h1
   go_upto_region 12 with fail
   refine wp_region_list ?_
   refine (wpList_load_has rfl 69 _ rfl (w.heap.size + 1) 0 rfl (tab (leftT fl) 84) 69 (unhide h1) (tab (leftT fl) 84) (fun j v h => by rw [Nat.zero_add]; simpa using h) rowLT (by rw [tab_size]; exact sizeLT) ?_)
   refine (wpList_store_has rfl 69 _ _ rfl (w.heap.size) (tab (leftT fl) 84) rfl rfl (tab (fun _ => 0) 84) 69 (unhide h0) (by rw [tab_size, tab_size]) (by rw [tab_size]; exact sizeLT) (tab_one _ _) ?_)
   intro w5 h5 m5
   have H5 := hide h5
   have M5 := hide ((unhide hm).trans' (S := No) m5 (fun i e hl => by subst e; omega))
   clear m5 h5 h0 h1 hm
   go_wp2
   refine bodyPost_ret (results_box Try.results29 rfl (unhide H5) rowLT (by rw [tab_size]; exact sizeLT)) rfl ?_
   exact ⟨rfl, unhide M5⟩
  have hcond : (n : Int) ≤ 20 := by omega
  go_wp2_with fail
  go_loopw [5, 6, 7] (fun y _ _ wx => ∃ c : Nat, y = .int .i64 c ∧ c ≤ 4 ∧ Hid (Mod No w wx) ∧ Hid (Has wx w.heap.size (tab (fun _ => 0) 84) 69) ∧ Hid (Has wx (w.heap.size + 1) (tab (fun j => if j < 4 * n + c then leftT fl j else 0) 84) 69)) (fun y _ _ _ => 4 - (intOf y).toNat)
  case atStart => exact ⟨0, rfl, by omega, hm, h0, h1⟩
  case round =>
   obtain ⟨c, rfl, hc, hm2, h02, h12⟩ := hrel
   by_cases h4 : c = 4
   ·subst h4
    have hcond2 : ¬ ((4 : Nat) : Int) < 4 := by omega
    go_wp2
    exact ⟨⟨n + 1, by simp, by omega, hm2, h02, by rw [show 4 * (n + 1) = 4 * n + 4 by omega]; exact h12⟩, by simp [intOf]; omega⟩
   have hcond2 : (c : Int) < 4 := by omega
   go_wp2_with fail
   refine ((unhide HL) _ (unhide hm2) n c).mono ?_
   rintro e w3 ⟨rfl, m3⟩
   have H12 := m3.has (unhide h12) (fun x => x)
   have H02 := hide (m3.has (unhide h02) (fun x => x))
   have M3 := hide ((unhide hm2).trans m3)
   have EL : leftT fl (n * 4 + c) = if (leftK fl n c).2 = 0 then (leftK fl n c).1 else -1 := by
    unfold leftT
    rw [show (n * 4 + c) / 4 = n by omega, show (n * 4 + c) % 4 = c by omega]
   have cx : w3.cell? ⟨w.heap.size + 1, n * 4 + c, none⟩ = some (.int .i64 (if n * 4 + c < 4 * n + c then leftT fl (n * 4 + c) else 0)) := by rw [H12.cell]; exact tab_get _ _ _ (by omega)
   have f12 := H12.frozen
   have l12 := H12.lt
   have FIN := hide (fun v (hv : v = leftT fl (n * 4 + c)) => (show Has (w3.setCell ⟨w.heap.size + 1, n * 4 + c, none⟩ (.int .i64 v)) (w.heap.size + 1) (tab (fun j => if j < 4 * n + (c + 1) then leftT fl j else 0) 84) 69 from by
    have h := H12.set (n * 4 + c) (.int .i64 v)
    rw [tab_set] at h
    rw [tab_congr (f := fun j => if j < 4 * n + (c + 1) then leftT fl j else 0) (g := fun j => if j = n * 4 + c then v else if j < 4 * n + c then leftT fl j else 0)]
    ·exact h
    ·intro j hj
     by_cases e : j = n * 4 + c
     ·rw [if_pos e, if_pos (by omega), e, hv]
     ·rw [if_neg e]
      by_cases e2 : j < 4 * n + c
      ·rw [if_pos e2, if_pos (by omega)]
      ·rw [if_neg e2, if_neg (by omega)]))
   have FIN2 := hide (fun v1 v (hv : v = leftT fl (n * 4 + c)) => (show Has ((w3.setCell ⟨w.heap.size + 1, n * 4 + c, none⟩ (.int .i64 v1)).setCell ⟨w.heap.size + 1, n * 4 + c, none⟩ (.int .i64 v)) (w.heap.size + 1) (tab (fun j => if j < 4 * n + (c + 1) then leftT fl j else 0) 84) 69 from by
    have h := (H12.set (n * 4 + c) (.int .i64 v1)).set (n * 4 + c) (.int .i64 v)
    rw [tab_set, tab_set] at h
    rw [tab_congr (f := fun j => if j < 4 * n + (c + 1) then leftT fl j else 0) (g := fun j => if j = n * 4 + c then v else if j = n * 4 + c then v1 else if j < 4 * n + c then leftT fl j else 0)]
    ·exact h
    ·intro j hj
     by_cases e : j = n * 4 + c
     ·rw [if_pos e, if_pos (by omega), e, hv]
     ·rw [if_neg e, if_neg e]
      by_cases e2 : j < 4 * n + c
      ·rw [if_pos e2, if_pos (by omega)]
      ·rw [if_neg e2, if_neg (by omega)]))
   have HH12 := hide H12
   clear m3 h12 h02 hm2 H12
   generalize leftT fl (n * 4 + c) = lt at *
   generalize (if n * 4 + c < 4 * n + c then lt else 0) = old at *
   generalize (leftK fl n c).1 = vl at *
   generalize (leftK fl n c).2 = er at *
   have hEL := hide EL
   clear EL
   by_cases her : er = 0
   ·have her' : (er != 0) = false := by simp [her]
    go_wp2
    exact ⟨⟨c + 1, by simp, by omega, (unhide M3).setCell (.inr (Nat.le_succ _)) _, (unhide H02).set_ne (by simp) _, (unhide FIN) _ (by rw [unhide hEL, if_pos her])⟩, by simp [intOf]; omega⟩
   ·have her' : (er != 0) = true := by simp [her]
    go_wp2
    refine ⟨⟨c + 1, by simp, by omega, ((unhide M3).setCell (.inr (Nat.le_succ _)) _).setCell (.inr (Nat.le_succ _)) _, ((unhide H02).set_ne (by simp) _).set_ne (by simp) _, ?_⟩, by simp [intOf]; omega⟩
    exact (unhide FIN2) _ _ (by rw [unhide hEL, if_neg her])
set_option maxHeartbeats 4000000
def lastAt (r c : Int) (L : List Sea) : Int × Int := match L.getLast? with
 | none => (r, c)
 | some s => (s.row, s.col)
structure PageR where
 seats : List Sea
 r : Int
 c : Int
 ep : Int
 more : Bool
 err : Int
def pageK (p : Pla) (l : List Sea) (r c e size : Int) : PageR :=
 if size < 1 ∨ size > 30 then ⟨[], 0, 0, 0, false, 12⟩
 else if (behindK p r c e).2 ≠ 0 then ⟨[], 0, 0, 0, false, (behindK p r c e).2⟩
 else ⟨(l.drop (behindK p r c e).1.toNat).take size.toNat, (lastAt r c ((l.drop (behindK p r c e).1.toNat).take size.toNat)).1, (lastAt r c ((l.drop (behindK p r c e).1.toNat).take size.toNat)).2, p.ep,
  decide ((behindK p r c e).1.toNat + ((l.drop (behindK p r c e).1.toNat).take size.toNat).length < l.length), 0⟩
structure Told (w w' : World) (e : Ending) (R : PageR) : Prop where
 ex : ∃ v, e = .returned (.tuple #[.agg #[v, .int .i64 R.r, .int .i64 R.c, .int .i64 R.ep, .bool R.more], .int .i64 R.err]) ∧ w'.ownsRow 0 61 6 v R.seats.length (R.seats.flatMap seaL) ∧ ∀ k, v.ownBlock = some k → w.heap.size ≤ k
 mod : Mod No w w'
theorem page_size (b : Nat) (r c e size : Int) (hs : size < 1 ∨ size > 30) (w : World) :
  Calls Try.prog 51 #[.pointer (some ⟨b, 0, none⟩), .agg #[.int .i64 r, .int .i64 c, .int .i64 e], .int .i64 size] w fun e w' => Told w w' e ⟨[], 0, 0, 0, false, 12⟩ := by
 have fin : ∀ o1 o2, Told w ((w.alloc o1).alloc o2) (.returned (.tuple #[.agg #[.slice none 0 0, .int .i64 0, .int .i64 0, .int .i64 0, .bool false], .int .i64 12])) ⟨[], 0, 0, 0, false, 12⟩ := fun o1 o2 =>
  ⟨⟨.slice none 0 0, rfl, World.ownsRow_nil _ _ _ _, fun k hk => by simp [Value.ownBlock] at hk⟩, ((Mod.refl _ w).alloc _).alloc _⟩
 rcases Int.lt_or_le size 1 with h1 | h1
 ·clear hs
  go_enter Try.func51, Try.ntmps51
  go_wp2
  refine bodyPost_ret (by simp [results, Try.results51, go_sem]; try rfl) rfl ?_
  exact fin _ _
 ·have h2 : size > 30 := by omega
  have h1' : ¬ size < 1 := by omega
  clear hs h1
  go_enter Try.func51, Try.ntmps51
  go_wp2
  refine bodyPost_ret (by simp [results, Try.results51, go_sem]; try rfl) rfl ?_
  exact fin _ _
theorem page_stale (b : Nat) (r c e size x : Int) (hs : 1 ≤ size ∧ size ≤ 30) (hx : x ≠ 0) (w : World)
  (hB : ∀ W, Mod No w W → Calls Try.prog 66 #[.pointer (some ⟨b, 0, none⟩), .agg #[.int .i64 r, .int .i64 c, .int .i64 e]] W fun e' w' => e' = .returned (.tuple #[.int .i64 0, .int .i64 x]) ∧ Mod No W w') :
  Calls Try.prog 51 #[.pointer (some ⟨b, 0, none⟩), .agg #[.int .i64 r, .int .i64 c, .int .i64 e], .int .i64 size] w fun e w' => Told w w' e ⟨[], 0, 0, 0, false, x⟩ := by
 have HB := hide hB
 have hne : (x != 0) = true := by simpa using hx
 have h1 : ¬ size < 1 := by omega
 have h2 : ¬ size > 30 := by omega
 have mA : Mod No w ((w.alloc (.cells #[.int .i64 r, .int .i64 c, .int .i64 e] 63)).alloc (.cells #[.slice none 0 0, .int .i64 0, .int .i64 0, .int .i64 0, .bool false] 65)) := ((Mod.refl _ w).alloc _).alloc _
 have MA := hide mA
 have nR := Has.new (w.alloc (.cells #[.int .i64 r, .int .i64 c, .int .i64 e] 63)) #[.slice none 0 0, .int .i64 0, .int .i64 0, .int .i64 0, .bool false] 65
 rw [World.size_alloc] at nR
 have NR := hide nR
 clear hB hs hx mA nR
 go_enter Try.func51, Try.ntmps51
 go_wp2_with fail
 refine ((unhide HB) _ (unhide MA)).mono ?_
 rintro e1 w1 ⟨rfl, m1⟩
 have R1 := m1.has (unhide NR) (fun x => x)
 have M1 := hide ((unhide MA).trans m1)
 have d0 : w1.cell? ⟨w.heap.size + 1, 0, none⟩ = some (.slice none 0 0) := R1.cell 0
 have d1 : w1.cell? ⟨w.heap.size + 1, 1, none⟩ = some (.int .i64 0) := R1.cell 1
 have d2 : w1.cell? ⟨w.heap.size + 1, 2, none⟩ = some (.int .i64 0) := R1.cell 2
 have d3 : w1.cell? ⟨w.heap.size + 1, 3, none⟩ = some (.int .i64 0) := R1.cell 3
 have d4 : w1.cell? ⟨w.heap.size + 1, 4, none⟩ = some (.bool false) := R1.cell 4
 have f1 := R1.frozen
 have l1 := R1.lt
 clear m1 R1
 go_wp2
 refine bodyPost_ret (by simp [results, Try.results51, go_sem, d0, d1, d2, d3, d4]; try rfl) rfl ?_
 refine ⟨⟨.slice none 0 0, rfl, World.ownsRow_nil _ _ _ _, fun k hk => by simp [Value.ownBlock] at hk⟩, ?_⟩
 have hp : ∀ o, No (⟨w.heap.size + 1, o, none⟩ : Addr).block ∨ w.heap.size ≤ (⟨w.heap.size + 1, o, none⟩ : Addr).block := fun o => .inr (by simp)
 exact (((((unhide M1).setCell (hp 0) _).setCell (hp 1) _).setCell (hp 2) _).setCell (hp 3) _).setCell (hp 4) _
end Go.Proofs.Ythhibagcpjeihaa
