import Derived.Test.YthhibagcpjeihaaGreatHRef13ToRef15
import Derived.Test.YthhibagcpjeihaaGreatHRef16ToSwap1
import Derived.Test.YthhibagcpjeihaaGreatHSwap5ToTape2
import Derived.Test.YthhibagcpjeihaaGreatHRef23ToRef28
namespace Go.Proofs.YthhibagcpjeihaaGreat
open Go.RowKit
open M
set_option linter.unusedVariables false
set_option linter.unusedSimpArgs false
set_option maxRecDepth 100000
set_option maxHeartbeats 8000000
theorem wdo_bad (wb : Nat) (c : Cmd) (w : World) (hk : c.kind < 1 ∨ c.kind > 9) :
  Calls Tryz.prog 27 #[.pointer (some ⟨wb, 0, none⟩), .agg (cmdCells c)] w fun e w' => e = .returned (.int .i64 1) ∧ Mod No w w' := by
 have M0 := hide ((Mod.refl No w).alloc (.cells (cmdCells c) 41))
 unfold cmdCells at *
 by_cases h1 : c.kind < 1
 ·clear hk
  go_enter Tryz.func27, Tryz.ntmps27
  go_wp2
  go_ret
  exact ⟨rfl, unhide M0⟩
 ·have h2 : c.kind > 9 := by omega
  clear hk
  go_enter Tryz.func27, Tryz.ntmps27
  go_wp2
  go_ret
  exact ⟨rfl, unhide M0⟩
theorem wdo_tick (wb : Nat) (flight ar ac tr tc party cls time : Int) (pl : Pla) (w : World) (er : Int) (P : World → Prop) (HT : ∀ W, Mod No w W → Calls Tryz.prog 51 #[.pointer (some ⟨wb, 0, none⟩), .int .i64 time] W fun e w' => e = .returned (.int .i64 er) ∧ P w') :
  Calls Tryz.prog 27 #[.pointer (some ⟨wb, 0, none⟩), .agg #[.int .i64 8, .int .i64 flight, .int .i64 ar, .int .i64 ac, .int .i64 tr, .int .i64 tc, .int .i64 party, .int .i64 cls, .int .i64 time, .int .i64 pl.rows, .int .i64 pl.cols, .int .i64 pl.front, .int .i64 pl.l0, .int .i64 pl.l1, .int .i64 pl.l2, .int .i64 pl.l3]] w fun e w' => e = .returned (.int .i64 er) ∧ P w' := by
 have M0 := hide ((Mod.refl No w).alloc (.cells #[.int .i64 8, .int .i64 flight, .int .i64 ar, .int .i64 ac, .int .i64 tr, .int .i64 tc, .int .i64 party, .int .i64 cls, .int .i64 time, .int .i64 pl.rows, .int .i64 pl.cols, .int .i64 pl.front, .int .i64 pl.l0, .int .i64 pl.l1, .int .i64 pl.l2, .int .i64 pl.l3] 41))
 have HT := hide HT
 go_enter Tryz.func27, Tryz.ntmps27
 go_wp2_with fail
 refine ((unhide HT) _ (unhide M0)).mono ?_
 rintro e w1 ⟨rfl, hp⟩
 have HP := hide hp
 clear hp
 go_wp2
 go_ret
 exact ⟨rfl, unhide HP⟩
theorem wdo_num (wb : Nat) (flight ar ac tr tc party cls time : Int) (pl : Pla) (w : World) (kind : Int) (hk : 1 ≤ kind ∧ kind ≤ 9 ∧ kind ≠ 8) (i : Int) (hf : ¬ (1 ≤ flight ∧ flight ≤ 20)) (HF : ∀ W, Mod No w W → Calls Tryz.prog 52 #[.pointer (some ⟨wb, 0, none⟩), .int .i64 flight] W fun e w' => e = .returned (.int .i64 i) ∧ w' = W) :
  Calls Tryz.prog 27 #[.pointer (some ⟨wb, 0, none⟩), .agg #[.int .i64 kind, .int .i64 flight, .int .i64 ar, .int .i64 ac, .int .i64 tr, .int .i64 tc, .int .i64 party, .int .i64 cls, .int .i64 time, .int .i64 pl.rows, .int .i64 pl.cols, .int .i64 pl.front, .int .i64 pl.l0, .int .i64 pl.l1, .int .i64 pl.l2, .int .i64 pl.l3]] w fun e w' => e = .returned (.int .i64 2) ∧ Mod No w w' := by
 have M0 := hide ((Mod.refl No w).alloc (.cells #[.int .i64 kind, .int .i64 flight, .int .i64 ar, .int .i64 ac, .int .i64 tr, .int .i64 tc, .int .i64 party, .int .i64 cls, .int .i64 time, .int .i64 pl.rows, .int .i64 pl.cols, .int .i64 pl.front, .int .i64 pl.l0, .int .i64 pl.l1, .int .i64 pl.l2, .int .i64 pl.l3] 41))
 have HF := hide HF
 have k1 : ¬ kind < 1 := by omega
 have k2 : ¬ kind > 9 := by omega
 have k3 : (kind == 8) = false := by simp; omega
 obtain ⟨_, _, hk8⟩ := hk
 by_cases f1 : flight < 1
 ·clear hf
  go_enter Tryz.func27, Tryz.ntmps27
  go_wp2_with fail
  refine ((unhide HF) _ (unhide M0)).mono ?_
  rintro e w1 ⟨rfl, rfl⟩
  go_wp2
  go_ret
  exact ⟨rfl, unhide M0⟩
 ·have f2 : flight > 20 := by omega
  clear hf
  go_enter Tryz.func27, Tryz.ntmps27
  go_wp2_with fail
  refine ((unhide HF) _ (unhide M0)).mono ?_
  rintro e w1 ⟨rfl, rfl⟩
  go_wp2
  go_ret
  exact ⟨rfl, unhide M0⟩
theorem wdo_miss (wb : Nat) (flight ar ac tr tc party cls time : Int) (pl : Pla) (w : World) (kind : Int) (hk : 1 ≤ kind ∧ kind ≤ 9 ∧ kind ≠ 8) (i : Int) (hf : 1 ≤ flight ∧ flight ≤ 20) (hi : i < 0) (hk1 : kind ≠ 1) (HF : ∀ W, Mod No w W → Calls Tryz.prog 52 #[.pointer (some ⟨wb, 0, none⟩), .int .i64 flight] W fun e w' => e = .returned (.int .i64 i) ∧ w' = W) :
  Calls Tryz.prog 27 #[.pointer (some ⟨wb, 0, none⟩), .agg #[.int .i64 kind, .int .i64 flight, .int .i64 ar, .int .i64 ac, .int .i64 tr, .int .i64 tc, .int .i64 party, .int .i64 cls, .int .i64 time, .int .i64 pl.rows, .int .i64 pl.cols, .int .i64 pl.front, .int .i64 pl.l0, .int .i64 pl.l1, .int .i64 pl.l2, .int .i64 pl.l3]] w fun e w' => e = .returned (.int .i64 2) ∧ Mod No w w' := by
 have M0 := hide ((Mod.refl No w).alloc (.cells #[.int .i64 kind, .int .i64 flight, .int .i64 ar, .int .i64 ac, .int .i64 tr, .int .i64 tc, .int .i64 party, .int .i64 cls, .int .i64 time, .int .i64 pl.rows, .int .i64 pl.cols, .int .i64 pl.front, .int .i64 pl.l0, .int .i64 pl.l1, .int .i64 pl.l2, .int .i64 pl.l3] 41))
 have HF := hide HF
 have k1 : ¬ kind < 1 := by omega
 have k2 : ¬ kind > 9 := by omega
 have k3 : (kind == 8) = false := by simp; omega
 obtain ⟨_, _, hk8⟩ := hk
 have f1 : ¬ flight < 1 := by omega
 have f2 : ¬ flight > 20 := by omega
 have k4 : (kind != 1) = true := by simpa using hk1
 clear hf hk1
 ·skip
  go_enter Tryz.func27, Tryz.ntmps27
  go_wp2_with fail
  refine ((unhide HF) _ (unhide M0)).mono ?_
  rintro e w1 ⟨rfl, rfl⟩
  go_wp2
  go_ret
  exact ⟨rfl, unhide M0⟩
theorem wdo_add (wb : Nat) (flight ar ac tr tc party cls time : Int) (pl : Pla) (w : World) (i er : Int) (P : World → Prop) (hf : 1 ≤ flight ∧ flight ≤ 20) (HF : ∀ W, Mod No w W → Calls Tryz.prog 52 #[.pointer (some ⟨wb, 0, none⟩), .int .i64 flight] W fun e w' => e = .returned (.int .i64 i) ∧ w' = W)
  (HA : ∀ W, Mod No w W → Calls Tryz.prog 53 #[.pointer (some ⟨wb, 0, none⟩), .agg #[.int .i64 1, .int .i64 flight, .int .i64 ar, .int .i64 ac, .int .i64 tr, .int .i64 tc, .int .i64 party, .int .i64 cls, .int .i64 time, .int .i64 pl.rows, .int .i64 pl.cols, .int .i64 pl.front, .int .i64 pl.l0, .int .i64 pl.l1, .int .i64 pl.l2, .int .i64 pl.l3]] W fun e w' => e = .returned (.int .i64 er) ∧ P w') :
  Calls Tryz.prog 27 #[.pointer (some ⟨wb, 0, none⟩), .agg #[.int .i64 1, .int .i64 flight, .int .i64 ar, .int .i64 ac, .int .i64 tr, .int .i64 tc, .int .i64 party, .int .i64 cls, .int .i64 time, .int .i64 pl.rows, .int .i64 pl.cols, .int .i64 pl.front, .int .i64 pl.l0, .int .i64 pl.l1, .int .i64 pl.l2, .int .i64 pl.l3]] w fun e w' => e = .returned (.int .i64 er) ∧ P w' := by
 have M0 := hide ((Mod.refl No w).alloc (.cells #[.int .i64 1, .int .i64 flight, .int .i64 ar, .int .i64 ac, .int .i64 tr, .int .i64 tc, .int .i64 party, .int .i64 cls, .int .i64 time, .int .i64 pl.rows, .int .i64 pl.cols, .int .i64 pl.front, .int .i64 pl.l0, .int .i64 pl.l1, .int .i64 pl.l2, .int .i64 pl.l3] 41))
 have HF := hide HF
 have HA := hide HA
 have f1 : ¬ flight < 1 := by omega
 have f2 : ¬ flight > 20 := by omega
 clear hf
 by_cases hi : i < 0
 all_goals
  go_enter Tryz.func27, Tryz.ntmps27
  go_wp2_with fail
  refine ((unhide HF) _ (unhide M0)).mono ?_
  rintro e w1 ⟨rfl, rfl⟩
  go_wp2_with fail
  refine ((unhide HA) _ (unhide M0)).mono ?_
  rintro e w2 ⟨rfl, hp⟩
  have HP := hide hp
  clear hp
  go_wp2
  go_ret
  exact ⟨rfl, unhide HP⟩
def seatX (c : Cmd) (now : Int) (x : FR) : FR :=
 ⟨⟨x.f.num, x.f.pla, seatL x.f.pla x.f.seats c now, if seatErr x.f.pla x.f.seats c now = 0 then IntKind.i64.wrap (x.f.ep + 1) else x.f.ep⟩, x.g, x.cap⟩
theorem seatL_len (p : Pla) (l : List Sea) (c : Cmd) (hk : c.kind ≠ 9) (now : Int) : (seatL p l c now).length = l.length := by
 unfold seatL seatNew
 rw [if_neg hk]
 repeat' split
 all_goals simp
theorem seatL_wf {p : Pla} {l : List Sea} (hwf : Wf p l) (c : Cmd) (hk : c.kind ≠ 9) (now : Int) (hn : 0 ≤ now ∧ now ≤ 4611686018427387000) : Wf p (seatL p l c now) := by
 unfold seatL
 split
 ·rename_i h; exact seatNew_wf hwf hn h hk
 ·exact hwf
theorem wdo_seat {w : World} {ow : Nat → Nat} {wb gf cap : Nat} {xs : List FR} {now : Int} (h : WorR w ow wb (.slice (some ⟨gf, 0, none⟩) xs.length cap) xs now) (kind flight ar ac tr tc party cls time : Int) (pl : Pla) (hk : 2 ≤ kind ∧ kind ≤ 7) (hf : 1 ≤ flight ∧ flight ≤ 20)
  (ht : -9223372036854775808 ≤ time ∧ time ≤ 9223372036854775807) (hn : 0 ≤ now ∧ now ≤ 4611686018427387000) (i : Nat) (hi : i < xs.length) (hfi : findN xs flight = i) :
  Calls Tryz.prog 27 #[.pointer (some ⟨wb, 0, none⟩), .agg #[.int .i64 kind, .int .i64 flight, .int .i64 ar, .int .i64 ac, .int .i64 tr, .int .i64 tc, .int .i64 party, .int .i64 cls, .int .i64 time, .int .i64 pl.rows, .int .i64 pl.cols, .int .i64 pl.front, .int .i64 pl.l0, .int .i64 pl.l1, .int .i64 pl.l2, .int .i64 pl.l3]] w fun e w' => e = .returned (.int .i64 (seatErr xs[i].f.pla xs[i].f.seats ⟨kind, flight, ar, ac, tr, tc, party, cls, time, pl⟩ now)) ∧
   WorR w' ow wb (.slice (some ⟨gf, 0, none⟩) xs.length cap) (xs.set i (seatX ⟨kind, flight, ar, ac, tr, tc, party, cls, time, pl⟩ now xs[i])) now ∧ Mod (fun k => ow k ≠ 0) w w' := by
 have HF := hide fun W (hW : Mod No w W) => (show Calls Tryz.prog 52 #[.pointer (some ⟨wb, 0, none⟩), .int .i64 flight] W fun e w' => e = .returned (.int .i64 (i : Nat)) ∧ w' = W from by
  have := (h.mod hW (fun _ _ x => x)).find flight
  rw [hfi] at this
  exact this)
 obtain ⟨og, rf⟩ := h.parts rfl (by omega)
 obtain ⟨rs, os, wf⟩ := h.seats i hi
 have HS := hide fun W (hW : Mod No w W) => (show Calls Tryz.prog 55 #[.pointer (some ⟨wb, 0, none⟩), .pointer (some ⟨gf, i * 10, none⟩), .agg #[.int .i64 kind, .int .i64 flight, .int .i64 ar, .int .i64 ac, .int .i64 tr, .int .i64 tc, .int .i64 party, .int .i64 cls, .int .i64 time, .int .i64 pl.rows, .int .i64 pl.cols, .int .i64 pl.front, .int .i64 pl.l0, .int .i64 pl.l1, .int .i64 pl.l2, .int .i64 pl.l3]] W fun e w' =>
   e = .returned (.int .i64 (seatErr xs[i].f.pla xs[i].f.seats ⟨kind, flight, ar, ac, tr, tc, party, cls, time, pl⟩ now)) ∧ SaleOk W w' gf (i * 10) xs[i].g xs[i].cap xs[i].f.pla xs[i].f.seats (seatL xs[i].f.pla xs[i].f.seats ⟨kind, flight, ar, ac, tr, tc, party, cls, time, pl⟩ now) from
  seated_any ((h.mod hW (fun _ _ x => x)).fl i hi) wf ⟨kind, flight, ar, ac, tr, tc, party, cls, time, pl⟩ hk ht now hn ((h.mod hW (fun _ _ x => x)).has.cell 1))
 have SL := hide (seatL_len xs[i].f.pla xs[i].f.seats ⟨kind, flight, ar, ac, tr, tc, party, cls, time, pl⟩ (by simp only; omega) now)
 have SW := hide (seatL_wf wf ⟨kind, flight, ar, ac, tr, tc, party, cls, time, pl⟩ (by simp only; omega) now hn)
 have hx : seatX ⟨kind, flight, ar, ac, tr, tc, party, cls, time, pl⟩ now xs[i] = ⟨⟨xs[i].f.num, xs[i].f.pla, seatL xs[i].f.pla xs[i].f.seats ⟨kind, flight, ar, ac, tr, tc, party, cls, time, pl⟩ now, if seatErr xs[i].f.pla xs[i].f.seats ⟨kind, flight, ar, ac, tr, tc, party, cls, time, pl⟩ now = 0 then IntKind.i64.wrap (xs[i].f.ep + 1) else xs[i].f.ep⟩, xs[i].g, xs[i].cap⟩ := rfl
 generalize hsx : seatX ⟨kind, flight, ar, ac, tr, tc, party, cls, time, pl⟩ now xs[i] = sx at *
 generalize seatErr xs[i].f.pla xs[i].f.seats ⟨kind, flight, ar, ac, tr, tc, party, cls, time, pl⟩ now = er at *
 generalize seatL xs[i].f.pla xs[i].f.seats ⟨kind, flight, ar, ac, tr, tc, party, cls, time, pl⟩ now = ll at *
 have HX := hide hx
 have H := hide h
 have gne : ¬ gf = xs[i].g := fun e => by rw [e, os] at og; omega
 have ec : w.cell? ⟨gf, i * 10 + 9, none⟩ = some (.int .i64 xs[i].f.ep) := rf.cell i hi 9 (by omega)
 have EC := hide fun W (hW : Mod (fun k => k = xs[i].g) w W) => cell_keep hW ec gne
 have GFZ := hide fun W (hW : Mod (fun k => k = xs[i].g) w W) => (rf.mod hW gne)
 have OG := hide og
 have OS := hide os
 have V0 := hide fun W (hW : Mod No w W) => (show W.cell? ⟨wb, 0, none⟩ = some (.slice (some ⟨gf, 0, none⟩) xs.length cap) from cell_keep hW (h.has.cell 0) (fun x => x))
 have M0 := hide ((Mod.refl No w).alloc (.cells #[.int .i64 kind, .int .i64 flight, .int .i64 ar, .int .i64 ac, .int .i64 tr, .int .i64 tc, .int .i64 party, .int .i64 cls, .int .i64 time, .int .i64 pl.rows, .int .i64 pl.cols, .int .i64 pl.front, .int .i64 pl.l0, .int .i64 pl.l1, .int .i64 pl.l2, .int .i64 pl.l3] 41))
 have B0 := hide (Has.new w #[.int .i64 kind, .int .i64 flight, .int .i64 ar, .int .i64 ac, .int .i64 tr, .int .i64 tc, .int .i64 party, .int .i64 cls, .int .i64 time, .int .i64 pl.rows, .int .i64 pl.cols, .int .i64 pl.front, .int .i64 pl.l0, .int .i64 pl.l1, .int .i64 pl.l2, .int .i64 pl.l3] 41)
 have k1 : ¬ kind < 1 := by omega
 have k2 : ¬ kind > 9 := by omega
 have k3 : (kind == 8) = false := by simp; omega
 have k4 : (kind == 1) = false := by simp; omega
 have k5 : (kind == 9) = false := by simp; omega
 have f1 : ¬ flight < 1 := by omega
 have f2 : ¬ flight > 20 := by omega
 have i0 : ¬ (i : Int) < 0 := by omega
 have i1 : (i : Int) < (xs.length : Int) := by omega
 have i2 : (0 : Int) ≤ i := by omega
 have k6 : ¬ kind = 8 := by omega
 have k7 : ¬ kind = 1 := by omega
 have k8 : ¬ kind = 9 := by omega
 clear h hx hsx hfi rf rs os wf og ec gne hf hk
 go_enter Tryz.func27, Tryz.ntmps27
 go_wp2_with fail
 refine ((unhide HF) _ (unhide M0)).mono ?_
 rintro e w1 ⟨rfl, rfl⟩
 have v0 := (unhide V0) _ (unhide M0)
 have hb := (unhide B0).cell
 have lb := (unhide B0).lt
 go_wp2_with fail
 refine ((unhide HS) _ (unhide M0)).mono ?_
 rintro e w2 ⟨rfl, r2, m2⟩
 have m02 : Mod (fun k => k = xs[i].g) w w2 := ((unhide M0).mono (fun _ _ x => x.elim)).trans m2
 have ec2 := (unhide EC) _ m02
 have fz2 : ∀ o, w2.frozen? ⟨gf, o, none⟩ = false := by
  obtain ⟨cur, q1, _⟩ := ((unhide GFZ) _ m02).cur
  exact q1.frozen
 have W2 := hide ((unhide H).seatsSet i hi ll (unhide SL) (unhide SW) r2 m02)
 have MG := hide (show Mod (fun k => ow k ≠ 0) w w2 from m02.mono (fun k _ (e : k = xs[i].g) => by show ow k ≠ 0; rw [e, unhide OS]; omega))
 clear r2 m2 m02 hb v0
 by_cases hz : er = 0
 ·have hl2 : (xs.set i ⟨⟨xs[i].f.num, xs[i].f.pla, ll, xs[i].f.ep⟩, xs[i].g, xs[i].cap⟩).length = xs.length := by rw [List.length_set]
  have W3 : WorR (w2.setCell ⟨gf, i * 10 + 9, none⟩ (.int .i64 (IntKind.i64.wrap (xs[i].f.ep + 1)))) ow wb (.slice (some ⟨gf, 0, none⟩) xs.length cap) (xs.set i sx) now := by
   have h1 := unhide W2
   have e : (Value.slice (some ⟨gf, 0, none⟩) xs.length cap) = .slice (some ⟨gf, 0, none⟩) (xs.set i ⟨⟨xs[i].f.num, xs[i].f.pla, ll, xs[i].f.ep⟩, xs[i].g, xs[i].cap⟩).length cap := by rw [hl2]
   rw [e] at h1
   have h2 := h1.epSet i (by rw [hl2]; exact hi) (IntKind.i64.wrap (xs[i].f.ep + 1))
   rw [← e] at h2
   simp only [List.getElem_set_self, List.set_set] at h2
   rw [unhide HX, if_pos hz]
   exact h2
  have ogx : ow gf ≠ 0 := by rw [unhide OG]; omega
  have MF : Mod (fun k => ow k ≠ 0) w (w2.setCell ⟨gf, i * 10 + 9, none⟩ (.int .i64 (IntKind.i64.wrap (xs[i].f.ep + 1)))) := (unhide MG).setCell (p := ⟨gf, i * 10 + 9, none⟩) (.inl ogx) _
  rw [show IntKind.i64.wrap (xs[i].f.ep + 1) = wrap64 (xs[i].f.ep + 1) from (by unfold wrap64; exact IntKind.wrap_i64 _)] at W3 MF
  have W4 := hide W3
  have M4 := hide MF
  clear W3 MF W2 MG hl2
  subst hz
  go_wp2
  go_ret
  exact ⟨rfl, unhide W4, unhide M4⟩
 ·have hd : (er == 0) = false := by simpa using hz
  have W4 := hide (show WorR w2 ow wb (.slice (some ⟨gf, 0, none⟩) xs.length cap) (xs.set i sx) now from by rw [unhide HX, if_neg hz]; exact unhide W2)
  clear W2 hz
  go_wp2
  go_ret
  exact ⟨rfl, unhide W4, unhide MG⟩
def flOf (xs : List FR) : Nat → Option (Pla × List Sea) := fun n => (xs.find? (fun x => x.f.num == (n : Int))).map fun x => (x.f.pla.at x.f.ep, x.f.seats)
theorem tickX_at (nw : Int) (x : FR) : ((tickX nw x).f.pla.at (tickX nw x).f.ep, (tickX nw x).f.seats) = tickF nw (x.f.pla.at x.f.ep, x.f.seats) := by
 unfold tickF tickX tickP anyDue
 simp only
 cases x.f.seats.any (due nw) <;> rfl
theorem flOf_tick (xs : List FR) (nw : Int) (n : Nat) : flOf (xs.map (tickX nw)) n = (flOf xs n).map (tickF nw) := by
 unfold flOf
 induction xs with
 | nil => rfl
 | cons x xs ih =>
  simp only [List.map_cons, List.find?_cons]
  have e : (tickX nw x).f.num = x.f.num := rfl
  rw [e]
  cases h : (x.f.num == (n : Int)) with
  | true =>
   simp only [Option.map_some]
   rw [tickX_at]
  | false => exact ih
theorem findN_cases (xs : List FR) (n : Int) : findN xs n = -1 ∨ ∃ i, ∃ hi : i < xs.length, findN xs n = i ∧ xs[i].f.num = n := by
 unfold findN
 cases h : xs.findIdx? (fun x => x.f.num == n) with
 | none => exact .inl rfl
 | some i =>
  obtain ⟨hi, h1, _⟩ := List.findIdx?_eq_some_iff_getElem.1 h
  exact .inr ⟨i, hi, rfl, by simpa using h1⟩
theorem flOf_none (xs : List FR) (n : Nat) (h : findN xs n = -1) : flOf xs n = none := by
 unfold findN at h
 cases h2 : xs.findIdx? (fun x => x.f.num == (n : Int)) with
 | none =>
  rw [List.findIdx?_eq_none_iff] at h2
  unfold flOf
  rw [List.find?_eq_none.2 (fun x hx => by have := h2 x hx; simpa using this)]
  rfl
 | some i => rw [h2] at h; simp only at h; omega
theorem flOf_some (xs : List FR) (n i : Nat) (hi : i < xs.length) (h : findN xs n = i) : flOf xs n = some (xs[i].f.pla.at xs[i].f.ep, xs[i].f.seats) := by
 unfold findN at h
 cases h2 : xs.findIdx? (fun x => x.f.num == (n : Int)) with
 | none => rw [h2] at h; simp only at h; omega
 | some j =>
  rw [h2] at h
  have e : j = i := by simp only at h; omega
  subst e
  obtain ⟨_, h3, h4⟩ := List.findIdx?_eq_some_iff_getElem.1 h2
  unfold flOf
  have hf : xs.find? (fun x => x.f.num == (n : Int)) = some xs[j] := List.find?_eq_some_iff_getElem.2 ⟨h3, j, hi, rfl, fun k hk => by simpa using h4 k hk⟩
  rw [hf]
  rfl
theorem flOf_set (xs : List FR) (n i : Nat) (hi : i < xs.length) (h : findN xs n = i) (x : FR) (hx : x.f.num = xs[i].f.num) (j : Nat) : flOf (xs.set i x) j = if j = n then some (x.f.pla.at x.f.ep, x.f.seats) else flOf xs j := by
 have hn : xs[i].f.num = (n : Int) := by
  rcases findN_cases xs n with h1 | ⟨k, hk, h1, h2⟩
  ·omega
  ·have : k = i := by omega
   subst this
   exact h2
 have key : ∀ (ys : List FR) (k : Nat) (hk : k < ys.length), ys[k].f.num = (n : Int) → (∀ q, ∀ hq : q < ys.length, q < k → ys[q].f.num ≠ (n : Int)) → x.f.num = (n : Int) → flOf (ys.set k x) j = if j = n then some (x.f.pla.at x.f.ep, x.f.seats) else flOf ys j := by
  intro ys
  induction ys with
  | nil => intro k hk; exact absurd hk (Nat.not_lt_zero _)
  | cons y ys ih =>
   intro k hk h1 h2 h3
   cases k with
   | zero =>
    simp only [List.getElem_cons_zero] at h1
    unfold flOf
    simp only [List.set_cons_zero, List.find?_cons]
    by_cases e : j = n
    ·subst e
     simp [h3]
    ·have e1 : (x.f.num == (j : Int)) = false := by rw [h3]; simp; omega
     have e2 : (y.f.num == (j : Int)) = false := by rw [h1]; simp; omega
     rw [e1, e2, if_neg e]
   | succ k =>
    have h4 := h2 0 (by simp) (by omega)
    simp only [List.getElem_cons_zero] at h4
    have ih2 := ih k (by simpa using hk) (by simpa using h1) (fun q hq hqk => by have := h2 (q + 1) (by simpa using hq) (by omega); simpa using this) h3
    unfold flOf at ih2 ⊢
    simp only [List.set_cons_succ, List.find?_cons]
    cases hy : (y.f.num == (j : Int)) with
    | true =>
     have : j ≠ n := fun e => by subst e; exact h4 (by simpa using hy)
     simp [this]
    | false => exact ih2
 refine key xs i hi hn (fun q hq hqi e => ?_) (by rw [hx]; exact hn)
 unfold findN at h
 cases h2 : xs.findIdx? (fun x => x.f.num == (n : Int)) with
 | none => rw [h2] at h; simp only at h; omega
 | some k =>
  rw [h2] at h
  have e2 : k = i := by simp only at h; omega
  subst e2
  obtain ⟨_, _, h4⟩ := List.findIdx?_eq_some_iff_getElem.1 h2
  have := h4 q hqi
  simp [e] at this
structure Same (xs : List FR) (fl : Nat → Option (Pla × List Sea)) : Prop where
 sort : xs.Pairwise (fun x y => x.f.num < y.f.num)
 rng : ∀ x ∈ xs, 1 ≤ x.f.num ∧ x.f.num ≤ 20
 eq : ∀ n, n < 21 → fl n = flOf xs n
theorem sorted_len : ∀ (xs : List FR) (lo : Int), xs.Pairwise (fun x y => x.f.num < y.f.num) → (∀ x ∈ xs, lo < x.f.num ∧ x.f.num ≤ 20) → lo ≤ 20 → (xs.length : Int) ≤ 20 - lo
 | [], lo, _, _, h => by simp; omega
 | x :: xs, lo, hp, hr, h => by
  have hp := List.pairwise_cons.1 hp
  have hx := hr x (by simp)
  have := sorted_len xs x.f.num hp.2 (fun y hy => ⟨hp.1 y hy, (hr y (by simp [hy])).2⟩) hx.2
  simp only [List.length_cons]
  omega
theorem Same.find {xs : List FR} {fl : Nat → Option (Pla × List Sea)} (h : Same xs fl) (c : Int) (hc : 1 ≤ c ∧ c ≤ 20) :
  (findN xs c = -1 ∧ fl c.toNat = none) ∨ ∃ i, ∃ hi : i < xs.length, findN xs c = i ∧ xs[i].f.num = c ∧ fl c.toNat = some (xs[i].f.pla.at xs[i].f.ep, xs[i].f.seats) := by
 have hn : ((c.toNat : Nat) : Int) = c := by omega
 rcases findN_cases xs c with h1 | ⟨i, hi, h1, h2⟩
 ·refine .inl ⟨h1, ?_⟩
  rw [h.eq _ (by omega)]
  exact flOf_none xs _ (by rw [hn]; exact h1)
 ·refine .inr ⟨i, hi, h1, h2, ?_⟩
  rw [h.eq _ (by omega)]
  exact flOf_some xs _ i hi (by rw [hn]; exact h1)
theorem Same.tick {xs : List FR} {fl : Nat → Option (Pla × List Sea)} (h : Same xs fl) (nw : Int) : Same (xs.map (tickX nw)) (fun n => (fl n).map (tickF nw)) := by
 refine ⟨List.pairwise_map.2 h.sort, fun x hx => ?_, fun n hn => ?_⟩
 ·obtain ⟨y, hy, rfl⟩ := List.mem_map.1 hx
  exact h.rng y hy
 ·rw [flOf_tick]
  exact congrArg (Option.map (tickF nw)) (h.eq n hn)
theorem Same.set {xs : List FR} {fl : Nat → Option (Pla × List Sea)} (h : Same xs fl) (c : Int) (hc : 1 ≤ c ∧ c ≤ 20) (i : Nat) (hi : i < xs.length) (hf : findN xs c = i) (x : FR) (hx : x.f.num = xs[i].f.num) (y : Pla × List Sea) (hy : (x.f.pla.at x.f.ep, x.f.seats) = y) :
  Same (xs.set i x) (fun j => if j = c.toNat then some y else fl j) := by
 have hn : ((c.toNat : Nat) : Int) = c := by omega
 refine ⟨?_, fun z hz => ?_, fun n hn' => ?_⟩
 ·rw [List.pairwise_iff_getElem]
  intro a b ha hb hab
  have ha' : a < xs.length := by simpa using ha
  have hb' : b < xs.length := by simpa using hb
  have := (List.pairwise_iff_getElem.1 h.sort) a b ha' hb' hab
  rw [List.getElem_set, List.getElem_set]
  split
  ·rename_i e1
   subst e1
   rw [if_neg (by omega), hx]
   exact this
  ·split
   ·rename_i e2
    subst e2
    rw [hx]
    exact this
   ·exact this
 ·obtain ⟨a, ha, rfl⟩ := List.getElem_of_mem hz
  have ha' : a < xs.length := by simpa using ha
  rw [List.getElem_set]
  split
  ·rw [hx]; exact h.rng _ (List.getElem_mem hi)
  ·exact h.rng _ (List.getElem_mem ha')
 ·rw [flOf_set xs c.toNat i hi (by rw [hn]; exact hf) x hx n, hy]
  by_cases e : n = c.toNat
  ·rw [if_pos e, if_pos e]
  ·rw [if_neg e, if_neg e, h.eq n hn']
theorem flOf_ins (xs : List FR) (x : FR) (n : Nat) (c : Nat) (hx : x.f.num = (c : Int)) (hno : ∀ y ∈ xs, y.f.num ≠ (c : Int)) (j : Nat) :
  flOf (xs.take n ++ x :: xs.drop n) j = if j = c then some (x.f.pla.at x.f.ep, x.f.seats) else flOf xs j := by
 unfold flOf
 rw [List.find?_append, List.find?_cons]
 by_cases e : j = c
 ·subst e
  rw [if_pos rfl]
  have h1 : (xs.take n).find? (fun y => y.f.num == (j : Int)) = none := List.find?_eq_none.2 (fun y hy => by have := hno y (List.mem_of_mem_take hy); simpa using this)
  rw [h1]
  simp [hx]
 ·rw [if_neg e]
  have e1 : (x.f.num == (j : Int)) = false := by rw [hx]; simp; omega
  rw [e1]
  have : xs.find? (fun y => y.f.num == (j : Int)) = ((xs.take n).find? (fun y => y.f.num == (j : Int))).or ((xs.drop n).find? (fun y => y.f.num == (j : Int))) := by
   rw [← List.find?_append, List.take_append_drop]
  rw [this]
theorem findN_miss {xs : List FR} {c : Int} (h : findN xs c = -1) : ∀ y ∈ xs, y.f.num ≠ c := by
 intro y hy e
 unfold findN at h
 cases h2 : xs.findIdx? (fun x => x.f.num == c) with
 | none =>
  rw [List.findIdx?_eq_none_iff] at h2
  have := h2 y hy
  simp [e] at this
 | some i => rw [h2] at h; simp only at h; omega
theorem Same.insert {xs : List FR} {fl : Nat → Option (Pla × List Sea)} (h : Same xs fl) (c : Int) (hc : 1 ≤ c ∧ c ≤ 20) (hf : findN xs c = -1) (n : Nat) (hn : n ≤ xs.length) (hlo : ∀ j (hj : j < xs.length), j < n → xs[j].f.num < c) (hhi : ∀ hj : n < xs.length, ¬ xs[n].f.num < c) (x : FR) (hx : x.f.num = c) (y : Pla × List Sea) (hy : (x.f.pla.at x.f.ep, x.f.seats) = y) :
  Same (xs.take n ++ x :: xs.drop n) (fun j => if j = c.toNat then some y else fl j) ∧ xs.length < 20 := by
 have hno := findN_miss hf
 have hcn : ((c.toNat : Nat) : Int) = c := by omega
 have hs : (xs.take n ++ x :: xs.drop n).Pairwise (fun x y => x.f.num < y.f.num) := by
  have htl : ∀ a ∈ xs.take n, a.f.num < c := fun a ha => by
   obtain ⟨j, hj, rfl⟩ := List.getElem_of_mem ha
   have hj' : j < n ∧ j < xs.length := by rw [List.length_take] at hj; omega
   rw [List.getElem_take]
   exact hlo j hj'.2 hj'.1
  have hdr : ∀ b ∈ xs.drop n, c < b.f.num := fun b hb => by
   obtain ⟨j, hj, rfl⟩ := List.getElem_of_mem hb
   have hj' : n + j < xs.length := by rw [List.length_drop] at hj; omega
   rw [List.getElem_drop]
   have h1 := hhi (by omega)
   have h2 := hno _ (List.getElem_mem (show n < xs.length by omega))
   rcases Nat.eq_zero_or_pos j with e | e
   ·subst e; simp only [Nat.add_zero]; omega
   ·have := (List.pairwise_iff_getElem.1 h.sort) n (n + j) (by omega) hj' (by omega)
    omega
  refine List.pairwise_append.2 ⟨h.sort.sublist (List.take_sublist n xs), List.pairwise_cons.2 ⟨fun b hb => by rw [hx]; exact hdr b hb, h.sort.sublist (List.drop_sublist n xs)⟩, fun a ha b hb => ?_⟩
  rcases List.mem_cons.1 hb with rfl | hb
  ·rw [hx]; exact htl a ha
  ·have := htl a ha
   have := hdr b hb
   omega
 have hr : ∀ z ∈ xs.take n ++ x :: xs.drop n, 1 ≤ z.f.num ∧ z.f.num ≤ 20 := fun z hz => by
  rcases List.mem_append.1 hz with hz | hz
  ·exact h.rng z (List.mem_of_mem_take hz)
  ·rcases List.mem_cons.1 hz with rfl | hz
   ·rw [hx]; exact hc
   ·exact h.rng z (List.mem_of_mem_drop hz)
 refine ⟨⟨hs, hr, fun j hj => ?_⟩, ?_⟩
 ·rw [flOf_ins xs x n c.toNat (by rw [hcn]; exact hx) (by rw [hcn]; exact hno) j, hy]
  by_cases e : j = c.toNat
  ·rw [if_pos e, if_pos e]
  ·rw [if_neg e, if_neg e, h.eq j hj]
 ·have := sorted_len _ 0 hs (fun z hz => ⟨by have := hr z hz; omega, (hr z hz).2⟩) (by omega)
  simp at this
  omega
set_option maxHeartbeats 4000000
structure WDone (w w' : World) (ow : Nat → Nat) (wb : Nat) (now : Int) (fl : Nat → Option (Pla × List Sea)) : Prop where
 ex : ∃ v ys ow', WorR w' ow' wb v ys now ∧ Same ys fl ∧ (∀ k, ow' k ≠ 0 → ow k ≠ 0 ∨ w.heap.size ≤ k) ∧ (ys = [] → v = .slice none 0 0)
 mod : Mod (fun k => ow k ≠ 0) w w'
theorem WDone.same {w w' : World} {ow : Nat → Nat} {wb : Nat} {v : Value} {xs : List FR} {now : Int} {fl : Nat → Option (Pla × List Sea)} (h : WorR w ow wb v xs now) (hs : Same xs fl) (hv : xs = [] → v = .slice none 0 0) (hm : Mod No w w') : WDone w w' ow wb now fl :=
 ⟨⟨v, xs, ow, h.mod hm (fun _ _ x => x), hs, fun k hk => .inl hk, hv⟩, hm.mono (fun _ _ x => x.elim)⟩
theorem WDone.first {a w w' : World} {ow : Nat → Nat} {wb : Nat} {now : Int} {fl : Nat → Option (Pla × List Sea)} (h : WDone w w' ow wb now fl) (hm : Mod No a w) : WDone a w' ow wb now fl := by
 obtain ⟨⟨v, ys, ow', h1, h2, h3, h5⟩, h4⟩ := h
 exact ⟨⟨v, ys, ow', h1, h2, fun k hk => (h3 k hk).imp (fun x => x) (fun x => Nat.le_trans hm.size x), h5⟩, (hm.mono (fun _ _ x => x.elim)).trans h4⟩
theorem lim_ep (p : Pla) (e : Int) (j : Nat) : (p.at e).lim j = p.lim j := by
 match j with
 | 0 => rfl
 | 1 => rfl
 | 2 => rfl
 | _ + 3 => rfl
theorem least_ep (p : Pla) (e : Int) (l : List Sea) : ∀ c, leastTo (p.at e) l c = leastTo p l c
 | 0 => rfl
 | c + 1 => by
  unfold leastTo
  rw [least_ep p e l c, lim_ep]
theorem left_ep (p : Pla) (e : Int) (l : List Sea) (c : Nat) : M.leftOf (p.at e) l c = M.leftOf p l c := by
 unfold M.leftOf
 rw [least_ep]
theorem seatErr_ep (p : Pla) (e : Int) (l : List Sea) (c : Cmd) (now : Int) : seatErr (p.at e) l c now = seatErr p l c now := by
 have h1 : ∀ r q, (p.at e).has r q = p.has r q := fun _ _ => rfl
 have h2 : ∀ r q, seatAt (p.at e) l r q = seatAt p l r q := fun _ _ => rfl
 unfold seatErr
 simp only [h1, h2, left_ep]
theorem seatNew_ep (p : Pla) (e : Int) (l : List Sea) (c : Cmd) (hk : c.kind ≠ 9) : seatNew (p.at e) l c = seatNew p l c := by
 have h1 : ∀ r q, (p.at e).idx r q = p.idx r q := fun _ _ => rfl
 have h2 : ∀ r q, seatAt (p.at e) l r q = seatAt p l r q := fun _ _ => rfl
 unfold seatNew
 rw [if_neg hk, if_neg hk]
 simp only [h1, h2]
theorem doK_bad {now : Int} {fl : Nat → Option (Pla × List Sea)} {c : Cmd} (h : c.kind < 1 ∨ c.kind > 9) : doK now fl c = (1, now, fl) := by
 unfold doK
 rw [if_pos h]
theorem doK_tick {now : Int} {fl : Nat → Option (Pla × List Sea)} {c : Cmd} (h : c.kind = 8) (ht : 1 ≤ c.time ∧ c.time ≤ 100) : doK now fl c = (0, now + c.time, fun n => (fl n).map (tickF (now + c.time))) := by
 unfold doK
 rw [if_neg (by omega), if_pos h, if_pos ht]
theorem doK_tock {now : Int} {fl : Nat → Option (Pla × List Sea)} {c : Cmd} (h : c.kind = 8) (ht : ¬ (1 ≤ c.time ∧ c.time ≤ 100)) : doK now fl c = (8, now, fl) := by
 unfold doK
 rw [if_neg (by omega), if_pos h, if_neg ht]
theorem doK_num {now : Int} {fl : Nat → Option (Pla × List Sea)} {c : Cmd} (h : ¬ (c.kind < 1 ∨ c.kind > 9)) (h8 : c.kind ≠ 8) (hf : ¬ (1 ≤ c.flight ∧ c.flight ≤ 20)) : doK now fl c = (2, now, fl) := by
 unfold doK
 rw [if_neg h, if_neg h8, if_pos hf]
theorem doK_none {now : Int} {fl : Nat → Option (Pla × List Sea)} {c : Cmd} (h : ¬ (c.kind < 1 ∨ c.kind > 9)) (h8 : c.kind ≠ 8) (hf : 1 ≤ c.flight ∧ c.flight ≤ 20) (hn : fl c.flight.toNat = none) :
  doK now fl c = if c.kind = 1 then (if c.pla.sized = true ∧ c.pla.limited = true then (0, now, fun j => if j = c.flight.toNat then some (c.pla.at 1, emptySeats c.pla) else fl j) else (4, now, fl)) else (2, now, fl) := by
 unfold doK
 rw [if_neg h, if_neg h8, if_neg (by omega), hn]
theorem doK_some {now : Int} {fl : Nat → Option (Pla × List Sea)} {c : Cmd} (h : ¬ (c.kind < 1 ∨ c.kind > 9)) (h8 : c.kind ≠ 8) (hf : 1 ≤ c.flight ∧ c.flight ≤ 20) {x : Pla × List Sea} (hn : fl c.flight.toNat = some x) :
  doK now fl c = if c.kind = 1 then (3, now, fl) else if seatErr x.1 x.2 c now = 0 then (0, now, fun j => if j = c.flight.toNat then some (planNew x.1 c, seatNew x.1 x.2 c) else fl j) else (seatErr x.1 x.2 c now, now, fl) := by
 unfold doK
 rw [if_neg h, if_neg h8, if_neg (by omega), hn]
theorem seatX_same (c : Cmd) (hk : c.kind ≠ 9) (now : Int) (x : FR) (h : seatErr x.f.pla x.f.seats c now = 0) :
  ((seatX c now x).f.pla.at (seatX c now x).f.ep, (seatX c now x).f.seats) = (planNew (x.f.pla.at x.f.ep) c, seatNew (x.f.pla.at x.f.ep) x.f.seats c) := by
 unfold seatX seatL planNew
 simp only
 rw [if_pos h, if_pos h, if_neg hk, seatNew_ep _ _ _ _ hk]
 rfl
theorem seatX_not (c : Cmd) (now : Int) (x : FR) (h : seatErr x.f.pla x.f.seats c now ≠ 0) : seatX c now x = x := by
 unfold seatX seatL
 rw [if_neg h, if_neg h]
theorem spot : ∀ (xs : List FR) (c : Int), ∃ n, n ≤ xs.length ∧ (∀ j (hj : j < xs.length), j < n → xs[j].f.num < c) ∧ ∀ hj : n < xs.length, ¬ xs[n].f.num < c
 | [], c => ⟨0, Nat.le_refl _, fun j hj => absurd hj (Nat.not_lt_zero _), fun hj => absurd hj (Nat.not_lt_zero _)⟩
 | x :: xs, c => by
  by_cases h : x.f.num < c
  ·obtain ⟨n, h1, h2, h3⟩ := spot xs c
   refine ⟨n + 1, by simpa using h1, fun j hj hjn => ?_, fun hj => by simpa using h3 (by simpa using hj)⟩
   cases j with
   | zero => exact h
   | succ j => simpa using h2 j (by simpa using hj) (by omega)
  ·exact ⟨0, Nat.zero_le _, fun j hj hjn => absurd hjn (Nat.not_lt_zero _), fun hj => h⟩
theorem Same.room {xs : List FR} {fl : Nat → Option (Pla × List Sea)} (h : Same xs fl) (c : Int) (hc : 1 ≤ c ∧ c ≤ 20) (hf : findN xs c = -1) : xs.length < 20 := by
 obtain ⟨n, h1, h2, h3⟩ := spot xs c
 exact (h.insert c hc hf n h1 h2 h3 (addX c ⟨0, 0, 0, 0, 0, 0, 0, 0⟩ 0 0) rfl _ rfl).2
theorem wdo_any {w : World} {ow : Nat → Nat} {wb : Nat} {v : Value} {xs : List FR} {now : Int} {fl : Nat → Option (Pla × List Sea)} (h : WorR w ow wb v xs now) (hs : Same xs fl) (c : Cmd) (ht : -9223372036854775808 ≤ c.time ∧ c.time ≤ 9223372036854775807)
  (hn : 0 ≤ now ∧ now ≤ 4611686018427387000) (hk9 : c.kind ≠ 9) (hv : xs = [] → v = .slice none 0 0) :
  Calls Tryz.prog 27 #[.pointer (some ⟨wb, 0, none⟩), .agg (cmdCells c)] w fun e w' => e = .returned (.int .i64 (doK now fl c).1) ∧ WDone w w' ow wb (doK now fl c).2.1 (doK now fl c).2.2 := by
 by_cases k0 : c.kind < 1 ∨ c.kind > 9
 ·rw [doK_bad k0]
  exact (wdo_bad wb c w k0).mono fun e w' ⟨he, hm⟩ => ⟨he, WDone.same h hs hv hm⟩
 by_cases k8 : c.kind = 8
 ·by_cases tt : 1 ≤ c.time ∧ c.time ≤ 100
  ·rw [doK_tick k8 tt]
   obtain ⟨kind, flight, ar, ac, tr, tc, party, cls, time, pl⟩ := c
   simp only at k8 tt
   subst k8
   rcases h.fls with ⟨rfl, rfl⟩ | ⟨gf, cap, rfl, _, _⟩
   ·refine wdo_tick wb flight ar ac tr tc party cls time pl w 0 (fun w' => WDone w w' ow wb (now + time) (fun n => (fl n).map (tickF (now + time)))) (fun W hW => ?_)
    refine (tick_none wb time now W tt hn (hW.has h.has (fun x => x))).mono ?_
    rintro e w' ⟨rfl, rfl⟩
    have h1 := (h.mod hW (fun _ _ x => x)).nowSet (now + time)
    have hm : Mod (fun k => ow k ≠ 0) W (W.setCell ⟨wb, 1, none⟩ (.int .i64 (now + time))) := (Mod.refl _ W).setCell (p := ⟨wb, 1, none⟩) (.inl (by rw [h.mine]; omega)) _
    exact ⟨rfl, WDone.first ⟨⟨_, [], ow, h1, hs.tick (now + time), fun k hk => .inl hk, fun _ => rfl⟩, hm⟩ hW⟩
   ·by_cases hne : 0 < xs.length
    ·refine wdo_tick wb flight ar ac tr tc party cls time pl w 0 (fun w' => WDone w w' ow wb (now + time) (fun n => (fl n).map (tickF (now + time)))) (fun W hW => ?_)
     refine (tick_row wb gf cap xs ow time now W tt hn (h.mod hW (fun _ _ x => x)) hne).mono ?_
     rintro e w' ⟨rfl, h1, hm⟩
     exact ⟨rfl, WDone.first ⟨⟨_, _, ow, h1, hs.tick (now + time), fun k hk => .inl hk, fun e => by rw [List.map_eq_nil_iff] at e; rw [e] at hne; exact absurd hne (Nat.lt_irrefl _)⟩, hm⟩ hW⟩
    ·have := hv (List.eq_nil_of_length_eq_zero (by omega))
     cases this
  ·rw [doK_tock k8 tt]
   obtain ⟨kind, flight, ar, ac, tr, tc, party, cls, time, pl⟩ := c
   simp only at k8 tt
   subst k8
   refine wdo_tick wb flight ar ac tr tc party cls time pl w 8 (fun w' => WDone w w' ow wb now fl) (fun W hW => ?_)
   exact (tick_out wb time W tt).mono fun e w' ⟨he, hw⟩ => ⟨he, by subst hw; exact WDone.same h hs hv hW⟩
 by_cases hf : 1 ≤ c.flight ∧ c.flight ≤ 20
 case neg =>
  rw [doK_num k0 k8 hf]
  have HF := fun W (hW : Mod No w W) => (h.mod hW (fun _ _ x => x)).find c.flight
  obtain ⟨kind, flight, ar, ac, tr, tc, party, cls, time, pl⟩ := c
  exact (wdo_num wb flight ar ac tr tc party cls time pl w kind (by simp only at *; omega) _ hf HF).mono fun e w' ⟨he, hm⟩ => ⟨he, WDone.same h hs hv hm⟩
 have HF := fun W (hW : Mod No w W) => (h.mod hW (fun _ _ x => x)).find c.flight
 rcases hs.find c.flight hf with ⟨f1, f2⟩ | ⟨i, hi, f1, f2, f3⟩
 ·rw [doK_none k0 k8 hf f2]
  by_cases k1 : c.kind = 1
  ·rw [if_pos k1]
   by_cases hp : c.pla.sized = true ∧ c.pla.limited = true
   ·rw [if_pos hp]
    have HA : ∀ W, Mod No w W → Calls Tryz.prog 53 #[.pointer (some ⟨wb, 0, none⟩), .agg (cmdCells c)] W fun e w' => e = .returned (.int .i64 0) ∧ WDone w w' ow wb now (fun j => if j = c.flight.toNat then some (c.pla.at 1, emptySeats c.pla) else fl j) := fun W hW => by
     have hW' := h.mod hW (fun _ _ x => x)
     have key : Calls Tryz.prog 53 #[.pointer (some ⟨wb, 0, none⟩), .agg (cmdCells c)] W fun e w' => e = .returned (.int .i64 0) ∧ AddedP W w' ow wb xs now c.flight c.pla := by
      rcases hW'.fls with ⟨rfl, rfl⟩ | ⟨gf, cap, rfl, _, _⟩
      ·exact added_nil hW' c f1 hp.1 hp.2
      ·by_cases hne : 0 < xs.length
       ·refine added_row hW' hne c f1 hp.1 hp.2 ?_
        exact hs.room c.flight hf f1
       ·have := hv (List.eq_nil_of_length_eq_zero (by omega))
        cases this
     refine key.mono ?_
     rintro e w' ⟨rfl, hm, v', n, g, cap, ow', q1, q2, q3, q4, q5⟩
     obtain ⟨s1, s2⟩ := hs.insert c.flight hf f1 n q1 q2 q3 (addX c.flight c.pla g cap) rfl (c.pla.at 1, emptySeats c.pla) rfl
     refine ⟨rfl, WDone.first ⟨⟨v', _, ow', q4, s1, q5, fun e => by simp at e⟩, hm.mono (fun k _ e => ?_)⟩ hW⟩
     subst e
     rw [h.mine]
     omega
    obtain ⟨kind, flight, ar, ac, tr, tc, party, cls, time, pl⟩ := c
    simp only at k1
    subst k1
    exact wdo_add wb flight ar ac tr tc party cls time pl w _ 0 _ hf HF HA
   ·rw [if_neg hp]
    have HA : ∀ W, Mod No w W → Calls Tryz.prog 53 #[.pointer (some ⟨wb, 0, none⟩), .agg (cmdCells c)] W fun e w' => e = .returned (.int .i64 4) ∧ WDone w w' ow wb now fl := fun W hW =>
     (added_shape (h.mod hW (fun _ _ x => x)) c f1 hp).mono fun e w' ⟨he, hm⟩ => ⟨he, WDone.same h hs hv (hW.trans hm)⟩
    obtain ⟨kind, flight, ar, ac, tr, tc, party, cls, time, pl⟩ := c
    simp only at k1
    subst k1
    exact wdo_add wb flight ar ac tr tc party cls time pl w _ 4 _ hf HF HA
  ·rw [if_neg k1]
   rw [f1] at HF
   obtain ⟨kind, flight, ar, ac, tr, tc, party, cls, time, pl⟩ := c
   exact (wdo_miss wb flight ar ac tr tc party cls time pl w kind (by simp only at *; omega) (-1) hf (by omega) k1 HF).mono fun e w' ⟨he, hm⟩ => ⟨he, WDone.same h hs hv hm⟩
 ·rw [doK_some k0 k8 hf f3]
  by_cases k1 : c.kind = 1
  ·rw [if_pos k1]
   have HA : ∀ W, Mod No w W → Calls Tryz.prog 53 #[.pointer (some ⟨wb, 0, none⟩), .agg (cmdCells c)] W fun e w' => e = .returned (.int .i64 3) ∧ WDone w w' ow wb now fl := fun W hW =>
    (added_twice (h.mod hW (fun _ _ x => x)) c i f1).mono fun e w' ⟨he, hm⟩ => ⟨he, WDone.same h hs hv (hW.trans hm)⟩
   obtain ⟨kind, flight, ar, ac, tr, tc, party, cls, time, pl⟩ := c
   simp only at k1
   subst k1
   exact wdo_add wb flight ar ac tr tc party cls time pl w _ 3 _ hf HF HA
  ·rw [if_neg k1]
   simp only
   rw [seatErr_ep]
   obtain ⟨gf, cap, rfl⟩ := h.some (by omega)
   have key := fun (kind flight ar ac tr tc party cls time : Int) (pl : Pla) (hc : c = ⟨kind, flight, ar, ac, tr, tc, party, cls, time, pl⟩) =>
    wdo_seat h kind flight ar ac tr tc party cls time pl (by subst hc; simp only at *; omega) (by subst hc; exact hf) (by subst hc; exact ht) hn i hi (by subst hc; exact f1)
   obtain ⟨kind, flight, ar, ac, tr, tc, party, cls, time, pl⟩ := c
   refine (key kind flight ar ac tr tc party cls time pl rfl).mono ?_
   rintro e w' ⟨rfl, h1, hm⟩
   by_cases hz : seatErr xs[i].f.pla xs[i].f.seats ⟨kind, flight, ar, ac, tr, tc, party, cls, time, pl⟩ now = 0
   ·rw [if_pos hz]
    refine ⟨by rw [hz], ⟨_, _, ow, h1, ?_, fun k hk => .inl hk, fun e => by have e2 := (List.set_eq_nil_iff _ _).1 e; rw [e2] at hi; exact absurd hi (Nat.not_lt_zero _)⟩, hm⟩
    exact hs.set flight hf i hi f1 (seatX ⟨kind, flight, ar, ac, tr, tc, party, cls, time, pl⟩ now xs[i]) rfl _ (seatX_same _ hk9 now xs[i] hz)
   ·rw [if_neg hz]
    rw [seatX_not _ _ _ hz, List.set_getElem_self] at h1
    exact ⟨rfl, ⟨_, _, ow, h1, hs, fun k hk => .inl hk, hv⟩, hm⟩
end Go.Proofs.YthhibagcpjeihaaGreat
