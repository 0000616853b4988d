import Derived.Test.YthhibagcpjeihaaGreatGRef12ToKeep3
import Derived.Deep.DeepCutAuto
/- The document's answer: time passes over all flights. -/
namespace Go.Proofs.YthhibagcpjeihaaGreat
open Go.RowKit
open M
set_option linter.unusedVariables false
set_option linter.unusedSimpArgs false
set_option maxRecDepth 100000
set_option maxHeartbeats 8000000

theorem WorR.parts {w : World} {ow : Nat → Nat} {wb gf cap : Nat} {xs ys : List FR} {now : Int} (h : WorR w ow wb (.slice (some ⟨gf, 0, none⟩) xs.length cap) ys now) (hl : ys.length = xs.length) (hne : 0 < xs.length) : ow gf = 2 ∧ RowF w gf cap ys := by
  rcases h.fls with ⟨rfl, h2⟩ | ⟨gf', cap', h1, h2, h3⟩
  · simp at hl; omega
  · injection h1 with e1 e2 e3
    injection e1 with e1
    injection e1 with e1
    subst e1 e3
    exact ⟨h3, h2⟩

theorem tick_step {w w3 : World} {ow : Nat → Nat} {wb gf cap : Nat} {xs : List FR} {nw : Int} {i : Nat} (hi : i < xs.length) (h : WorR w ow wb (.slice (some ⟨gf, 0, none⟩) xs.length cap) (mapTo (tickX nw) i xs) nw)
    (hr : RowS w3 xs[i].g xs[i].cap (tickSeats nw xs[i].f.seats)) (hm : Mod (fun k => k = xs[i].g) w w3) :
    (xs[i].f.seats.any (due nw) = false → WorR w3 ow wb (.slice (some ⟨gf, 0, none⟩) xs.length cap) (mapTo (tickX nw) (i + 1) xs) nw) ∧
    (xs[i].f.seats.any (due nw) = true → WorR (w3.setCell ⟨gf, i * 10 + 9, none⟩ (.int .i64 (IntKind.i64.wrap (xs[i].f.ep + 1)))) ow wb (.slice (some ⟨gf, 0, none⟩) xs.length cap) (mapTo (tickX nw) (i + 1) xs) nw) := by
  have hlt : i < (mapTo (tickX nw) i xs).length := by rw [mapTo_len]; exact hi
  have hg := mapTo_get (tickX nw) i xs hi
  have hs := mapTo_succ (tickX nw) i xs hi
  have hwf : Wf xs[i].f.pla xs[i].f.seats := by have := (h.seats i hlt).2.2; rwa [hg] at this
  have h1 := h.seatsSet (w' := w3) i hlt (tickSeats nw xs[i].f.seats) (by rw [hg]; simp [tickSeats]) (by rw [hg]; exact tick_wf hwf nw) (by rw [hg]; exact hr) (by rw [hg]; exact hm)
  simp only [hg] at h1
  refine ⟨fun hd => ?_, fun hd => ?_⟩
  · rw [hs]
    unfold tickX
    simp only [hd]
    exact h1
  · have hl2 : (List.set (mapTo (tickX nw) i xs) i ⟨⟨xs[i].f.num, xs[i].f.pla, tickSeats nw xs[i].f.seats, xs[i].f.ep⟩, xs[i].g, xs[i].cap⟩).length = xs.length := by rw [List.length_set, mapTo_len]
    have e : (Value.slice (some ⟨gf, 0, none⟩) xs.length cap) = .slice (some ⟨gf, 0, none⟩) (List.set (mapTo (tickX nw) i xs) i ⟨⟨xs[i].f.num, xs[i].f.pla, tickSeats nw xs[i].f.seats, xs[i].f.ep⟩, xs[i].g, xs[i].cap⟩).length cap := by rw [hl2]
    rw [e] at h1
    have h2 := h1.epSet i (by rw [hl2]; exact hi) (IntKind.i64.wrap (xs[i].f.ep + 1))
    rw [← e] at h2
    simp only [List.getElem_set_self, List.set_set] at h2
    rw [hs]
    unfold tickX
    simp only [hd, if_true]
    exact h2

theorem tick_row (wb gf cap : Nat) (xs : List FR) (ow : Nat → Nat) (n now : Int) (w : World) (hn : 1 ≤ n ∧ n ≤ 100) (hnow : 0 ≤ now ∧ now ≤ 4611686018427387000) (h : WorR w ow wb (.slice (some ⟨gf, 0, none⟩) xs.length cap) xs now) (hne : 0 < xs.length) :
    Calls Tryz.prog 51 #[.pointer (some ⟨wb, 0, none⟩), .int .i64 n] w fun e w' => e = .returned (.int .i64 0) ∧ WorR w' ow wb (.slice (some ⟨gf, 0, none⟩) xs.length cap) (xs.map (tickX (now + n))) (now + n) ∧ Mod (fun k => ow k ≠ 0) w w' := by
  have hc := h.has.cell
  have hf := h.has.frozen
  have h1 : ¬ n < 1 := by omega
  have h2 : ¬ n > 100 := by omega
  have hw : IntKind.i64.wrap (now + n) = now + n := wrap_fit _ (by omega) (by omega)
  have I0 := hide (h.nowSet (now + n))
  have M0 := hide (show Mod (fun k => ow k ≠ 0) w (w.setCell ⟨wb, 1, none⟩ (.int .i64 (now + n))) from (Mod.refl _ w).setCell (p := ⟨wb, 1, none⟩) (.inl (by show ow wb ≠ 0; rw [h.mine]; omega)) _)
  have few := h.few
  have MINE := hide h.mine
  have NE := hide hne
  clear h hne
  go_enter Tryz.func51, Tryz.ntmps51
  go_wp2_with fail
  go_loopw [5] (fun s5 wr => ∃ i : Nat, s5 = .int .i64 i ∧ i ≤ xs.length ∧ Hid (WorR wr ow wb (.slice (some ⟨gf, 0, none⟩) xs.length cap) (mapTo (tickX (now + n)) i xs) (now + n)) ∧ Hid (Mod (fun k => ow k ≠ 0) w wr)) (fun s5 _ => xs.length - (intOf s5).toNat)
  case atStart => exact ⟨0, rfl, by omega, by rw [mapTo_zero]; exact I0, M0⟩
  case round =>
    obtain ⟨i, rfl, hi, I1, M1⟩ := hrel
    clear I0 M0 hc hf
    have hc1 := (unhide I1).has.cell
    by_cases hix : i < xs.length
    · have hixi : (i : Int) < (xs.length : Int) := by omega
      have h0i : (0 : Int) ≤ i := by omega
      have hi1 : IntKind.i64.wrap ((i : Int) + 1) = ((i + 1 : Nat) : Int) := by rw [wrap_id _ (by omega) (by omega)]; rfl
      have hlt : i < (mapTo (tickX (now + n)) i xs).length := by rw [mapTo_len]; exact hix
      obtain ⟨og, rf⟩ := (unhide I1).parts (by rw [mapTo_len]) (unhide NE)
      obtain ⟨rs, os, wf⟩ := (unhide I1).seats i hlt
      rw [mapTo_get _ _ _ hix] at rs os wf
      have sl := rf.cell i hlt 8 (by omega)
      have ec := rf.cell i hlt 9 (by omega)
      rw [mapTo_get _ _ _ hix] at sl ec
      have sl : wr.cell? ⟨gf, i * 10 + 8, none⟩ = some (.slice (some ⟨xs[i].g, 0, none⟩) xs[i].f.seats.length xs[i].cap) := sl
      have ec : wr.cell? ⟨gf, i * 10 + 9, none⟩ = some (.int .i64 xs[i].f.ep) := ec
      have nc : wr.cell? ⟨wb, 1, none⟩ = some (.int .i64 (now + n)) := (unhide I1).has.cell 1
      have gne : ¬ gf = xs[i].g := fun e => by rw [e, os] at og; omega
      have wne : ¬ wb = xs[i].g := fun e => by have := unhide MINE; rw [e, os] at this; omega
      have SL := hide fun W (hW : Mod (fun k => k = xs[i].g) wr W) => cell_keep hW sl gne
      have EC := hide fun W (hW : Mod (fun k => k = xs[i].g) wr W) => cell_keep hW ec gne
      have NC := hide fun W (hW : Mod (fun k => k = xs[i].g) wr W) => cell_keep hW nc wne
      have V0 := hide fun W (hW : Mod (fun k => k = xs[i].g) wr W) => (show W.cell? ⟨wb, 0, none⟩ = some (.slice (some ⟨gf, 0, none⟩) xs.length cap) from cell_keep hW ((unhide I1).has.cell 0) wne)
      have GFZ := hide fun W (hW : Mod (fun k => k = xs[i].g) wr W) => (rf.mod hW gne)
      have RS := hide rs
      have WF := hide wf
      have hl120 : xs[i].f.seats.length ≤ 120 := wf_len wf
      have ST := hide fun (w3 : World) => tick_step (w3 := w3) hix (unhide I1)
      have OG := hide og
      have OS := hide os
      clear rs os wf ec nc gne wne rf og
      have hep : ∃ ep, xs[i].f.ep = ep := ⟨_, rfl⟩
      obtain ⟨ep, hep⟩ := hep
      rw [hep] at EC ST
      generalize xs[i].f.seats = l at *
      generalize xs[i].g = g at *
      generalize xs[i].cap = cp at *
      clear hep
      generalize wr = w0 at *
      go_wp2_with fail
      go_loopw [7, 8] (fun s7 s8 wx => ∃ k : Nat, s8 = .int .i64 k ∧ s7 = .bool (anyTo (due (now + n)) k l) ∧ k ≤ l.length ∧ Hid (RowS wx g cp (mapTo (dueF (now + n)) k l)) ∧ Hid (Mod (fun k => k = g) w0 wx)) (fun _ s8 _ => l.length - (intOf s8).toNat)
      case atStart => exact ⟨0, rfl, rfl, by omega, by rw [mapTo_zero]; exact RS, Mod.refl _ _⟩
      case round =>
        obtain ⟨k, rfl, rfl, hk, R2, M2⟩ := hrel
        have sl2 := (unhide SL) _ (unhide M2)
        have nc2 := (unhide NC) _ (unhide M2)
        have v02 := (unhide V0) _ (unhide M2)
        clear hc1 sl RS
        by_cases hkl : k < l.length
        · have hkli : (k : Int) < (l.length : Int) := by omega
          have h0k : (0 : Int) ≤ k := by omega
          have hk1 : IntKind.i64.wrap ((k : Int) + 1) = ((k + 1 : Nat) : Int) := by rw [wrap_id _ (by omega) (by omega)]; rfl
          have hkm : k < (mapTo (dueF (now + n)) k l).length := by rw [mapTo_len]; exact hkl
          have hgk := mapTo_get (dueF (now + n)) k l hkl
          have HGK := hide hgk
          have MS := hide (mapTo_succ (dueF (now + n)) k l hkl)
          have AS := hide (anyTo_succ (due (now + n)) k l hkl)
          clear hgk
          generalize hga : anyTo (due (now + n)) k l = ga at *
          clear hga
          go_upto_region 12 with fail
          go_cut [71] (fun s71 wx => s71 = .bool (due (now + n) l[k]) ∧ ∃ nq, wx = wr.drewN nq)
          case first =>
            have c2 := (unhide R2).st k hkm
            have c5 := (unhide R2).un k hkm
            rw [unhide HGK] at c2 c5
            by_cases d1 : l[k].st = 1
            · have e1 : (l[k].st == 1) = true := by simpa using d1
              by_cases d2 : l[k].un ≤ now + n
              · have e2 : decide (l[k].un ≤ now + n) = true := by simpa using d2
                have HD := hide (show due (now + n) l[k] = true from by unfold due; rw [e1, e2]; rfl)
                clear d1 d2
                go_quiet (fail)
                go_wp2
                go_meet
                exact ⟨by rw [unhide HD], _, rfl⟩
              · have e2 : decide (l[k].un ≤ now + n) = false := by simpa using d2
                have HD := hide (show due (now + n) l[k] = false from by unfold due; rw [e1, e2]; rfl)
                clear d1 d2
                go_quiet (fail)
                go_wp2
                go_meet
                exact ⟨by rw [unhide HD], _, rfl⟩
            · have e1 : (l[k].st == 1) = false := by simpa using d1
              have HD := hide (show due (now + n) l[k] = false from by unfold due; rw [e1]; rfl)
              clear d1
              go_quiet (fail)
              go_wp2
              go_meet
              exact ⟨by rw [unhide HD], _, rfl⟩
          case rest =>
            obtain ⟨rfl, nq, rfl⟩ := hcut
            have R3 := hide ((unhide R2).mod ((Mod.refl No wr).drewN nq) (fun x => x))
            have M3 := hide ((unhide M2).drewN nq)
            have sl3 := (unhide SL) _ (unhide M3)
            clear R2 M2 sl2 nc2 v02
            generalize wr.drewN nq = w5 at *
            have hb : due (now + n) l[k] = true ∨ due (now + n) l[k] = false := by cases due (now + n) l[k] <;> simp
            have DF : dueF (now + n) l[k] = if due (now + n) l[k] = true then l[k].freed else l[k] := rfl
            rcases hb with hd | hd
            · have P6 := hide ((unhide R3).put6 k hkm l[k].freed)
              have c0 := (unhide R3).row k hkm
              have c1 := (unhide R3).col k hkm
              have c2 := (unhide R3).st k hkm
              have c3 := (unhide R3).pa k hkm
              have c4 := (unhide R3).cl k hkm
              have c5 := (unhide R3).un k hkm
              rw [unhide HGK] at c0 c1 c2 c3 c4 c5
              have fz := (unhide R3).froz
              have HA := hide (show anyTo (due (now + n)) (k + 1) l = true from by rw [unhide AS, hd, Bool.or_true])
              have FIN := hide (show Hid (RowS ((((((w5.setCell ⟨g, k * 6, none⟩ (.int .i64 l[k].row)).setCell ⟨g, k * 6 + 1, none⟩ (.int .i64 l[k].col)).setCell ⟨g, k * 6 + 2, none⟩ (.int .i64 0)).setCell ⟨g, k * 6 + 3, none⟩ (.int .i64 0)).setCell ⟨g, k * 6 + 4, none⟩ (.int .i64 0)).setCell ⟨g, k * 6 + 5, none⟩ (.int .i64 0)).drew g cp (mapTo (dueF (now + n)) (k + 1) l)) ∧
                  Hid (Mod (fun k => k = g) w0 ((((((w5.setCell ⟨g, k * 6, none⟩ (.int .i64 l[k].row)).setCell ⟨g, k * 6 + 1, none⟩ (.int .i64 l[k].col)).setCell ⟨g, k * 6 + 2, none⟩ (.int .i64 0)).setCell ⟨g, k * 6 + 3, none⟩ (.int .i64 0)).setCell ⟨g, k * 6 + 4, none⟩ (.int .i64 0)).setCell ⟨g, k * 6 + 5, none⟩ (.int .i64 0)).drew) from
                ⟨by rw [unhide MS, DF, if_pos hd]; exact (unhide P6).mod (Mod.refl No _).drew (fun x => x), ((unhide M3).put6 (S := fun k => k = g) rfl k _ _ _ _ _ _).drew⟩)
              rw [hd]
              clear R3 M3 P6 DF HGK MS AS hd
              go_wp2_with fail
              go_region
              all_goals go_wp2
              all_goals exact ⟨⟨k + 1, rfl, by rw [unhide HA], by omega, (unhide FIN).1, (unhide FIN).2⟩, by simp [intOf]; omega⟩
            · have R4 := hide (show RowS w5 g cp (mapTo (dueF (now + n)) (k + 1) l) from by
                rw [unhide MS, DF, hd, ← unhide HGK]
                simp only [Bool.false_eq_true, if_false, List.set_getElem_self]
                exact unhide R3)
              have HA := hide (show anyTo (due (now + n)) (k + 1) l = ga from by rw [unhide AS, hd, Bool.or_false])
              rw [hd]
              clear R3 DF HGK MS AS hd
              go_wp2
              exact ⟨⟨k + 1, rfl, by rw [unhide HA], by omega, R4, M3⟩, by simp [intOf]; omega⟩
        · have hkli : ¬ (k : Int) < (l.length : Int) := by omega
          have e : k = l.length := by omega
          subst e
          rw [mapTo_full] at R2
          rw [anyTo_full]
          have R2 := hide (show RowS wr g cp (tickSeats (now + n) l) from unhide R2)
          have ec2 := (unhide EC) _ (unhide M2)
          have fz2 : ∀ o, wr.frozen? ⟨gf, o, none⟩ = false := by
            obtain ⟨cur, q1, _⟩ := ((unhide GFZ) _ (unhide M2)).cur
            exact q1.frozen
          obtain ⟨s1, s2⟩ := (unhide ST) wr (unhide R2) (unhide M2)
          have MG := hide (show Mod (fun k => ow k ≠ 0) w wr from (unhide M1).trans ((unhide M2).mono (fun k _ (e : k = g) => by show ow k ≠ 0; rw [e, unhide OS]; omega)))
          have hb : l.any (due (now + n)) = true ∨ l.any (due (now + n)) = false := by cases l.any (due (now + n)) <;> simp
          rcases hb with hd | hd
          · have FIN := hide (s2 hd)
            have ogx : ow gf ≠ 0 := by rw [unhide OG]; omega
            have MF := hide (show Mod (fun k => ow k ≠ 0) w (wr.setCell ⟨gf, i * 10 + 9, none⟩ (.int .i64 (IntKind.i64.wrap (ep + 1)))) from (unhide MG).setCell (p := ⟨gf, i * 10 + 9, none⟩) (.inl ogx) _)
            rw [show IntKind.i64.wrap (ep + 1) = wrap64 (ep + 1) from (by unfold wrap64; exact IntKind.wrap_i64 _)] at FIN MF
            rw [hd]
            clear s1 s2 hd R2 M2
            go_wp2
            exact ⟨⟨i + 1, rfl, by omega, FIN, MF⟩, by simp [intOf]; omega⟩
          · have FIN := hide (s1 hd)
            rw [hd]
            clear s1 s2 hd R2 M2
            go_wp2
            exact ⟨⟨i + 1, rfl, by omega, FIN, MG⟩, by simp [intOf]; omega⟩
    · have hixi : ¬ (i : Int) < (xs.length : Int) := by omega
      have e : i = xs.length := by omega
      subst e
      rw [mapTo_full] at I1
      clear NE MINE
      go_wp2
      go_ret
      exact ⟨rfl, unhide I1, unhide M1⟩
end Go.Proofs.YthhibagcpjeihaaGreat
/- The document's answer: what is left is told; how much must fit. -/
namespace Go.Proofs.YthhibagcpjeihaaGreat
open Go.RowKit
open M
set_option linter.unusedVariables false
set_option linter.unusedSimpArgs false
set_option maxRecDepth 100000
set_option maxHeartbeats 8000000

theorem WorR.flsV {w : World} {ow : Nat → Nat} {wb : Nat} {v : Value} {xs : List FR} {now : Int} (h : WorR w ow wb v xs now) : FlsV w v xs := by
  rcases h.fls with h1 | ⟨gf, cap, h1, h2, h3⟩
  · exact .inl h1
  · exact .inr ⟨gf, cap, h1, h2⟩

theorem WorR.find {w : World} {ow : Nat → Nat} {wb : Nat} {v : Value} {xs : List FR} {now : Int} (h : WorR w ow wb v xs now) (n : Int) :
    Calls Tryz.prog 52 #[.pointer (some ⟨wb, 0, none⟩), .int .i64 n] w fun e w' => e = .returned (.int .i64 (findN xs n)) ∧ w' = w :=
  rfind_any wb xs v n w (h.has.cell 0) h.flsV (Nat.le_trans h.few (by omega))

theorem WorR.some {w : World} {ow : Nat → Nat} {wb : Nat} {v : Value} {xs : List FR} {now : Int} (h : WorR w ow wb v xs now) (hne : 0 < xs.length) : ∃ gf cap, v = .slice (some ⟨gf, 0, none⟩) xs.length cap := by
  rcases h.fls with ⟨rfl, _⟩ | ⟨gf, cap, h1, _⟩
  · exact absurd hne (Nat.lt_irrefl _)
  · exact ⟨gf, cap, h1⟩

theorem wleft_no {w : World} {ow : Nat → Nat} {wb : Nat} {v : Value} {xs : List FR} {now : Int} (h : WorR w ow wb v xs now) (n c : Int) (hn : findN xs n = -1) :
    Calls Tryz.prog 34 #[.pointer (some ⟨wb, 0, none⟩), .int .i64 n, .int .i64 c] w fun e w' => e = .returned (.tuple #[.int .i64 0, .int .i64 2]) ∧ Mod No w w' := by
  have HF := h.find n
  rw [hn] at HF
  have HF := hide HF
  clear h hn
  go_enter Tryz.func34, Tryz.ntmps34
  go_wp2_with fail
  refine (unhide HF).mono ?_
  rintro e w1 ⟨rfl, rfl⟩
  go_wp2
  go_ret2
  exact ⟨rfl, Mod.refl _ _⟩

theorem wleft_class {w : World} {ow : Nat → Nat} {wb : Nat} {v : Value} {xs : List FR} {now : Int} (h : WorR w ow wb v xs now) (n c : Int) (i : Nat) (hn : findN xs n = i) (hc : ¬ (0 ≤ c ∧ c < 4)) :
    Calls Tryz.prog 34 #[.pointer (some ⟨wb, 0, none⟩), .int .i64 n, .int .i64 c] w fun e w' => e = .returned (.tuple #[.int .i64 0, .int .i64 6]) ∧ Mod No w w' := by
  have HF := h.find n
  rw [hn] at HF
  have HF := hide HF
  have h0 : ¬ (i : Int) < 0 := by omega
  clear h hn
  rcases Int.lt_or_le c 0 with h1 | h1
  · clear hc
    go_enter Tryz.func34, Tryz.ntmps34
    go_wp2_with fail
    refine (unhide HF).mono ?_
    rintro e w1 ⟨rfl, rfl⟩
    go_wp2
    go_ret2
    exact ⟨rfl, Mod.refl _ _⟩
  · have h2 : ¬ c < 0 := by omega
    have h3 : c ≥ 4 := by omega
    clear hc
    go_enter Tryz.func34, Tryz.ntmps34
    go_wp2_with fail
    refine (unhide HF).mono ?_
    rintro e w1 ⟨rfl, rfl⟩
    go_wp2
    go_ret2
    exact ⟨rfl, Mod.refl _ _⟩

theorem wleft_yes {w : World} {ow : Nat → Nat} {wb gf cap : Nat} {xs : List FR} {now : Int} (h : WorR w ow wb (.slice (some ⟨gf, 0, none⟩) xs.length cap) xs now) (n : Int) (i : Nat) (hi : i < xs.length) (hn : findN xs n = i) (k : Nat) (hk : k < 4) :
    Calls Tryz.prog 34 #[.pointer (some ⟨wb, 0, none⟩), .int .i64 n, .int .i64 k] w fun e w' => e = .returned (.tuple #[.int .i64 (min (M.leftOf xs[i].f.pla xs[i].f.seats k) 9), .int .i64 0]) ∧ Mod No w w' := by
  have HF := h.find n
  rw [hn] at HF
  have HF := hide HF
  have fl := h.fl i hi
  have wf := (h.seats i hi).2.2
  have HL := hide (rleft_any gf (i * 10) xs[i].g xs[i].cap xs[i].f.pla xs[i].f.seats k hk w fl.row fl.len fl.slice (limited_bounds wf.limited) fl.lims)
  have hc := h.has.cell
  have h0 : ¬ (i : Int) < 0 := by omega
  have h1 : (i : Int) < (xs.length : Int) := by omega
  have h2 : ¬ (k : Int) < 0 := by omega
  have h3 : ¬ (k : Int) ≥ 4 := by omega
  clear h hn fl wf
  generalize M.leftOf xs[i].f.pla xs[i].f.seats k = lf at *
  by_cases h9 : lf > 9
  · have HE := hide (show min lf 9 = 9 by omega)
    go_enter Tryz.func34, Tryz.ntmps34
    go_wp2_with fail
    refine (unhide HF).mono ?_
    rintro e w1 ⟨rfl, rfl⟩
    go_wp2_with fail
    refine (unhide HL).mono ?_
    rintro e w2 ⟨rfl, m2⟩
    go_wp2
    go_ret2
    exact ⟨by rw [unhide HE]; rfl, m2⟩
  · have HE := hide (show min lf 9 = lf by omega)
    go_enter Tryz.func34, Tryz.ntmps34
    go_wp2_with fail
    refine (unhide HF).mono ?_
    rintro e w1 ⟨rfl, rfl⟩
    go_wp2_with fail
    refine (unhide HL).mono ?_
    rintro e w2 ⟨rfl, m2⟩
    go_wp2
    go_ret2
    exact ⟨by rw [unhide HE]; rfl, m2⟩

theorem rfits_any (m c r : Int) (hm : 0 ≤ m ∧ m ≤ 1000000) (hc : 0 ≤ c ∧ c ≤ 1099511627776) (w : World) :
    Calls Tryz.prog 21 #[.int .i64 m, .int .i64 c, .int .i64 r] w fun e w' => e = .returned (.bool (decide (2 * m + 60 * (c + 1) + 180 ≤ r))) ∧ w' = w := by
  have w1 : IntKind.i64.wrap (2 * m) = 2 * m := wrap_fit _ (by omega) (by omega)
  have w2 : IntKind.i64.wrap (c + 1) = c + 1 := wrap_fit _ (by omega) (by omega)
  have w3 : IntKind.i64.wrap (60 * (c + 1)) = 60 * (c + 1) := wrap_fit _ (by omega) (by omega)
  have w4 : IntKind.i64.wrap (2 * m + 60 * (c + 1)) = 2 * m + 60 * (c + 1) := wrap_fit _ (by omega) (by omega)
  have w5 : IntKind.i64.wrap (2 * m + 60 * (c + 1) + 180) = 2 * m + 60 * (c + 1) + 180 := wrap_fit _ (by omega) (by omega)
  go_enter Tryz.func21, Tryz.ntmps21
  go_wp2
  go_ret
  exact ⟨rfl, rfl⟩
end Go.Proofs.YthhibagcpjeihaaGreat
/- A keeper looks a command over. -/
namespace Go.Proofs.YthhibagcpjeihaaGreat
open Go.RowKit
open Go.ChangeMaps (setBlock)
open M
set_option linter.unusedVariables false
set_option linter.unusedSimpArgs false
set_option maxRecDepth 100000
set_option maxHeartbeats 2000000

theorem tickLook_yes (t now : Int) (w : World) (h1 : 1 ≤ t) (h2 : t ≤ 100) (hn : 0 ≤ now ∧ now ≤ 4611686018427387000) :
    Calls Tryz.prog 75 #[.int .i64 t, .int .i64 now] w fun e w' => e = .returned (.tuple #[passV (now + t), .int .i64 0]) ∧ w' = w := by
  have h1' : ¬ t < 1 := by omega
  have h2' : ¬ t > 100 := by omega
  have hw : IntKind.i64.wrap (now + t) = now + t := wrap_id _ (by omega) (by omega)
  go_enter Tryz.func75, Tryz.ntmps75
  go_wp2
  go_ret2
  exact ⟨rfl, rfl⟩

theorem tickLook_out (t now : Int) (w : World) (h : ¬ (1 ≤ t ∧ t ≤ 100)) :
    Calls Tryz.prog 75 #[.int .i64 t, .int .i64 now] w fun e w' => e = .returned (.tuple #[.nilIface, .int .i64 8]) ∧ w' = w := by
  by_cases h1 : t < 1
  · go_enter Tryz.func75, Tryz.ntmps75
    go_wp2
    go_ret2
    exact ⟨rfl, rfl⟩
  · have h2 : t > 100 := by omega
    go_enter Tryz.func75, Tryz.ntmps75
    go_wp2
    go_ret2
    exact ⟨rfl, rfl⟩

theorem klook_bad (kb : Nat) (c : Cmd) (hk : c.kind < 1 ∨ c.kind > 9) (w : World) :
    Calls Tryz.prog 49 #[.pointer (some ⟨kb, 0, none⟩), .agg (cmdCells c)] w fun e w' => e = .returned (refuse 1) ∧ Mod No w w' := by
  have M0 := hide ((Mod.refl No w).alloc (.cells (cmdCells c) 41))
  unfold cmdCells at M0 ⊢
  rcases Int.lt_or_le c.kind 1 with h1 | h1
  · clear hk
    go_enter Tryz.func49, Tryz.ntmps49
    go_wp2
    go_ret2
    exact ⟨rfl, unhide M0⟩
  · have h2 : c.kind > 9 := by omega
    have h1' : ¬ c.kind < 1 := by omega
    clear hk
    go_enter Tryz.func49, Tryz.ntmps49
    go_wp2
    go_ret2
    exact ⟨rfl, unhide M0⟩

theorem klook_tick (kb : Nat) (c : Cmd) (now : Int) (x y : Value) (hk : c.kind = 8) (w : World)
    (hN : ∀ W, Mod No w W → Calls Tryz.prog 32 #[.pointer (some ⟨kb, 0, none⟩)] W fun e w' => e = .returned (.int .i64 now) ∧ w' = W)
    (hT : ∀ W, Calls Tryz.prog 75 #[.int .i64 c.time, .int .i64 now] W fun e w' => e = .returned (.tuple #[x, y]) ∧ w' = W) :
    Calls Tryz.prog 49 #[.pointer (some ⟨kb, 0, none⟩), .agg (cmdCells c)] w fun e w' => e = .returned (.tuple #[x, y]) ∧ Mod No w w' := by
  have HN := hide hN
  have HT := hide hT
  have M0 := hide ((Mod.refl No w).alloc (.cells (cmdCells c) 41))
  unfold cmdCells at M0 ⊢
  rw [hk] at M0 ⊢
  clear hN hT hk
  go_enter Tryz.func49, Tryz.ntmps49
  go_wp2_with fail
  go_quiet (first | (go_at_call 32; exact Calls.quiet_of_same ((unhide HN) _ ((unhide M0).drewN _))) | (go_at_call 75; exact Calls.quiet_of_same ((unhide HT) _)))
  go_wp2
  go_ret2
  exact ⟨rfl, (unhide M0).drewN _⟩

theorem klook_num (kb : Nat) (c : Cmd) (hk : 1 ≤ c.kind ∧ c.kind ≤ 9 ∧ c.kind ≠ 8) (hf : ¬ (1 ≤ c.flight ∧ c.flight ≤ 20)) (w : World) :
    Calls Tryz.prog 49 #[.pointer (some ⟨kb, 0, none⟩), .agg (cmdCells c)] w fun e w' => e = .returned (refuse 2) ∧ Mod No w w' := by
  have M0 := hide ((Mod.refl No w).alloc (.cells (cmdCells c) 41))
  unfold cmdCells at M0 ⊢
  have h1 : ¬ c.kind < 1 := by omega
  have h2 : ¬ c.kind > 9 := by omega
  have h3 : (c.kind == 8) = false := by simp [hk.2.2]
  rcases Int.lt_or_le c.flight 1 with f1 | f1
  · clear hk hf
    go_enter Tryz.func49, Tryz.ntmps49
    go_wp2
    go_ret2
    exact ⟨rfl, unhide M0⟩
  · have f2 : c.flight > 20 := by omega
    have f1' : ¬ c.flight < 1 := by omega
    clear hk hf
    go_enter Tryz.func49, Tryz.ntmps49
    go_wp2
    go_ret2
    exact ⟨rfl, unhide M0⟩

theorem klook_twice (kb b : Nat) (c : Cmd) (hk : c.kind = 1) (hf : 1 ≤ c.flight ∧ c.flight ≤ 20) (w : World)
    (hF : ∀ W, Mod No w W → Calls Tryz.prog 59 #[.pointer (some ⟨kb, 0, none⟩), .int .i64 c.flight] W fun e w' => e = .returned (.pointer (some ⟨b, 0, none⟩)) ∧ w' = W) :
    Calls Tryz.prog 49 #[.pointer (some ⟨kb, 0, none⟩), .agg (cmdCells c)] w fun e w' => e = .returned (refuse 3) ∧ Mod No w w' := by
  have HF := hide hF
  have M0 := hide ((Mod.refl No w).alloc (.cells (cmdCells c) 41))
  have B0 := hide (Has.new w (cmdCells c) 41)
  unfold cmdCells at M0 B0 ⊢
  rw [hk] at M0 B0 ⊢
  have f1 : ¬ c.flight < 1 := by omega
  have f2 : ¬ c.flight > 20 := by omega
  clear hF hk hf
  go_enter Tryz.func49, Tryz.ntmps49
  go_wp2_with fail
  refine ((unhide HF) _ (unhide M0)).mono ?_
  rintro e w1 ⟨rfl, rfl⟩
  go_wp2
  go_ret2
  exact ⟨rfl, unhide M0⟩

theorem klook_add (kb : Nat) (c : Cmd) (x y : Value) (hk : c.kind = 1) (hf : 1 ≤ c.flight ∧ c.flight ≤ 20) (w : World)
    (hF : ∀ W, Mod No w W → Calls Tryz.prog 59 #[.pointer (some ⟨kb, 0, none⟩), .int .i64 c.flight] W fun e w' => e = .returned (.pointer none) ∧ w' = W)
    (hA : ∀ W, Calls Tryz.prog 76 #[plaV c.pla] W fun e w' => e = .returned (.tuple #[x, y]) ∧ Mod No W w') :
    Calls Tryz.prog 49 #[.pointer (some ⟨kb, 0, none⟩), .agg (cmdCells c)] w fun e w' => e = .returned (.tuple #[x, y]) ∧ Mod No w w' := by
  have HF := hide hF
  have HA := hide hA
  have M0 := hide ((Mod.refl No w).alloc (.cells (cmdCells c) 41))
  have B0 := hide (Has.new w (cmdCells c) 41)
  unfold cmdCells at M0 B0 ⊢
  unfold plaV at HA
  rw [hk] at M0 B0 ⊢
  have f1 : ¬ c.flight < 1 := by omega
  have f2 : ¬ c.flight > 20 := by omega
  clear hF hk hf hA
  go_enter Tryz.func49, Tryz.ntmps49
  go_wp2_with fail
  refine ((unhide HF) _ (unhide M0)).mono ?_
  rintro e w1 ⟨rfl, rfl⟩
  go_wp2_with fail
  refine ((unhide HA) _).mono ?_
  rintro e w1 ⟨rfl, m1⟩
  have M1 := hide ((unhide M0).trans m1)
  clear m1
  go_wp2
  go_ret2
  exact ⟨rfl, unhide M1⟩

theorem klook_miss (kb : Nat) (c : Cmd) (hk : 2 ≤ c.kind ∧ c.kind ≤ 9 ∧ c.kind ≠ 8) (hf : 1 ≤ c.flight ∧ c.flight ≤ 20) (w : World)
    (hF : ∀ W, Mod No w W → Calls Tryz.prog 59 #[.pointer (some ⟨kb, 0, none⟩), .int .i64 c.flight] W fun e w' => e = .returned (.pointer none) ∧ w' = W) :
    Calls Tryz.prog 49 #[.pointer (some ⟨kb, 0, none⟩), .agg (cmdCells c)] w fun e w' => e = .returned (refuse 2) ∧ Mod No w w' := by
  have HF := hide hF
  have M0 := hide ((Mod.refl No w).alloc (.cells (cmdCells c) 41))
  unfold cmdCells at M0 ⊢
  have h1 : ¬ c.kind < 1 := by omega
  have h2 : ¬ c.kind > 9 := by omega
  have h3 : (c.kind == 8) = false := by simp [hk.2.2]
  have h4 : (c.kind == 1) = false := by simp; omega
  have f1 : ¬ c.flight < 1 := by omega
  have f2 : ¬ c.flight > 20 := by omega
  clear hF hk hf
  go_enter Tryz.func49, Tryz.ntmps49
  go_wp2_with fail
  refine ((unhide HF) _ (unhide M0)).mono ?_
  rintro e w1 ⟨rfl, rfl⟩
  go_wp2
  go_ret2
  exact ⟨rfl, unhide M0⟩

theorem klook_fl (kb b : Nat) (c : Cmd) (now : Int) (x y : Value) (cs : Array Value) (hk : 2 ≤ c.kind ∧ c.kind ≤ 9 ∧ c.kind ≠ 8) (hf : 1 ≤ c.flight ∧ c.flight ≤ 20) (w : World) (h : Has w kb cs 121) (h0 : cs[0]? = some (.int .i64 now))
    (hF : ∀ W, Mod No w W → Calls Tryz.prog 59 #[.pointer (some ⟨kb, 0, none⟩), .int .i64 c.flight] W fun e w' => e = .returned (.pointer (some ⟨b, 0, none⟩)) ∧ w' = W)
    (hL : ∀ W, Mod No w W → Calls Tryz.prog 77 #[.pointer (some ⟨b, 0, none⟩), .agg (cmdCells c), .int .i64 now] W fun e w' => e = .returned (.tuple #[x, y]) ∧ Mod No W w') :
    Calls Tryz.prog 49 #[.pointer (some ⟨kb, 0, none⟩), .agg (cmdCells c)] w fun e w' => e = .returned (.tuple #[x, y]) ∧ Mod No w w' := by
  have HF := hide hF
  have HL := hide hL
  have c0 := h.cell 0
  rw [h0] at c0
  have hlt := h.lt
  have M0 := hide ((Mod.refl No w).alloc (.cells (cmdCells c) 41))
  unfold cmdCells at M0 HL ⊢
  have h1 : ¬ c.kind < 1 := by omega
  have h2 : ¬ c.kind > 9 := by omega
  have h3 : (c.kind == 8) = false := by simp [hk.2.2]
  have h4 : (c.kind == 1) = false := by simp; omega
  have f1 : ¬ c.flight < 1 := by omega
  have f2 : ¬ c.flight > 20 := by omega
  have HH := hide h
  clear hF hL hk hf h
  go_enter Tryz.func49, Tryz.ntmps49
  go_wp2_with fail
  refine ((unhide HF) _ (unhide M0)).mono ?_
  rintro e w1 ⟨rfl, rfl⟩
  go_wp2_with fail
  go_region_with (go_at_call 77; refine ((unhide HL) _ ((unhide M0).drew)).mono ?_; rintro e w3 ⟨rfl, hm3⟩; have c03 := (((unhide M0).drew.trans hm3).has (unhide HH) (fun x => x)).cell 0; rw [h0] at c03)
  all_goals go_wp2
  all_goals go_ret2
  all_goals exact ⟨rfl, (unhide M0).drew.trans hm3⟩
end Go.Proofs.YthhibagcpjeihaaGreat
/- A change is done to a keeper. -/
namespace Go.Proofs.YthhibagcpjeihaaGreat
open Go.RowKit
open Go.ChangeMaps (setBlock)
open M
set_option linter.unusedVariables false
set_option linter.unusedSimpArgs false
set_option maxRecDepth 100000
set_option maxHeartbeats 2000000

theorem ta127 (v : Value) (w : World) : (Instr.typeAssert (.iface 159 v) 123 159 true).run Tryz.prog w = .ok (.tuple #[v, .bool true]) w := by kernel_rfl
theorem ta154 (v : Value) (w : World) : (Instr.typeAssert (.iface 189 v) 123 159 true).run Tryz.prog w = .ok (.tuple #[.agg #[.int .i64 0], .bool false]) w := by kernel_rfl
theorem ta173 (v : Value) (w : World) : (Instr.typeAssert (.iface 202 v) 123 159 true).run Tryz.prog w = .ok (.tuple #[.agg #[.int .i64 0], .bool false]) w := by kernel_rfl
theorem ta175 (v : Value) (w : World) : (Instr.typeAssert (.iface 214 v) 123 159 true).run Tryz.prog w = .ok (.tuple #[.agg #[.int .i64 0], .bool false]) w := by kernel_rfl
theorem ta177 (v : Value) (w : World) : (Instr.typeAssert (.iface 216 v) 123 159 true).run Tryz.prog w = .ok (.tuple #[.agg #[.int .i64 0], .bool false]) w := by kernel_rfl
theorem ta125 (v : Value) (w : World) : (Instr.typeAssert (.iface 212 v) 123 159 true).run Tryz.prog w = .ok (.tuple #[.agg #[.int .i64 0], .bool false]) w := by kernel_rfl
theorem nilAhead125 (v : Value) (w : World) : (nilAhead 357 212 v "Do").run Tryz.prog w = .ok (some false) w := by kernel_rfl
theorem method125 (v : Value) (w : World) : (method 357 212 v "Do").run Tryz.prog w = .ok (162, v) w := by kernel_rfl
attribute [local go_sem] ta125 nilAhead125 method125
theorem nilAhead154 (v : Value) (w : World) : (nilAhead 357 189 v "Do").run Tryz.prog w = .ok (some false) w := by kernel_rfl
theorem nilAhead173 (v : Value) (w : World) : (nilAhead 357 202 v "Do").run Tryz.prog w = .ok (some false) w := by kernel_rfl
theorem nilAhead175 (v : Value) (w : World) : (nilAhead 357 214 v "Do").run Tryz.prog w = .ok (some false) w := by kernel_rfl
theorem nilAhead177 (v : Value) (w : World) : (nilAhead 357 216 v "Do").run Tryz.prog w = .ok (some false) w := by kernel_rfl
attribute [local go_sem] nilAhead154 nilAhead173 nilAhead175 nilAhead177
theorem method154 (v : Value) (w : World) : (method 357 189 v "Do").run Tryz.prog w = .ok (158, v) w := by kernel_rfl
theorem method173 (v : Value) (w : World) : (method 357 202 v "Do").run Tryz.prog w = .ok (161, v) w := by kernel_rfl
theorem method175 (v : Value) (w : World) : (method 357 214 v "Do").run Tryz.prog w = .ok (165, v) w := by kernel_rfl
theorem method177 (v : Value) (w : World) : (method 357 216 v "Do").run Tryz.prog w = .ok (166, v) w := by kernel_rfl
attribute [local go_sem] method154 method173 method175 method177
attribute [local go_sem] ta127 ta154 ta173 ta175 ta177

theorem apply_pass (kb : Nat) (n nw : Int) (w : World) (P : World → Prop)
    (hC : ∀ W, Mod No w W → Calls Tryz.prog 72 #[.pointer (some ⟨kb, 0, none⟩), .agg #[.int .i64 nw]] W fun e w' => e = .returned (.tuple #[]) ∧ P w') :
    Calls Tryz.prog 44 #[.pointer (some ⟨kb, 0, none⟩), .agg #[.int .i64 n, passV nw]] w fun e w' => e = .returned (.tuple #[]) ∧ P w' := by
  have HC := hide hC
  have M0 := hide (((Mod.refl No w).alloc (.cells #[.int .i64 n, passV nw] 125)).alloc (.cells #[.int .i64 nw] 159))
  unfold passV at *
  clear hC
  go_enter Tryz.func44, Tryz.ntmps44
  go_wp2_with fail
  refine ((unhide HC) _ (unhide M0)).mono ?_
  rintro e w1 ⟨rfl, p1⟩
  go_wp2
  refine bodyPost_ret (results_none rfl _ _ _) rfl ?_
  exact ⟨rfl, p1⟩

theorem apply_fill (kb b n : Nat) (hn : 1 ≤ n ∧ n ≤ 20) (x0 x1 x2 x3 x4 x5 : Value) (cs : Array Value) (w : World) (P : World → Prop) (h : Has w kb cs 121) (hc : cs[1 + n]? = some (.pointer (some ⟨b, 0, none⟩)))
    (hC : ∀ W, Mod No w W → Calls Tryz.prog 161 #[.agg #[x0, x1, x2, x3, x4, x5], .pointer (some ⟨b, 0, none⟩)] W fun e w' => e = .returned (.tuple #[]) ∧ P w') :
    Calls Tryz.prog 44 #[.pointer (some ⟨kb, 0, none⟩), .agg #[.int .i64 n, .iface 202 (.agg #[x0, x1, x2, x3, x4, x5])]] w fun e w' => e = .returned (.tuple #[]) ∧ P w' := by
  have HC := hide hC
  have M0 := hide (((Mod.refl No w).alloc (.cells #[.int .i64 n, .iface 202 (.agg #[x0, x1, x2, x3, x4, x5])] 125)).alloc (.cells #[.int .i64 0] 159))
  have c := h.cell (1 + n)
  rw [hc] at c
  have hlt := h.lt
  have h3 : (n : Int) < 21 := by omega
  have h4 : (0 : Int) ≤ n := by omega
  clear h hc hC
  go_enter Tryz.func44, Tryz.ntmps44
  go_wp2_with fail
  go_quiet (fail)
  go_wp2_with fail
  go_region_with (go_at_call 161; refine ((unhide HC) _ ((unhide M0).drewN _).drew).mono ?_; rintro e w1 ⟨rfl, p1⟩)
  all_goals go_wp2
  all_goals go_end0
  all_goals exact ⟨rfl, p1⟩

theorem apply_empty (kb b n : Nat) (hn : 1 ≤ n ∧ n ≤ 20) (x0 x1 : Value) (cs : Array Value) (w : World) (P : World → Prop) (h : Has w kb cs 121) (hc : cs[1 + n]? = some (.pointer (some ⟨b, 0, none⟩)))
    (hC : ∀ W, Mod No w W → Calls Tryz.prog 165 #[.agg #[x0, x1], .pointer (some ⟨b, 0, none⟩)] W fun e w' => e = .returned (.tuple #[]) ∧ P w') :
    Calls Tryz.prog 44 #[.pointer (some ⟨kb, 0, none⟩), .agg #[.int .i64 n, .iface 214 (.agg #[x0, x1])]] w fun e w' => e = .returned (.tuple #[]) ∧ P w' := by
  have HC := hide hC
  have M0 := hide (((Mod.refl No w).alloc (.cells #[.int .i64 n, .iface 214 (.agg #[x0, x1])] 125)).alloc (.cells #[.int .i64 0] 159))
  have c := h.cell (1 + n)
  rw [hc] at c
  have hlt := h.lt
  have h3 : (n : Int) < 21 := by omega
  have h4 : (0 : Int) ≤ n := by omega
  clear h hc hC
  go_enter Tryz.func44, Tryz.ntmps44
  go_wp2_with fail
  go_quiet (fail)
  go_wp2_with fail
  go_region_with (go_at_call 165; refine ((unhide HC) _ ((unhide M0).drewN _).drew).mono ?_; rintro e w1 ⟨rfl, p1⟩)
  all_goals go_wp2
  all_goals go_end0
  all_goals exact ⟨rfl, p1⟩

theorem apply_shift (kb b n : Nat) (hn : 1 ≤ n ∧ n ≤ 20) (x0 x1 x2 x3 : Value) (cs : Array Value) (w : World) (P : World → Prop) (h : Has w kb cs 121) (hc : cs[1 + n]? = some (.pointer (some ⟨b, 0, none⟩)))
    (hC : ∀ W, Mod No w W → Calls Tryz.prog 166 #[.agg #[x0, x1, x2, x3], .pointer (some ⟨b, 0, none⟩)] W fun e w' => e = .returned (.tuple #[]) ∧ P w') :
    Calls Tryz.prog 44 #[.pointer (some ⟨kb, 0, none⟩), .agg #[.int .i64 n, .iface 216 (.agg #[x0, x1, x2, x3])]] w fun e w' => e = .returned (.tuple #[]) ∧ P w' := by
  have HC := hide hC
  have M0 := hide (((Mod.refl No w).alloc (.cells #[.int .i64 n, .iface 216 (.agg #[x0, x1, x2, x3])] 125)).alloc (.cells #[.int .i64 0] 159))
  have c := h.cell (1 + n)
  rw [hc] at c
  have hlt := h.lt
  have h3 : (n : Int) < 21 := by omega
  have h4 : (0 : Int) ≤ n := by omega
  clear h hc hC
  go_enter Tryz.func44, Tryz.ntmps44
  go_wp2_with fail
  go_quiet (fail)
  go_wp2_with fail
  go_region_with (go_at_call 166; refine ((unhide HC) _ ((unhide M0).drewN _).drew).mono ?_; rintro e w1 ⟨rfl, p1⟩)
  all_goals go_wp2
  all_goals go_end0
  all_goals exact ⟨rfl, p1⟩

theorem apply_refit (kb b n : Nat) (hn : 1 ≤ n ∧ n ≤ 20) (x0 x1 x2 : Value) (cs : Array Value) (w : World) (P : World → Prop) (h : Has w kb cs 121) (hc : cs[1 + n]? = some (.pointer (some ⟨b, 0, none⟩)))
    (hC : ∀ W, Mod No w W → Calls Tryz.prog 162 #[.agg #[x0, x1, x2], .pointer (some ⟨b, 0, none⟩)] W fun e w' => e = .returned (.tuple #[]) ∧ P w') :
    Calls Tryz.prog 44 #[.pointer (some ⟨kb, 0, none⟩), .agg #[.int .i64 n, .iface 212 (.agg #[x0, x1, x2])]] w fun e w' => e = .returned (.tuple #[]) ∧ P w' := by
  have HC := hide hC
  have M0 := hide (((Mod.refl No w).alloc (.cells #[.int .i64 n, .iface 212 (.agg #[x0, x1, x2])] 125)).alloc (.cells #[.int .i64 0] 159))
  have c := h.cell (1 + n)
  rw [hc] at c
  have hlt := h.lt
  have h3 : (n : Int) < 21 := by omega
  have h4 : (0 : Int) ≤ n := by omega
  clear h hc hC
  go_enter Tryz.func44, Tryz.ntmps44
  go_wp2_with fail
  go_quiet (fail)
  go_wp2_with fail
  go_region_with (go_at_call 162; refine ((unhide HC) _ ((unhide M0).drewN _).drew).mono ?_; rintro e w1 ⟨rfl, p1⟩)
  all_goals go_wp2
  all_goals go_end0
  all_goals exact ⟨rfl, p1⟩

def flight0 : Array Value := #[.int .i64 0, .int .i64 0, .int .i64 0, .int .i64 0, .int .i64 0, .int .i64 0, .int .i64 0, .map none, .int .i64 0, .int .i64 0, .int .i64 0, .int .i64 0, .int .i64 0, .int .i64 0, .int .i64 0, .int .i64 0, .int .i64 0, .int .i64 0, .int .i64 0, .int .i64 0, .int .i64 0, .int .i64 0, .int .i64 0, .int .i64 0, .int .i64 0]

/-- What stands once a new flight has been laid. -/
structure NewF4 (w w5 : World) (kb n : Nat) (now : Int) (pt : Nat → Option Nat) : Prop where
  keep : Has w5 kb (keepCells now (updP pt n (w.heap.size + 2))) 121
  fli : Has w5 (w.heap.size + 2) flight0 164
  mod : Mod (fun k => k = kb) w w5

theorem newF4 {w w0 : World} {kb n : Nat} {now : Int} {pt : Nat → Option Nat} (hn : 1 ≤ n ∧ n ≤ 20) (h : Has w0 kb (keepCells now pt) 121) (hm : Mod No w w0) (hs : w0.heap.size = w.heap.size + 2) :
    NewF4 w ((w0.setCell ⟨kb, 1 + n, none⟩ (.pointer (some ⟨w.heap.size + 2, 0, none⟩))).alloc (.cells flight0 164)) kb n now pt := by
  refine ⟨?_, ?_, (hm.mono (fun _ _ x => x.elim)).trans (((Mod.refl _ w0).at (1 + n) _).alloc _)⟩
  · have := (h.set (1 + n) (pv (some (w.heap.size + 2)))).alloc (.cells flight0 164)
    rw [keep_set now pt n _ (by omega)] at this
    exact this
  · have := Has.new (w0.setCell ⟨kb, 1 + n, none⟩ (.pointer (some ⟨w.heap.size + 2, 0, none⟩))) flight0 164
    rw [World.size_setCell, hs] at this
    exact this

theorem apply_new (kb n : Nat) (hn : 1 ≤ n ∧ n ≤ 20) (now : Int) (pt : Nat → Option Nat) (p : Pla) (w : World) (P : World → Prop) (h : Has w kb (keepCells now pt) 121) (hc : pt n = none)
    (hC : ∀ W, Mod (fun k => k = kb) w W → Has W kb (keepCells now (updP pt n (w.heap.size + 2))) 121 → Has W (w.heap.size + 2) (fcs 0 0 0 0 0 0 0 (.map none) 0 0 0 0 0 0 0 0 0 0 0 0 0 0 0 0 0) 164 →
      Calls Tryz.prog 158 #[plaV p, .pointer (some ⟨w.heap.size + 2, 0, none⟩)] W fun e w' => e = .returned (.tuple #[]) ∧ P w') :
    Calls Tryz.prog 44 #[.pointer (some ⟨kb, 0, none⟩), .agg #[.int .i64 n, startV p]] w fun e w' => e = .returned (.tuple #[]) ∧ P w' := by
  have HC := hide hC
  have m0 : Mod No w ((w.alloc (.cells #[.int .i64 n, startV p] 125)).alloc (.cells #[.int .i64 0] 159)) := ((Mod.refl _ w).alloc _).alloc _
  have h0 := m0.has h (fun x => x)
  have b0 : Has ((w.alloc (.cells #[.int .i64 n, startV p] 125)).alloc (.cells #[.int .i64 0] 159)) w.heap.size #[.int .i64 n, startV p] 125 := (Has.new w _ _).alloc _
  have H0 := hide h0
  have M0 := hide m0
  have B0 := hide b0
  have S0 := hide (show ((w.alloc (.cells #[.int .i64 n, startV p] 125)).alloc (.cells #[.int .i64 0] 159)).heap.size = w.heap.size + 2 by simp)
  have h3 : (n : Int) < 21 := by omega
  have h4 : (0 : Int) ≤ n := by omega
  have HH := hide h
  have HCC := hide hc
  unfold startV plaV at *
  clear h hc hC m0 h0 b0
  go_enter Tryz.func44, Tryz.ntmps44
  go_upto_region 4 with fail
  generalize (w.alloc (.cells #[.int .i64 n, .iface 189 (.agg #[.int .i64 p.rows, .int .i64 p.cols, .int .i64 p.front, .int .i64 p.l0, .int .i64 p.l1, .int .i64 p.l2, .int .i64 p.l3])] 125)).alloc (.cells #[.int .i64 0] 159) = w0 at *
  have c := (unhide H0).cell (1 + n)
  rw [keep_at now pt n (by omega), unhide HCC, show pv none = .pointer none from rfl] at c
  have e0 : w0.cell? ⟨w.heap.size, 0, none⟩ = some (.int .i64 n) := (unhide B0).cell 0
  have e1 : w0.cell? ⟨w.heap.size, 1, none⟩ = some (.iface 189 (.agg #[.int .i64 p.rows, .int .i64 p.cols, .int .i64 p.front, .int .i64 p.l0, .int .i64 p.l1, .int .i64 p.l2, .int .i64 p.l3])) := (unhide B0).cell 1
  have lk := (unhide H0).lt
  have lb := (unhide B0).lt
  have fz := (unhide H0).frozen (1 + n)
  have S1 := unhide S0
  rw [S1] at lk lb
  have NE := hide (show w.heap.size ≠ kb from fun e => by have := (unhide HH).lt; omega)
  go_quiet (fail)
  go_wp2_with fail
  go_region
  have nx := newF4 (w0 := w0.drewN (nq + 1)) hn ((unhide H0).drewN _) ((unhide M0).drewN _) S1
  have bx : Has (((w0.drewN (nq + 1)).setCell ⟨kb, 1 + n, none⟩ (.pointer (some ⟨w.heap.size + 2, 0, none⟩))).alloc (.cells flight0 164)) w.heap.size _ _ := (((unhide B0).drewN (nq + 1)).set_ne (a := ⟨kb, 1 + n, none⟩) (unhide NE) _).alloc _
  have NX := hide nx
  have BX := hide bx
  clear nx bx c e0 e1 lk lb fz S1 H0 M0 B0 S0
  unfold flight0 at NX BX
  generalize ((w0.drewN (nq + 1)).setCell ⟨kb, 1 + n, none⟩ (.pointer (some ⟨w.heap.size + 2, 0, none⟩))).alloc (.cells #[.int .i64 0, .int .i64 0, .int .i64 0, .int .i64 0, .int .i64 0, .int .i64 0, .int .i64 0, .map none, .int .i64 0, .int .i64 0, .int .i64 0, .int .i64 0, .int .i64 0, .int .i64 0, .int .i64 0, .int .i64 0, .int .i64 0, .int .i64 0, .int .i64 0, .int .i64 0, .int .i64 0, .int .i64 0, .int .i64 0, .int .i64 0, .int .i64 0] 164) = w5 at *
  have c5 := (unhide NX).keep.cell (1 + n)
  rw [keep_at now _ n (by omega), show pv (updP pt n (w.heap.size + 2) n) = .pointer (some ⟨w.heap.size + 2, 0, none⟩) by simp [updP, pv]] at c5
  have e0 : w5.cell? ⟨w.heap.size, 0, none⟩ = some (.int .i64 n) := (unhide BX).cell 0
  have e1 : w5.cell? ⟨w.heap.size, 1, none⟩ = some (.iface 189 (.agg #[.int .i64 p.rows, .int .i64 p.cols, .int .i64 p.front, .int .i64 p.l0, .int .i64 p.l1, .int .i64 p.l2, .int .i64 p.l3])) := (unhide BX).cell 1
  have l5 := (unhide NX).keep.lt
  have lb5 := (unhide BX).lt
  go_wp2_with fail
  go_region_with (go_at_call 158; refine ((unhide HC) _ (unhide NX).mod.drew (unhide NX).keep.drew (unhide NX).fli.drew).mono ?_; rintro e w1 ⟨rfl, p1⟩)
  all_goals go_wp2
  all_goals go_end0
  all_goals exact ⟨rfl, p1⟩
end Go.Proofs.YthhibagcpjeihaaGreat
