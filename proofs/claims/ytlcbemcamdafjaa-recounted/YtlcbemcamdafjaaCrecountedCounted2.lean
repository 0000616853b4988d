import Derived.Test.YtlcbemcamdafjaaCrecountedCountedFits
import Derived.Test.YtlcbemcamdafjaaCrecountedRowSMaps
import Derived.Test.YtlcbemcamdafjaaCrecountedBack1Paged2
/- What is told of a flight is what counting its seats tells: the walk. -/
namespace Go.Proofs.Ytlcbemcamdafjaa
open Go.RowKit
open M
set_option linter.unusedVariables false
set_option linter.unusedSimpArgs false
set_option maxRecDepth 100000
set_option maxHeartbeats 8000000

theorem counted_walk (kb : Nat) (n : Int) (p : Pla) (l : List Sea) (hwf : Wf p l) (w : World)
    (hSe : ∀ W, Mod No w W → Calls Try.prog 18 #[.pointer (some ⟨kb, 0, none⟩), .int .i64 n, .int .i64 30] W fun e w' => SeatsTold W w' e l)
    (hCo : ∀ W, Mod No w W → Calls Try.prog 17 #[.pointer (some ⟨kb, 0, none⟩), .int .i64 n] W fun e w' => e = .returned (.tuple #[.agg (totV p l), .int .i64 0]) ∧ Mod No W w')
    (hLe : ∀ W, Mod No w W → ∀ c : Nat, c < 4 → Calls Try.prog 23 #[.pointer (some ⟨kb, 0, none⟩), .int .i64 n, .int .i64 (c : Int)] W fun e w' => e = .returned (.tuple #[.int .i64 (min (M.leftOf p l c) 9), .int .i64 0]) ∧ Mod No W w') :
    Calls Try.prog 19 #[.pointer (some ⟨kb, 0, none⟩), .int .i64 n, .agg #[.int .i64 (p.lim 0), .int .i64 (p.lim 1), .int .i64 (p.lim 2), .int .i64 (p.lim 3)]] w fun e w' => e = .returned (.bool true) ∧ Mod No w w' := by
  have hl120 : l.length ≤ 120 := Fli.wf.len_le hwf
  have hpos := one_seat hwf
  have HWF := hide hwf
  have HSe := hide hSe
  have HCo := hide hCo
  have HLe := hide hLe
  have M0 := hide ((Mod.refl No w).alloc (.cells #[.int .i64 (p.lim 0), .int .i64 (p.lim 1), .int .i64 (p.lim 2), .int .i64 (p.lim 3)] 33))
  have B0 := hide (Has.new w #[.int .i64 (p.lim 0), .int .i64 (p.lim 1), .int .i64 (p.lim 2), .int .i64 (p.lim 3)] 33)
  clear hwf hSe hCo hLe
  go_enter Try.func19, Try.ntmps19
  go_wp2_with fail
  refine ((unhide HSe) _ (unhide M0)).mono ?_
  rintro e w1 ⟨⟨a1, c1, rfl, ho1, hn1⟩, m1⟩
  obtain ⟨g, rfl, hR1⟩ := rowS_told ho1 hpos
  have M1 := hide ((unhide M0).trans m1)
  have R1 := hide hR1
  have B1 := hide (m1.has (unhide B0) (fun x => x))
  have GN := hide (show w.heap.size + 1 ≤ g from by have := hn1 g rfl; simpa using this)
  clear m1 ho1 hn1 hR1 HSe M0 B0
  go_wp2_with fail
  refine ((unhide HCo) _ (unhide M1)).mono ?_
  rintro e w2 ⟨rfl, m2⟩
  have M2 := hide ((unhide M1).trans m2)
  have R2 := hide ((unhide R1).mod m2 (fun x => x))
  have B2 := hide (m2.has (unhide B1) (fun x => x))
  clear m2 HCo M1 R1 B1
  unfold totV
  go_upto_region 7 with fail
  have mm : Mod No w2 (((w2.alloc (.cells #[.int .i64 (cA p l 0), .int .i64 (cA p l 1), .int .i64 (cA p l 2), .int .i64 (cA p l 3), .int .i64 (cB p l 0), .int .i64 (cB p l 1), .int .i64 (cB p l 2), .int .i64 (cB p l 3), .int .i64 (cS l 0), .int .i64 (cS l 1), .int .i64 (cS l 2), .int .i64 (cS l 3)] 45)).alloc (.cells #[.int .i64 0, .int .i64 0, .int .i64 0, .int .i64 0] 33)).alloc (.cells #[.int .i64 0, .int .i64 0, .int .i64 0, .int .i64 0] 33)) := (((Mod.refl _ w2).alloc _).alloc _).alloc _
  have hT := ((Has.new w2 #[.int .i64 (cA p l 0), .int .i64 (cA p l 1), .int .i64 (cA p l 2), .int .i64 (cA p l 3), .int .i64 (cB p l 0), .int .i64 (cB p l 1), .int .i64 (cB p l 2), .int .i64 (cB p l 3), .int .i64 (cS l 0), .int .i64 (cS l 1), .int .i64 (cS l 2), .int .i64 (cS l 3)] 45).alloc (.cells #[.int .i64 0, .int .i64 0, .int .i64 0, .int .i64 0] 33)).alloc (.cells #[.int .i64 0, .int .i64 0, .int .i64 0, .int .i64 0] 33)
  have hA := (Has.new (w2.alloc (.cells #[.int .i64 (cA p l 0), .int .i64 (cA p l 1), .int .i64 (cA p l 2), .int .i64 (cA p l 3), .int .i64 (cB p l 0), .int .i64 (cB p l 1), .int .i64 (cB p l 2), .int .i64 (cB p l 3), .int .i64 (cS l 0), .int .i64 (cS l 1), .int .i64 (cS l 2), .int .i64 (cS l 3)] 45)) #[.int .i64 0, .int .i64 0, .int .i64 0, .int .i64 0] 33).alloc (.cells #[.int .i64 0, .int .i64 0, .int .i64 0, .int .i64 0] 33)
  have hD := Has.new ((w2.alloc (.cells #[.int .i64 (cA p l 0), .int .i64 (cA p l 1), .int .i64 (cA p l 2), .int .i64 (cA p l 3), .int .i64 (cB p l 0), .int .i64 (cB p l 1), .int .i64 (cB p l 2), .int .i64 (cB p l 3), .int .i64 (cS l 0), .int .i64 (cS l 1), .int .i64 (cS l 2), .int .i64 (cS l 3)] 45)).alloc (.cells #[.int .i64 0, .int .i64 0, .int .i64 0, .int .i64 0] 33)) #[.int .i64 0, .int .i64 0, .int .i64 0, .int .i64 0] 33
  rw [World.size_alloc] at hA
  rw [World.size_alloc, World.size_alloc] at hD
  have HT := hide hT
  have I0 := hide (show CouI (((w2.alloc (.cells #[.int .i64 (cA p l 0), .int .i64 (cA p l 1), .int .i64 (cA p l 2), .int .i64 (cA p l 3), .int .i64 (cB p l 0), .int .i64 (cB p l 1), .int .i64 (cB p l 2), .int .i64 (cB p l 3), .int .i64 (cS l 0), .int .i64 (cS l 1), .int .i64 (cS l 2), .int .i64 (cS l 3)] 45)).alloc (.cells #[.int .i64 0, .int .i64 0, .int .i64 0, .int .i64 0] 33)).alloc (.cells #[.int .i64 0, .int .i64 0, .int .i64 0, .int .i64 0] 33)) (((w2.alloc (.cells #[.int .i64 (cA p l 0), .int .i64 (cA p l 1), .int .i64 (cA p l 2), .int .i64 (cA p l 3), .int .i64 (cB p l 0), .int .i64 (cB p l 1), .int .i64 (cB p l 2), .int .i64 (cB p l 3), .int .i64 (cS l 0), .int .i64 (cS l 1), .int .i64 (cS l 2), .int .i64 (cS l 3)] 45)).alloc (.cells #[.int .i64 0, .int .i64 0, .int .i64 0, .int .i64 0] 33)).alloc (.cells #[.int .i64 0, .int .i64 0, .int .i64 0, .int .i64 0] 33)) (w2.heap.size + 1) (w2.heap.size + 1 + 1) l 0 from ⟨hA, hD, Mod.refl _ _⟩)
  have M3 := hide ((unhide M2).trans mm)
  have R3 := hide ((unhide R2).mod mm (fun x => x))
  have B3 := hide (mm.has (unhide B2) (fun x => x))
  have NN := hide (show g < w2.heap.size ∧ w.heap.size < w2.heap.size ∧ w.heap.size ≤ w2.heap.size from by
    have h1 := (unhide R2).lt
    have h2 := (unhide B2).lt
    omega)
  clear mm hT hA hD M2 R2 B2
  generalize (((w2.alloc (.cells #[.int .i64 (cA p l 0), .int .i64 (cA p l 1), .int .i64 (cA p l 2), .int .i64 (cA p l 3), .int .i64 (cB p l 0), .int .i64 (cB p l 1), .int .i64 (cB p l 2), .int .i64 (cB p l 3), .int .i64 (cS l 0), .int .i64 (cS l 1), .int .i64 (cS l 2), .int .i64 (cS l 3)] 45)).alloc (.cells #[.int .i64 0, .int .i64 0, .int .i64 0, .int .i64 0] 33)).alloc (.cells #[.int .i64 0, .int .i64 0, .int .i64 0, .int .i64 0] 33)) = W3 at *
  have ND := hide (show g ≠ w2.heap.size + 1 ∧ g ≠ w2.heap.size + 1 + 1 ∧ w.heap.size ≠ w2.heap.size + 1 ∧ w.heap.size ≠ w2.heap.size + 1 + 1 ∧ w2.heap.size ≠ w2.heap.size + 1 ∧ w2.heap.size ≠ w2.heap.size + 1 + 1 ∧ w2.heap.size + 1 ≠ w2.heap.size + 1 + 1 ∧ w.heap.size ≤ w2.heap.size + 1 ∧ w.heap.size ≤ w2.heap.size + 1 + 1 from by have := unhide NN; omega)
  clear NN GN
  generalize w2.heap.size + 1 + 1 = db at *
  generalize w2.heap.size + 1 = ab at *
  generalize w2.heap.size = tb at *
  generalize hlb : w.heap.size = lb at *
  clear w2
  go_wp2_with fail
  go_loopw [13] (fun s wr => ∃ i : Nat, s = .int .i64 (i : Int) ∧ i ≤ l.length ∧ Hid (∃ wz, CouI W3 wz ab db l i ∧ Mod No wz wr)) (fun s _ => l.length - (intOf s).toNat)
  case atStart => exact ⟨0, rfl, by omega, hide ⟨_, unhide I0, Mod.refl _ _⟩⟩
  case round =>
    obtain ⟨i, rfl, hi, I⟩ := hrel
    obtain ⟨wz, hI, hz⟩ := unhide I
    by_cases hil : i < l.length
    · have hi1 : (i : Int) < (l.length : Int) := by omega
      have hi0 : (0 : Int) ≤ (i : Int) := by omega
      have hwi : IntKind.i64.wrap ((i : Int) + 1) = ((i + 1 : Nat) : Int) := by rw [wrap_id _ (by omega) (by omega)]; rfl
      have nd := unhide ND
      have R4 := hide (((unhide R3).mod hI.mod (by rintro (e | e); exact nd.1 e; exact nd.2.1 e)).mod hz (fun x => x))
      have a0 := (unhide R4).row i hil
      have a1 := (unhide R4).col i hil
      have a2 := (unhide R4).st i hil
      have a3 := (unhide R4).pa i hil
      have a4 := (unhide R4).cl i hil
      have a5 := (unhide R4).un i hil
      have glt := (unhide R4).lt
      have swf := (unhide HWF).seat _ (List.getElem_mem hil)
      obtain ⟨sn, hsn⟩ : ∃ sn : Nat, l[i].st = (sn : Int) := ⟨l[i].st.toNat, by have := swf.s0; omega⟩
      obtain ⟨cn, hcn⟩ : ∃ cn : Nat, l[i].cl = (cn : Int) := ⟨l[i].cl.toNat, by have := swf.c0; omega⟩
      have hs4 : sn < 4 := by have := swf.s1; omega
      have hc4 : cn < 4 := by have := swf.c1; omega
      have NEX := hide fun (wx : World) (hm : Mod No wz wx) => hI.next hm hil nd.2.2.2.2.2.2.1 sn cn hsn hcn hs4 hc4
      have SOLD := hide (show l[i].sold = (((sn : Int) == 1) || ((sn : Int) == 2)) from by unfold Sea.sold; rw [hsn])
      rw [hsn] at a2
      rw [hcn] at a4
      have HI := hide hil
      have HIS := hide hI
      have HZ := hide hz
      generalize l[i].row = r0 at *
      generalize l[i].col = c0 at *
      generalize l[i].pa = p0' at *
      generalize l[i].un = u0 at *
      clear swf nd hI hz I hsn hcn
      go_upto_region 11 with fail
      have mx : Mod No wz (wr.alloc (.cells #[.int .i64 r0, .int .i64 c0, .int .i64 (sn : Int), .int .i64 p0', .int .i64 (cn : Int), .int .i64 u0] 61)) := (unhide HZ).alloc _
      have BX := hide (Has.new wr #[.int .i64 r0, .int .i64 c0, .int .i64 (sn : Int), .int .i64 p0', .int .i64 (cn : Int), .int .i64 u0] 61)
      have HN1 := hide ((unhide NEX) _ mx).1
      have HN2 := hide ((unhide NEX) _ mx).2
      have HA := hide (mx.has (unhide HIS).all (fun x => x))
      have HD := hide (mx.has (unhide HIS).sold (fun x => x))
      have NX := hide (show wr.heap.size ≠ ab ∧ wr.heap.size ≠ db from by
        have h1 := (unhide HIS).all.lt
        have h2 := (unhide HIS).sold.lt
        have := (unhide HZ).size
        omega)
      generalize wr.alloc (.cells #[.int .i64 r0, .int .i64 c0, .int .i64 (sn : Int), .int .i64 p0', .int .i64 (cn : Int), .int .i64 u0] 61) = wx at *
      generalize wr.heap.size = xb at *
      have hbx := (unhide BX).cell
      have lbx := (unhide BX).lt
      have ca := (unhide HA).cell sn
      rw [soldV_at _ sn hs4] at ca
      have fa := (unhide HA).frozen
      have la := (unhide HA).lt
      have cd := (unhide HD).cell cn
      rw [soldV_at _ cn hc4] at cd
      have fd := (unhide HD).frozen
      have ld := (unhide HD).lt
      have q1 : ¬ ((sn : Int) < 0) := by omega
      have q2 : ¬ ((sn : Int) > 3) := by omega
      have q3 : ¬ ((cn : Int) < 0) := by omega
      have q4 : ¬ ((cn : Int) > 3) := by omega
      have q5 : (sn : Int) < 4 := by omega
      have q6 : (cn : Int) < 4 := by omega
      have q7 : (0 : Int) ≤ (sn : Int) := by omega
      have q8 : (0 : Int) ≤ (cn : Int) := by omega
      have w1' : IntKind.i64.wrap (stN l i sn + 1) = stN l i sn + 1 := by
        have := countN_small (fun s => s.st == (sn : Int)) l i (by omega)
        unfold stN
        exact wrap_id _ (by omega) (by omega)
      have w2' : IntKind.i64.wrap (clN l i cn + 1) = clN l i cn + 1 := by
        have := countN_small (fun s => s.sold && s.cl == (cn : Int)) l i (by omega)
        unfold clN
        exact wrap_id _ (by omega) (by omega)
      have nx1 := (unhide NX).1
      have nx2 := (unhide NX).2
      have nx3 := (unhide ND).2.2.2.2.2.2.1
      generalize stN l i sn = x1 at *
      generalize clN l i cn = x2 at *
      have SNO := hide hs4
      clear HA HD BX NEX HIS HZ mx hs4 hc4 a0 a1 a2 a3 a4 a5 glt R4
      by_cases b1 : sn = 1
      · subst b1
        have HS1 := hide ((unhide HN2) (by rw [unhide SOLD]; rfl))
        clear HN1 HN2 SOLD
        go_wp2
        exact ⟨⟨i + 1, rfl, unhide HI, hide ⟨_, unhide HS1, Mod.refl _ _⟩⟩, by simp [intOf]; have := unhide HI; omega⟩
      · have b1' : ((sn : Int) == 1) = false := by simp; omega
        by_cases b2 : sn = 2
        · subst b2
          have HS1 := hide ((unhide HN2) (by rw [unhide SOLD]; rfl))
          clear HN1 HN2 SOLD
          go_wp2
          exact ⟨⟨i + 1, rfl, unhide HI, hide ⟨_, unhide HS1, Mod.refl _ _⟩⟩, by simp [intOf]; have := unhide HI; omega⟩
        · have b2' : ((sn : Int) == 2) = false := by simp; omega
          have HS1 := hide ((unhide HN1) (by rw [unhide SOLD, b1', b2']; rfl))
          clear HN1 HN2 SOLD
          go_wp2
          exact ⟨⟨i + 1, rfl, unhide HI, hide ⟨_, unhide HS1, Mod.refl _ _⟩⟩, by simp [intOf]; have := unhide HI; omega⟩
    · have hi1 : ¬ (i : Int) < (l.length : Int) := by omega
      have e : i = l.length := by omega
      subst e
      have nd := unhide ND
      have mall : Mod (fun k => k = ab ∨ k = db) W3 wr := hI.mod.trans (hz.mono (fun _ _ x => x.elim))
      have A4 := hide (hz.has hI.all (fun x => x))
      have D4 := hide (hz.has hI.sold (fun x => x))
      have T4 := hide (mall.has (unhide HT) (by rintro (e | e); exact nd.2.2.2.2.1 e; exact nd.2.2.2.2.2.1 e))
      have L4 := hide (mall.has (unhide B3) (by rintro (e | e); exact nd.2.2.1 e; exact nd.2.2.2.1 e))
      have R4 := hide ((unhide R3).mod mall (by rintro (e | e); exact nd.1 e; exact nd.2.1 e))
      have M4 := hide ((unhide M3).trans' mall (fun k hk hl => by
        have : lb ≤ ab ∧ lb ≤ db := ⟨nd.2.2.2.2.2.2.2.1, nd.2.2.2.2.2.2.2.2⟩
        exact (show False from by rcases hk with hk | hk <;> omega)))
      clear nd mall hI hz I hi1 hil hi M3 R3 B3 HT I0 ND
      go_wp2_with fail
      go_loopw [15] (fun s wx => ∃ c : Nat, s = .int .i64 (c : Int) ∧ c ≤ 4 ∧ Hid (Mod No wr wx)) (fun s _ => 4 - (intOf s).toNat)
      case atStart => exact ⟨0, rfl, by omega, hide (Mod.refl _ _)⟩
      case round =>
        obtain ⟨c, rfl, hc, M5⟩ := hrel
        by_cases hc4 : c < 4
        · have hc1 : (c : Int) < 4 := by omega
          have hc0 : (0 : Int) ≤ (c : Int) := by omega
          have hwc : IntKind.i64.wrap ((c : Int) + 1) = ((c + 1 : Nat) : Int) := by rw [wrap_id _ (by omega) (by omega)]; rfl
          go_wp2_with fail
          refine ((unhide HLe) _ ((unhide M4).trans (unhide M5)) c hc4).mono ?_
          rintro e w6 ⟨rfl, m6⟩
          have M6 := hide ((unhide M5).trans m6)
          have hlimw := (unhide HWF).limited
          simp only [Pla.limited, decide_eq_true_eq] at hlimw
          have HLW := hide fun (W : World) (hW : Mod No w6 W) => (show Calls Try.prog 42 #[.slice (some ⟨g, 0, none⟩) l.length c1, .agg #[.int .i64 (p.lim 0), .int .i64 (p.lim 1), .int .i64 (p.lim 2), .int .i64 (p.lim 3)], .int .i64 (c : Int)] W fun e w' => e = .returned (.int .i64 (min (M.leftOf p l c) 9)) ∧ Mod No W w' from
            least_walk g c1 p l c hc4 W ((unhide R4).mod ((unhide M6).trans hW) (fun x => x)) (by omega) (fun j => by
              have : p.lim j = p.l0 ∨ p.lim j = p.l1 ∨ p.lim j = p.l2 ∨ p.lim j = p.l3 := by
                cases j with
                | zero => exact .inl rfl
                | succ j => cases j with
                  | zero => exact .inr (.inl rfl)
                  | succ j => cases j with
                    | zero => exact .inr (.inr (.inl rfl))
                    | succ j => exact .inr (.inr (.inr rfl))
              omega) (fun i h => by
              have swf := (unhide HWF).seat _ (List.getElem_mem h)
              exact ⟨swf.c0, swf.c1⟩))
          have a6 := (unhide M6).has (unhide A4) (fun x => x)
          have d6 := (unhide M6).has (unhide D4) (fun x => x)
          have t6 := (unhide M6).has (unhide T4) (fun x => x)
          have l6 := (unhide M6).has (unhide L4) (fun x => x)
          have xa : ∀ x : Wd w6, x.W.cell? ⟨ab, c, none⟩ = some (.int .i64 (cA p l c + cB p l c)) := fun x => by
            rw [a6.wd x, soldV_at _ c hc4, stN_all p l c]
          have xd : ∀ x : Wd w6, x.W.cell? ⟨db, c, none⟩ = some (.int .i64 (cS l c)) := fun x => by
            rw [d6.wd x, soldV_at _ c hc4, clN_all l c]
          have hc' : c = 0 ∨ c = 1 ∨ c = 2 ∨ c = 3 := by omega
          have xt0 : ∀ x : Wd w6, x.W.cell? ⟨tb, c, none⟩ = some (.int .i64 (cA p l c)) := fun x => by
            rw [t6.wd x]; rcases hc' with rfl | rfl | rfl | rfl <;> rfl
          have xt1 : ∀ x : Wd w6, x.W.cell? ⟨tb, 4 + c, none⟩ = some (.int .i64 (cB p l c)) := fun x => by
            rw [t6.wd x]; rcases hc' with rfl | rfl | rfl | rfl <;> rfl
          have xt2 : ∀ x : Wd w6, x.W.cell? ⟨tb, 8 + c, none⟩ = some (.int .i64 (cS l c)) := fun x => by
            rw [t6.wd x]; rcases hc' with rfl | rfl | rfl | rfl <;> rfl
          have xl0 : ∀ x : Wd w6, x.W.cell? ⟨lb, 0, none⟩ = some (.int .i64 (p.lim 0)) := fun x => l6.wd x 0
          have xl1 : ∀ x : Wd w6, x.W.cell? ⟨lb, 1, none⟩ = some (.int .i64 (p.lim 1)) := fun x => l6.wd x 1
          have xl2 : ∀ x : Wd w6, x.W.cell? ⟨lb, 2, none⟩ = some (.int .i64 (p.lim 2)) := fun x => l6.wd x 2
          have xl3 : ∀ x : Wd w6, x.W.cell? ⟨lb, 3, none⟩ = some (.int .i64 (p.lim 3)) := fun x => l6.wd x 3
          have hws : IntKind.i64.wrap (cA p l c + cB p l c) = cA p l c + cB p l c := by
            have h1 := small_count l (by omega) (fun s => (decide (s.row ≤ p.front) == true) && s.st == (c : Int))
            have h2 := small_count l (by omega) (fun s => (decide (s.row ≤ p.front) == false) && s.st == (c : Int))
            unfold cA cB nAt
            exact wrap_id _ (by omega) (by omega)
          generalize cA p l c = A at *
          generalize cB p l c = B at *
          generalize cS l c = S at *
          generalize min (M.leftOf p l c) 9 = lf at *
          have hne := wd_ne w6
          have HC4 := hide hc4
          have M46 := hide m6
          clear a6 d6 t6 l6 m6 hlimw hc' hc4 HLe A4 D4 T4 L4 R4
          go_wp2_with fail
          refine wp_region_wd (w0 := w6) (by kernel_rfl) (by kernel_rfl) (Mod.refl _ _) ?_
          repeat (go_big_quiet_step ((go_at_call 42; exact Calls.wd _ ((unhide HLW) _ (Wd.h _)))))
          refine wpQuiet_nil ?_
          rintro w7 ⟨⟨_, hm7⟩, rfl⟩
          have M7 := hide ((unhide M6).trans hm7)
          clear hm7 xa xd xt0 xt1 xt2 xl0 xl1 xl2 xl3 hne
          go_wp2
          exact ⟨⟨c + 1, rfl, by have := unhide HC4; omega, M7⟩, by simp [intOf]; have := unhide HC4; omega⟩
        · have hc1 : ¬ (c : Int) < 4 := by omega
          have MF := hide ((unhide M4).trans (unhide M5))
          clear M5 M4 A4 D4 T4 L4 R4 HLe
          go_wp2
          go_ret
          exact ⟨rfl, unhide MF⟩
end Go.Proofs.Ytlcbemcamdafjaa
