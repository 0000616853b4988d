import Derived.Test.YtlcbemcamdafjaaGreatCdoesRef26Law2
import Derived.Test.YtlcbemcamdafjaaGreatCdoesRef27
import Derived.Test.YtlcbemcamdafjaaGreatCdoesRef21Pg2
import Derived.Deep.DeepCutAuto
import Derived.Deep.RegionLawGrows
/- A command is done, by the program and by the document. -/
namespace Go.Proofs.YtlcbemcamdafjaaGreat
open Go.RowKit
open M
set_option linter.unusedVariables false
set_option linter.unusedSimpArgs false
set_option maxRecDepth 100000
set_option maxHeartbeats 4000000

/-- What stands behind the program's command. -/
structure DoneI (w wx : World) (O : Nat → Prop) (ob b0 : Nat) (I : OneI) (cs : Array Value) (now : Int) (fl : Nat → Option (Pla × List Sea)) (okp : Nat → Nat) (m : Nat) : Prop where
  has : Has wx ob (oneV I) 55
  tape : Has wx I.tb I.ts 108
  keep : KeepH wx okp I.kb now fl
  old : ∀ k, k < w.heap.size → okp k = I.okp k
  lid : ∀ k, okp k ≠ 0 → k < m
  box0 : okp b0 = 0
  wor : WorR wx I.owr I.wb I.v I.xs I.now
  box : Has wx b0 cs 41
  mod : Mod O w wx
  m0 : w.heap.size ≤ m
  m1 : m ≤ wx.heap.size

theorem DoneI.of {w w1 wx : World} {O : Nat → Prop} {ob b0 : Nat} {I : OneI} {cs : Array Value} {now : Int} {fl : Nat → Option (Pla × List Sea)} (h : OneX w O ob I) (hm : Mod No w w1) (hb : Has w1 b0 cs 41) (hb0 : w.heap.size ≤ b0) (hk : Kept w1 wx I.okp I.kb now fl) : ∃ okp, DoneI w wx O ob b0 I cs now fl okp wx.heap.size := by
  obtain ⟨⟨ow', hx, ho⟩, hmk, _⟩ := hk
  have h1 := h.mod hm (fun _ _ x => x)
  have hz : ∀ k, w.heap.size ≤ k → I.okp k = 0 := fun k hk => by
    by_cases e : I.okp k = 0
    · exact e
    · have := h.lt k (h.mine.2.2.1 k e); omega
  have hs1 := hm.size
  have hs2 := hmk.size
  refine ⟨ow', hmk.has h1.has (fun x => x h.apart.1), hmk.has h1.tape (fun x => x h.apart.2.1), hx, fun k hk => ho k (by omega), ?_, by rw [ho b0 hb.lt, hz b0 hb0], h1.wor.mod hmk (fun k hk x => hk (h.apart.2.2.2.2.2 k x)), hmk.has hb (fun x => x (hz b0 hb0)), (hm.mono (fun _ _ x => x.elim)).trans (hmk.mono (fun k _ x => h.mine.2.2.1 k x)), by omega, Nat.le_refl _⟩
  obtain ⟨pt, hp⟩ := hx
  exact hp.old

theorem DoneI.still {w wx wy : World} {O : Nat → Prop} {ob b0 m : Nat} {I : OneI} {cs : Array Value} {now : Int} {fl : Nat → Option (Pla × List Sea)} {okp : Nat → Nat} (h : DoneI w wx O ob b0 I cs now fl okp m) (hm : Mod No wx wy) : DoneI w wy O ob b0 I cs now fl okp m :=
  ⟨hm.has h.has (fun x => x), hm.has h.tape (fun x => x), h.keep.mod hm (fun _ _ x => x), h.old, h.lid, h.box0, h.wor.mod hm (fun _ _ x => x), hm.has h.box (fun x => x), h.mod.trans (hm.mono (fun _ _ x => x.elim)), h.m0, Nat.le_trans h.m1 hm.size⟩

/-- The end, where the command is none. -/
theorem DoneI.err {w wx : World} {O : Nat → Prop} {ob b0 m : Nat} {I : OneI} {cs : Array Value} {okp : Nat → Nat} (hh : OneX w O ob I) (h : DoneI w wx O ob b0 I cs I.now I.fl okp m) : OneD w wx O ob I := by
  have hz : ∀ k, O k → k < w.heap.size := hh.lt
  have hlid : ∀ k, okp k ≠ 0 → grow O w wx k := fun k hk => by
    by_cases e : k < w.heap.size
    · rw [h.old k e] at hk; exact .inl (hh.mine.2.2.1 k hk)
    · exact .inr ⟨by omega, Nat.lt_of_lt_of_le (h.lid k hk) h.m1⟩
  refine ⟨⟨{ I with okp := okp }, ⟨h.has, h.tape, hh.room, h.keep, h.wor, hh.same, hh.tidy, ⟨.inl hh.mine.1, .inl hh.mine.2.1, hlid, fun k hk => .inl (hh.mine.2.2.2 k hk)⟩, ⟨?_, ?_, hh.apart.2.2.1, hh.apart.2.2.2.1, hh.apart.2.2.2.2.1, fun k hk => ?_⟩, fun k hk => ?_, hh.now0, hh.now1, hh.ch, hh.most⟩, by simp only; omega⟩, h.mod⟩
  · show okp ob = 0
    rw [h.old ob (hz _ hh.mine.1)]; exact hh.apart.1
  · show okp I.tb = 0
    rw [h.old I.tb (hz _ hh.mine.2.1)]; exact hh.apart.2.1
  · by_cases e : k < w.heap.size
    · have hk : okp k ≠ 0 := hk
      rw [h.old k e] at hk; exact hh.apart.2.2.2.2.2 k hk
    · by_cases e2 : I.owr k = 0
      · exact e2
      · exact absurd (hz k (hh.mine.2.2.2 k e2)) e
  · rcases hk with hk | hk
    · exact Nat.lt_of_lt_of_le (hz k hk) h.mod.size
    · exact hk.2

/-- The end, where the command is done. -/
theorem DoneI.fin {w wx w' : World} {O : Nat → Prop} {ob b0 m cb : Nat} {I : OneI} {cs : Array Value} {now mo : Int} {fl : Nat → Option (Pla × List Sea)} {okp owr : Nat → Nat} {v : Value} {ys : List FR} (hh : OneX w O ob I) (h : DoneI w wx O ob b0 I cs now fl okp m)
    (hw : WorR wx owr cb v ys now) (hs : Same ys fl) (hv : ys = [] → v = .slice none 0 0) (hlo : ∀ k, owr k ≠ 0 → m ≤ k) (hn : I.now ≤ now ∧ now ≤ I.now + 100) (hmo : 0 ≤ mo ∧ mo ≤ 1000000)
    (hm : Mod (fun k => k = ob) wx w') (hb : Has w' ob (oneV { I with wb := cb, ch := I.ch + 1, most := mo }) 55) : OneD w w' O ob I := by
  have hz : ∀ k, O k → k < w.heap.size := hh.lt
  have hob := hz _ hh.mine.1
  have sw := hm.size
  have sx := h.mod.size
  have m0 := h.m0
  have hlid : ∀ k, okp k ≠ 0 → grow O w w' k := fun k hk => by
    by_cases e : k < w.heap.size
    · rw [h.old k e] at hk; exact .inl (hh.mine.2.2.1 k hk)
    · exact .inr ⟨by omega, by have := h.lid k hk; have := h.m1; omega⟩
  have hlor : ∀ k, owr k ≠ 0 → grow O w w' k := fun k hk => .inr ⟨by have := hlo k hk; omega, by have := hw.old k hk; omega⟩
  have hkob : okp ob = 0 := by rw [h.old ob hob]; exact hh.apart.1
  have howr : ∀ k, k < w.heap.size → owr k = 0 := fun k hk => by
    by_cases e : owr k = 0
    · exact e
    · have := hlo k e; omega
  refine ⟨⟨{ I with okp := okp, owr := owr, wb := cb, v := v, xs := ys, now := now, fl := fl, ch := I.ch + 1, most := mo }, ⟨hb, hm.has h.tape (fun e => hh.apart.2.2.2.2.1 e.symm), hh.room, h.keep.mod hm (fun k hk e => by subst e; exact hk hkob), hw.mod hm (fun k hk e => by subst e; exact hk (howr _ hob)), hs, hv, ⟨.inl hh.mine.1, .inl hh.mine.2.1, hlid, hlor⟩, ⟨hkob, ?_, howr _ hob, howr _ (hz _ hh.mine.2.1), hh.apart.2.2.2.2.1, fun k hk => ?_⟩, fun k hk => ?_, ?_, ?_, ?_, hmo⟩, Int.le_refl _⟩, h.mod.trans (hm.mono (fun k _ e => by subst e; exact hh.mine.1))⟩
  · show okp I.tb = 0
    rw [h.old I.tb (hz _ hh.mine.2.1)]; exact hh.apart.2.1
  · have hk : okp k ≠ 0 := hk
    have := h.lid k hk
    show owr k = 0
    by_cases e : owr k = 0
    · exact e
    · have := hlo k e; omega
  · rcases hk with hk | hk
    · have := hz k hk; omega
    · exact hk.2
  · have := hh.now0
    simp only
    omega
  · have := hh.now1
    simp only
    omega
  · have := hh.ch
    simp only
    omega

theorem done_any {w : World} {O : Nat → Prop} {ob : Nat} {I : OneI} (h : OneX w O ob I) (c : Cmd) (ht : -9223372036854775808 ≤ c.time ∧ c.time ≤ 9223372036854775807) (hk9 : c.kind ≠ 9) (hch : I.ch ≤ 1099511627776) :
    Calls Tryz.prog 15 #[.pointer (some ⟨ob, 0, none⟩), .agg (cmdCells c)] w fun e w' => e = .returned (.bool true) ∧ OneD w w' O ob I := by
  have hn : 0 ≤ I.now ∧ I.now ≤ 4611686018427387000 := ⟨h.now0, by have := h.now1; omega⟩
  have M0 := hide ((Mod.refl No w).alloc (.cells (cmdCells c) 41))
  have B0 := hide (Has.new w (cmdCells c) 41)
  have H0 := hide (h.mod (unhide M0) (fun _ _ x => x))
  have HD := hide (do_any ((unhide H0).keep.mod ((Mod.refl No _).drew) (fun _ _ x => x)) hn c)
  have HDI := hide fun wx now fl (hk : Kept (w.alloc (.cells (cmdCells c) 41)).drew wx I.okp I.kb now fl) => DoneI.of h ((unhide M0).drew) (unhide B0).drew (Nat.le_refl _) hk
  have HERR := hide (doK_err (now := I.now) (fl := I.fl) (c := c))
  have HTIME := hide (doK_time I.now I.fl c)
  have HW := hide fun (W : World) (ow : Nat → Nat) (wb : Nat) (v : Value) (xs : List FR) (hw : WorR W ow wb v xs I.now) (hs : Same xs I.fl) (hv : xs = [] → v = .slice none 0 0) => wdo_any hw hs c ht hn hk9 hv
  have H := hide h
  have hmost := h.most
  have hch0 := h.ch
  clear h ht hk9 hn
  generalize doK I.now I.fl c = D at *
  obtain ⟨er, now', fl'⟩ := D
  simp only at HD HERR HTIME HW
  unfold cmdCells at *
  go_enter Tryz.func15, Tryz.ntmps15
  go_upto_region 1 with fail
  generalize hw1 : w.alloc (.cells #[.int .i64 c.kind, .int .i64 c.flight, .int .i64 c.ar, .int .i64 c.ac, .int .i64 c.tr, .int .i64 c.tc, .int .i64 c.party, .int .i64 c.cls, .int .i64 c.time, .int .i64 c.pla.rows, .int .i64 c.pla.cols, .int .i64 c.pla.front, .int .i64 c.pla.l0, .int .i64 c.pla.l1, .int .i64 c.pla.l2, .int .i64 c.pla.l3] 41) = w1 at *
  have c1 : w1.cell? ⟨ob, 1, none⟩ = some (.pointer (some ⟨I.kb, 0, none⟩)) := (unhide H0).has.cell 1
  have l1 := (unhide H0).has.lt
  have b1 := (unhide B0).cell
  have bl1 := (unhide B0).lt
  generalize w.heap.size = b0 at *
  clear hw1
  go_cut [5] (fun s wx => s = .int .i64 er ∧ Hid (∃ okp, DoneI w wx O ob b0 I #[.int .i64 c.kind, .int .i64 c.flight, .int .i64 c.ar, .int .i64 c.ac, .int .i64 c.tr, .int .i64 c.tc, .int .i64 c.party, .int .i64 c.cls, .int .i64 c.time, .int .i64 c.pla.rows, .int .i64 c.pla.cols, .int .i64 c.pla.front, .int .i64 c.pla.l0, .int .i64 c.pla.l1, .int .i64 c.pla.l2, .int .i64 c.pla.l3] now' fl' okp wx.heap.size))
  case first =>
    go_region_law (refine step_call rfl 25 _ _ rfl #[.pointer (some ⟨I.kb, 0, none⟩), .agg #[.int .i64 c.kind, .int .i64 c.flight, .int .i64 c.ar, .int .i64 c.ac, .int .i64 c.tr, .int .i64 c.tc, .int .i64 c.party, .int .i64 c.cls, .int .i64 c.time, .int .i64 c.pla.rows, .int .i64 c.pla.cols, .int .i64 c.pla.front, .int .i64 c.pla.l0, .int .i64 c.pla.l1, .int .i64 c.pla.l2, .int .i64 c.pla.l3]] (by simp [Act.eval, Act.put]) (fun W => by kernel_rfl) (.int .i64 er) _ (unhide HD) ?_; intro w5 hk5)
    all_goals go_wp2
    all_goals go_meet
    all_goals exact ⟨rfl, (unhide HDI) _ _ _ hk5⟩
  case rest =>
    obtain ⟨rfl, hI⟩ := hcut
    obtain ⟨okp, hI⟩ := unhide hI
    have I5 := hide hI
    apply_assumption
    clear HD HDI H0 B0 M0 c1 l1 b1 bl1 hI
    have c2 : wc.cell? ⟨ob, 2, none⟩ = some (.pointer (some ⟨I.wb, 0, none⟩)) := (unhide I5).has.cell 2
    have l2 := (unhide I5).has.lt
    have HC := hide (wcopy_all (unhide I5).wor (unhide H).tidy)
    go_wp2_with fail
    refine (unhide HC).mono ?_
    rintro e w6 ⟨rfl, v6, ys6, ow6, hC, hv6⟩
    have I6 := hide ((unhide I5).still hC.mod)
    have HW6 := hide ((unhide HW) _ _ _ _ _ hC.wor ((unhide H).same.congr hC.len hC.same) hv6)
    have HNEW := hide hC.new
    have M56 := hide hC.mod
    have b6 := (unhide I6).box.cell
    have bl6 := (unhide I6).box.lt
    have hz6 := hide (show w.heap.size ≤ wc.heap.size from (unhide I5).m0)
    clear HC hC hv6 c2 l2 HW
    generalize hcb : wc.heap.size = cb at *
    have HCB := hide hcb
    clear hcb
    go_wp2_with fail
    refine (unhide HW6).mono ?_
    rintro e w7 ⟨rfl, hwd⟩
    obtain ⟨⟨v7, ys7, ow7, hw7, hs7, hn7, hv7⟩, hm7⟩ := hwd
    have M57 : Mod No wc w7 := (unhide M56).trans' hm7 (fun k hk hl => by
      have := (unhide HNEW) k hk
      have := unhide HCB
      omega)
    have I7 := hide ((unhide I5).still M57)
    have HLO := hide (show ∀ k, ow7 k ≠ 0 → cb ≤ k from fun k hk => by
      rcases hn7 k hk with e | e
      · have := (unhide HNEW) k e
        have := unhide HCB
        omega
      · have := (unhide M56).size
        have := unhide HCB
        omega)
    have HW7 := hide hw7
    have HS7 := hide hs7
    have HV7 := hide hv7
    have HR := hide fun n => room_any I.tb I.room (w7.drewN n) I.ts ((unhide I7).tape.drewN n) (unhide H).room
    have HFI := hide fun n => rfits_any I.most I.ch I.room hmost ⟨hch0, hch⟩ (w7.drewN n)
    have t0 : w7.cell? ⟨ob, 0, none⟩ = some (.pointer (some ⟨I.tb, 0, none⟩)) := (unhide I7).has.cell 0
    have t5 : w7.cell? ⟨ob, 5, none⟩ = some (.int .i64 I.most) := (unhide I7).has.cell 5
    have t6 : w7.cell? ⟨ob, 6, none⟩ = some (.int .i64 I.ch) := (unhide I7).has.cell 6
    have t7 : w7.cell? ⟨ob, 7, none⟩ = some (.bool false) := (unhide I7).has.cell 7
    have tl := (unhide I7).has.lt
    have HOBC := hide (show ob < cb from by have := (unhide H).lt ob (unhide H).mine.1; have := unhide hz6; have := unhide HCB; omega)
    clear hm7 hw7 hs7 hn7 hv7 M57 I6 HW6 HNEW M56 b6 bl6 hz6 I5 HCB
    go_upto_region 4 with fail
    go_cut [8] (fun s wx => (∃ b, s = .bool b) ∧ ∃ n, wx = w7.drewN n)
    case first =>
      go_quiet (first | (go_at_call 28; exact Calls.quiet_of_same ((unhide HR) _)) | (go_at_call 21; exact Calls.quiet_of_same ((unhide HFI) _)))
      go_wp2
      go_meet
      exact ⟨⟨_, rfl⟩, _, rfl⟩
    case rest =>
      obtain ⟨⟨bz, rfl⟩, n8, rfl⟩ := hcut
      apply_assumption
      clear HR HFI
      have I8 := hide ((unhide I7).still ((Mod.refl No w7).drewN n8))
      have W8 := hide ((unhide HW7).mod ((Mod.refl No w7).drewN n8) (fun _ _ x => x))
      clear t0 t5 t6 t7 tl I7 HW7
      generalize w7.drewN n8 = w8 at *
      by_cases hz : er = 0
      · subst hz
        have t6 : w8.cell? ⟨ob, 6, none⟩ = some (.int .i64 I.ch) := (unhide I8).has.cell 6
        have t7 : w8.cell? ⟨ob, 7, none⟩ = some (.bool false) := (unhide I8).has.cell 7
        have tl := (unhide I8).has.lt
        have tf := (unhide I8).has.frozen
        have t2 : w8.cell? ⟨ob, 2, none⟩ = some (.pointer (some ⟨I.wb, 0, none⟩)) := (unhide I8).has.cell 2
        have hw1 : IntKind.i64.wrap (I.ch + 1) = I.ch + 1 := wrap_fit _ (by omega) (by omega)
        have m9 : Mod (fun k => k = ob) w8 ((w8.setCell ⟨ob, 2, none⟩ (.pointer (some ⟨cb, 0, none⟩))).setCell ⟨ob, 6, none⟩ (.int .i64 (I.ch + 1))) := ((Mod.refl _ w8).at 2 _).at 6 _
        have h9 : Has ((w8.setCell ⟨ob, 2, none⟩ (.pointer (some ⟨cb, 0, none⟩))).setCell ⟨ob, 6, none⟩ (.int .i64 (I.ch + 1))) ob (oneV { I with wb := cb, owr := ow7, v := v7, xs := ys7, now := now', ch := I.ch + 1 }) 55 := ((unhide I8).has.set 2 _).set 6 _
        have HWE := hide (weigh_any (I := { I with wb := cb, owr := ow7, v := v7, xs := ys7, now := now', ch := I.ch + 1 }) h9 ((unhide W8).mod m9 (fun k hk e => by have := (unhide HLO) k hk; have := unhide HOBC; omega)) (unhide HV7) (by
          show ow7 ob = 0
          by_cases e : ow7 ob = 0
          · exact e
          · have := (unhide HLO) ob e; have := unhide HOBC; omega))
        have M9 := hide m9
        clear m9 h9
        go_wp2_with fail
        refine (unhide HWE).mono ?_
        rintro e w10 ⟨rfl, ⟨mo, hmo, hh10⟩, hm10⟩
        have FIN := hide ((unhide I8).fin (unhide H) (unhide W8) (unhide HS7) (unhide HV7) (unhide HLO) (unhide HTIME) (mo := mo) (hmo.elim (fun e => by rw [e]; exact hmost) (fun q => q)) ((unhide M9).trans hm10) hh10)
        clear hh10 hm10 hmo
        go_wp2
        go_ret
        exact ⟨rfl, unhide FIN⟩
      · have hne : (er != 0) = true := by simpa using hz
        have hq := unhide HERR hz
        obtain ⟨rfl, rfl⟩ := Prod.mk.inj hq
        have FIN := hide (DoneI.err (unhide H) (unhide I8))
        clear hq
        go_wp2
        go_ret
        exact ⟨rfl, unhide FIN⟩
end Go.Proofs.YtlcbemcamdafjaaGreat
/- What is asked: what is left, counts; both answer alike. -/
namespace Go.Proofs.YtlcbemcamdafjaaGreat
open Go.RowKit
open M
set_option linter.unusedVariables false
set_option linter.unusedSimpArgs false
set_option maxRecDepth 100000
set_option maxHeartbeats 4000000

theorem Same.miss {xs : List FR} {fl : Nat → Option (Pla × List Sea)} (h : Same xs fl) (c : Int) (hc : ¬ (1 ≤ c ∧ c ≤ 20)) : findN xs c = -1 := by
  rcases findN_cases xs c with h1 | ⟨i, hi, h1, h2⟩
  · exact h1
  · have := h.rng _ (List.getElem_mem hi)
    omega

theorem wleft_all {w : World} {ow : Nat → Nat} {wb : Nat} {v : Value} {xs : List FR} {now : Int} {fl : Nat → Option (Pla × List Sea)} (h : WorR w ow wb v xs now) (hs : Same xs fl) (n c : Int) :
    Calls Tryz.prog 34 #[.pointer (some ⟨wb, 0, none⟩), .int .i64 n, .int .i64 c] w fun e w' => e = .returned (.tuple #[.int .i64 (leftK fl n c).1, .int .i64 (leftK fl n c).2]) ∧ Mod No w w' := by
  unfold leftK
  by_cases hn : 1 ≤ n ∧ n ≤ 20
  case neg =>
    rw [if_pos hn]
    exact wleft_no h n c (hs.miss n hn)
  rw [if_neg (by omega)]
  rcases hs.find n hn with ⟨f1, f2⟩ | ⟨i, hi, f1, f2, f3⟩
  · rw [f2]
    exact wleft_no h n c f1
  · rw [f3]
    simp only
    by_cases hc : 0 ≤ c ∧ c < 4
    · rw [if_neg (by omega), left_ep]
      obtain ⟨gf, cap, rfl⟩ := h.some (by omega)
      have := wleft_yes h n i hi f1 c.toNat (by omega)
      rw [show ((c.toNat : Nat) : Int) = c by omega] at this
      exact this
    · rw [if_pos hc]
      exact wleft_class h n c i f1 hc

theorem wcount_all {w : World} {ow : Nat → Nat} {wb : Nat} {v : Value} {xs : List FR} {now : Int} {fl : Nat → Option (Pla × List Sea)} (h : WorR w ow wb v xs now) (hs : Same xs fl) (n : Int) :
    Calls Tryz.prog 36 #[.pointer (some ⟨wb, 0, none⟩), .int .i64 n] w fun e w' => e = .returned (.tuple #[.agg (countK fl n).1, .int .i64 (countK fl n).2]) ∧ Mod No w w' := by
  unfold countK
  by_cases hn : 1 ≤ n ∧ n ≤ 20
  case neg =>
    rw [if_pos hn]
    exact wcount_no h n (hs.miss n hn)
  rw [if_neg (by omega)]
  rcases hs.find n hn with ⟨f1, f2⟩ | ⟨i, hi, f1, f2, f3⟩
  · rw [f2]
    exact wcount_no h n f1
  · rw [f3]
    obtain ⟨gf, cap, rfl⟩ := h.some (by omega)
    exact wcount_yes h n i hi f1

theorem countK_tF (fl : Nat → Option (Pla × List Sea)) (n : Int) : ∃ a b s : Nat → Int, (countK fl n).1 = tF a b s := by
  unfold countK
  split
  · exact ⟨fun _ => 0, fun _ => 0, fun _ => 0, rfl⟩
  · split
    · exact ⟨fun _ => 0, fun _ => 0, fun _ => 0, rfl⟩
    · exact ⟨_, _, _, (tF_full _ _).symm⟩

theorem tot_sets {w : World} {g : Nat} (a b s : Nat → Int) (z : Has w g zero51 91) :
    Has ((((((((((((w.setCell ⟨g, 0, none⟩ (.int .i64 (a 0))).setCell ⟨g, 1, none⟩ (.int .i64 (a 1))).setCell ⟨g, 2, none⟩ (.int .i64 (a 2))).setCell ⟨g, 3, none⟩ (.int .i64 (a 3))).setCell ⟨g, 4, none⟩ (.int .i64 (b 0))).setCell ⟨g, 5, none⟩ (.int .i64 (b 1))).setCell ⟨g, 6, none⟩ (.int .i64 (b 2))).setCell ⟨g, 7, none⟩ (.int .i64 (b 3))).setCell ⟨g, 8, none⟩ (.int .i64 (s 0))).setCell ⟨g, 9, none⟩ (.int .i64 (s 1))).setCell ⟨g, 10, none⟩ (.int .i64 (s 2))).setCell ⟨g, 11, none⟩ (.int .i64 (s 3))) g (tF a b s) 91 ∧ Mod (fun k => k = g) w ((((((((((((w.setCell ⟨g, 0, none⟩ (.int .i64 (a 0))).setCell ⟨g, 1, none⟩ (.int .i64 (a 1))).setCell ⟨g, 2, none⟩ (.int .i64 (a 2))).setCell ⟨g, 3, none⟩ (.int .i64 (a 3))).setCell ⟨g, 4, none⟩ (.int .i64 (b 0))).setCell ⟨g, 5, none⟩ (.int .i64 (b 1))).setCell ⟨g, 6, none⟩ (.int .i64 (b 2))).setCell ⟨g, 7, none⟩ (.int .i64 (b 3))).setCell ⟨g, 8, none⟩ (.int .i64 (s 0))).setCell ⟨g, 9, none⟩ (.int .i64 (s 1))).setCell ⟨g, 10, none⟩ (.int .i64 (s 2))).setCell ⟨g, 11, none⟩ (.int .i64 (s 3))) := by
  unfold zero51 at z
  have e0 : Has (w.setCell ⟨g, 0, none⟩ (.int .i64 (a 0))) g #[.int .i64 (a 0), .int .i64 0, .int .i64 0, .int .i64 0, .int .i64 0, .int .i64 0, .int .i64 0, .int .i64 0, .int .i64 0, .int .i64 0, .int .i64 0, .int .i64 0] 91 := z.set 0 _
  have e1 : Has ((w.setCell ⟨g, 0, none⟩ (.int .i64 (a 0))).setCell ⟨g, 1, none⟩ (.int .i64 (a 1))) g #[.int .i64 (a 0), .int .i64 (a 1), .int .i64 0, .int .i64 0, .int .i64 0, .int .i64 0, .int .i64 0, .int .i64 0, .int .i64 0, .int .i64 0, .int .i64 0, .int .i64 0] 91 := e0.set 1 _
  have e2 : Has (((w.setCell ⟨g, 0, none⟩ (.int .i64 (a 0))).setCell ⟨g, 1, none⟩ (.int .i64 (a 1))).setCell ⟨g, 2, none⟩ (.int .i64 (a 2))) g #[.int .i64 (a 0), .int .i64 (a 1), .int .i64 (a 2), .int .i64 0, .int .i64 0, .int .i64 0, .int .i64 0, .int .i64 0, .int .i64 0, .int .i64 0, .int .i64 0, .int .i64 0] 91 := e1.set 2 _
  have e3 : Has ((((w.setCell ⟨g, 0, none⟩ (.int .i64 (a 0))).setCell ⟨g, 1, none⟩ (.int .i64 (a 1))).setCell ⟨g, 2, none⟩ (.int .i64 (a 2))).setCell ⟨g, 3, none⟩ (.int .i64 (a 3))) g #[.int .i64 (a 0), .int .i64 (a 1), .int .i64 (a 2), .int .i64 (a 3), .int .i64 0, .int .i64 0, .int .i64 0, .int .i64 0, .int .i64 0, .int .i64 0, .int .i64 0, .int .i64 0] 91 := e2.set 3 _
  have e4 : Has (((((w.setCell ⟨g, 0, none⟩ (.int .i64 (a 0))).setCell ⟨g, 1, none⟩ (.int .i64 (a 1))).setCell ⟨g, 2, none⟩ (.int .i64 (a 2))).setCell ⟨g, 3, none⟩ (.int .i64 (a 3))).setCell ⟨g, 4, none⟩ (.int .i64 (b 0))) g #[.int .i64 (a 0), .int .i64 (a 1), .int .i64 (a 2), .int .i64 (a 3), .int .i64 (b 0), .int .i64 0, .int .i64 0, .int .i64 0, .int .i64 0, .int .i64 0, .int .i64 0, .int .i64 0] 91 := e3.set 4 _
  have e5 : Has ((((((w.setCell ⟨g, 0, none⟩ (.int .i64 (a 0))).setCell ⟨g, 1, none⟩ (.int .i64 (a 1))).setCell ⟨g, 2, none⟩ (.int .i64 (a 2))).setCell ⟨g, 3, none⟩ (.int .i64 (a 3))).setCell ⟨g, 4, none⟩ (.int .i64 (b 0))).setCell ⟨g, 5, none⟩ (.int .i64 (b 1))) g #[.int .i64 (a 0), .int .i64 (a 1), .int .i64 (a 2), .int .i64 (a 3), .int .i64 (b 0), .int .i64 (b 1), .int .i64 0, .int .i64 0, .int .i64 0, .int .i64 0, .int .i64 0, .int .i64 0] 91 := e4.set 5 _
  have e6 : Has (((((((w.setCell ⟨g, 0, none⟩ (.int .i64 (a 0))).setCell ⟨g, 1, none⟩ (.int .i64 (a 1))).setCell ⟨g, 2, none⟩ (.int .i64 (a 2))).setCell ⟨g, 3, none⟩ (.int .i64 (a 3))).setCell ⟨g, 4, none⟩ (.int .i64 (b 0))).setCell ⟨g, 5, none⟩ (.int .i64 (b 1))).setCell ⟨g, 6, none⟩ (.int .i64 (b 2))) g #[.int .i64 (a 0), .int .i64 (a 1), .int .i64 (a 2), .int .i64 (a 3), .int .i64 (b 0), .int .i64 (b 1), .int .i64 (b 2), .int .i64 0, .int .i64 0, .int .i64 0, .int .i64 0, .int .i64 0] 91 := e5.set 6 _
  have e7 : Has ((((((((w.setCell ⟨g, 0, none⟩ (.int .i64 (a 0))).setCell ⟨g, 1, none⟩ (.int .i64 (a 1))).setCell ⟨g, 2, none⟩ (.int .i64 (a 2))).setCell ⟨g, 3, none⟩ (.int .i64 (a 3))).setCell ⟨g, 4, none⟩ (.int .i64 (b 0))).setCell ⟨g, 5, none⟩ (.int .i64 (b 1))).setCell ⟨g, 6, none⟩ (.int .i64 (b 2))).setCell ⟨g, 7, none⟩ (.int .i64 (b 3))) g #[.int .i64 (a 0), .int .i64 (a 1), .int .i64 (a 2), .int .i64 (a 3), .int .i64 (b 0), .int .i64 (b 1), .int .i64 (b 2), .int .i64 (b 3), .int .i64 0, .int .i64 0, .int .i64 0, .int .i64 0] 91 := e6.set 7 _
  have e8 : Has (((((((((w.setCell ⟨g, 0, none⟩ (.int .i64 (a 0))).setCell ⟨g, 1, none⟩ (.int .i64 (a 1))).setCell ⟨g, 2, none⟩ (.int .i64 (a 2))).setCell ⟨g, 3, none⟩ (.int .i64 (a 3))).setCell ⟨g, 4, none⟩ (.int .i64 (b 0))).setCell ⟨g, 5, none⟩ (.int .i64 (b 1))).setCell ⟨g, 6, none⟩ (.int .i64 (b 2))).setCell ⟨g, 7, none⟩ (.int .i64 (b 3))).setCell ⟨g, 8, none⟩ (.int .i64 (s 0))) g #[.int .i64 (a 0), .int .i64 (a 1), .int .i64 (a 2), .int .i64 (a 3), .int .i64 (b 0), .int .i64 (b 1), .int .i64 (b 2), .int .i64 (b 3), .int .i64 (s 0), .int .i64 0, .int .i64 0, .int .i64 0] 91 := e7.set 8 _
  have e9 : Has ((((((((((w.setCell ⟨g, 0, none⟩ (.int .i64 (a 0))).setCell ⟨g, 1, none⟩ (.int .i64 (a 1))).setCell ⟨g, 2, none⟩ (.int .i64 (a 2))).setCell ⟨g, 3, none⟩ (.int .i64 (a 3))).setCell ⟨g, 4, none⟩ (.int .i64 (b 0))).setCell ⟨g, 5, none⟩ (.int .i64 (b 1))).setCell ⟨g, 6, none⟩ (.int .i64 (b 2))).setCell ⟨g, 7, none⟩ (.int .i64 (b 3))).setCell ⟨g, 8, none⟩ (.int .i64 (s 0))).setCell ⟨g, 9, none⟩ (.int .i64 (s 1))) g #[.int .i64 (a 0), .int .i64 (a 1), .int .i64 (a 2), .int .i64 (a 3), .int .i64 (b 0), .int .i64 (b 1), .int .i64 (b 2), .int .i64 (b 3), .int .i64 (s 0), .int .i64 (s 1), .int .i64 0, .int .i64 0] 91 := e8.set 9 _
  have e10 : Has (((((((((((w.setCell ⟨g, 0, none⟩ (.int .i64 (a 0))).setCell ⟨g, 1, none⟩ (.int .i64 (a 1))).setCell ⟨g, 2, none⟩ (.int .i64 (a 2))).setCell ⟨g, 3, none⟩ (.int .i64 (a 3))).setCell ⟨g, 4, none⟩ (.int .i64 (b 0))).setCell ⟨g, 5, none⟩ (.int .i64 (b 1))).setCell ⟨g, 6, none⟩ (.int .i64 (b 2))).setCell ⟨g, 7, none⟩ (.int .i64 (b 3))).setCell ⟨g, 8, none⟩ (.int .i64 (s 0))).setCell ⟨g, 9, none⟩ (.int .i64 (s 1))).setCell ⟨g, 10, none⟩ (.int .i64 (s 2))) g #[.int .i64 (a 0), .int .i64 (a 1), .int .i64 (a 2), .int .i64 (a 3), .int .i64 (b 0), .int .i64 (b 1), .int .i64 (b 2), .int .i64 (b 3), .int .i64 (s 0), .int .i64 (s 1), .int .i64 (s 2), .int .i64 0] 91 := e9.set 10 _
  have e11 : Has ((((((((((((w.setCell ⟨g, 0, none⟩ (.int .i64 (a 0))).setCell ⟨g, 1, none⟩ (.int .i64 (a 1))).setCell ⟨g, 2, none⟩ (.int .i64 (a 2))).setCell ⟨g, 3, none⟩ (.int .i64 (a 3))).setCell ⟨g, 4, none⟩ (.int .i64 (b 0))).setCell ⟨g, 5, none⟩ (.int .i64 (b 1))).setCell ⟨g, 6, none⟩ (.int .i64 (b 2))).setCell ⟨g, 7, none⟩ (.int .i64 (b 3))).setCell ⟨g, 8, none⟩ (.int .i64 (s 0))).setCell ⟨g, 9, none⟩ (.int .i64 (s 1))).setCell ⟨g, 10, none⟩ (.int .i64 (s 2))).setCell ⟨g, 11, none⟩ (.int .i64 (s 3))) g #[.int .i64 (a 0), .int .i64 (a 1), .int .i64 (a 2), .int .i64 (a 3), .int .i64 (b 0), .int .i64 (b 1), .int .i64 (b 2), .int .i64 (b 3), .int .i64 (s 0), .int .i64 (s 1), .int .i64 (s 2), .int .i64 (s 3)] 91 := e10.set 11 _
  exact ⟨e11, (((((((((((((Mod.refl _ w).at 0 _).at 1 _).at 2 _).at 3 _).at 4 _).at 5 _).at 6 _).at 7 _).at 8 _).at 9 _).at 10 _).at 11 _)⟩

/-- A box with counts in it. -/
structure TotB (w wx : World) (g : Nat) (a b s : Nat → Int) : Prop where
  has : Has wx g (tF a b s) 91
  mod : Mod No w wx
theorem TotB.still {w wx wy : World} {g : Nat} {a b s : Nat → Int} (h : TotB w wx g a b s) (hm : Mod No wx wy) : TotB w wy g a b s := ⟨hm.has h.has (fun x => x), h.mod.trans hm⟩
theorem TotB.one {w wr w5 : World} {a b s : Nat → Int} (hr : Mod No w wr) (hm : Mod No wr.drew w5) : TotB w (w5.alloc (.cells #[.int .i64 (a 0), .int .i64 (a 1), .int .i64 (a 2), .int .i64 (a 3), .int .i64 (b 0), .int .i64 (b 1), .int .i64 (b 2), .int .i64 (b 3), .int .i64 (s 0), .int .i64 (s 1), .int .i64 (s 2), .int .i64 (s 3)] 91)) w5.heap.size a b s :=
  ⟨Has.new w5 (tF a b s) 91, (hr.drew.trans hm).alloc _⟩
theorem TotB.two {w wr w5 : World} {a b s : Nat → Int} (hr : Mod No w wr) (hm : Mod No (wr.alloc (.cells #[.int .i64 0, .int .i64 0, .int .i64 0, .int .i64 0, .int .i64 0, .int .i64 0, .int .i64 0, .int .i64 0, .int .i64 0, .int .i64 0, .int .i64 0, .int .i64 0] 91)).drew w5) : TotB w ((((((((((((w5.setCell ⟨wr.heap.size, 0, none⟩ (.int .i64 (a 0))).setCell ⟨wr.heap.size, 1, none⟩ (.int .i64 (a 1))).setCell ⟨wr.heap.size, 2, none⟩ (.int .i64 (a 2))).setCell ⟨wr.heap.size, 3, none⟩ (.int .i64 (a 3))).setCell ⟨wr.heap.size, 4, none⟩ (.int .i64 (b 0))).setCell ⟨wr.heap.size, 5, none⟩ (.int .i64 (b 1))).setCell ⟨wr.heap.size, 6, none⟩ (.int .i64 (b 2))).setCell ⟨wr.heap.size, 7, none⟩ (.int .i64 (b 3))).setCell ⟨wr.heap.size, 8, none⟩ (.int .i64 (s 0))).setCell ⟨wr.heap.size, 9, none⟩ (.int .i64 (s 1))).setCell ⟨wr.heap.size, 10, none⟩ (.int .i64 (s 2))).setCell ⟨wr.heap.size, 11, none⟩ (.int .i64 (s 3))) wr.heap.size a b s := by
  have hz := hm.has (show Has (wr.alloc (.cells #[.int .i64 0, .int .i64 0, .int .i64 0, .int .i64 0, .int .i64 0, .int .i64 0, .int .i64 0, .int .i64 0, .int .i64 0, .int .i64 0, .int .i64 0, .int .i64 0] 91)).drew wr.heap.size zero51 91 from (Has.new wr zero51 91).drew) (fun x => x)
  obtain ⟨h1, h2⟩ := tot_sets a b s hz
  refine ⟨h1, ((hr.alloc _).drew.trans hm).trans' h2 (fun i hi hl => ?_)⟩
  have := hr.size
  omega
end Go.Proofs.YtlcbemcamdafjaaGreat
