import Derived.Test.YtlcbemcamdafjaaCfoldedFld3
import Derived.Deep.LoopGhost
import Derived.Deep.CutBlock
/- Who folds all bulletins: one follower asks until there are no more: the walk. -/
namespace Go.Proofs.Ytlcbemcamdafjaa
open Go.RowKit
open M
set_option linter.unusedVariables false
set_option linter.unusedSimpArgs false
set_option maxRecDepth 100000
set_option maxHeartbeats 20000000

def told (tl : Nat → Option (List FEnt)) : Nat → List FEnt := fun v => (tl v).getD []
def begunT (tl : Nat → Option (List FEnt)) : Nat → Bool := fun v => (tl v).isSome

theorem tdiv8 (a : Int) (h : -9223372036854775808 ≤ a ∧ a ≤ 9223372036854775807) : -9223372036854775808 ≤ a.tdiv 8 ∧ a.tdiv 8 ≤ 9223372036854775807 := by
  have := Int.tdiv_eq_ediv (a := a) (b := 8)
  rw [this]
  split
  · omega
  · have : Int.sign 8 = 1 := rfl
    rw [this]
    omega

theorem FldN.made {w W wr : World} {ow om : Nat → Nat} {kb lb nb gb i n cap : Nat} {now : Int} {fl : Nat → Option (Pla × List Sea)} {tl : Nat → Option (List FEnt)} {kt : Nat → List FEnt} {bt : Nat → Bool} {a : Option Addr} {news : List Nw} (h : FldG w wr ow om kb lb nb gb i now fl tl kt bt) (hr : wr.ownsRow 0 78 3 (.slice a n cap) news.length (news.flatMap nwL)) (ho : ∀ k, (Value.slice a n cap).ownBlock = some k → W.heap.size ≤ k)
    (hl : lb < W.heap.size ∧ nb < W.heap.size ∧ gb < W.heap.size ∧ kb < W.heap.size ∧ ow kb = 1) (fresh more : Bool) : FldN w (wr.alloc (.cells #[.bool fresh, .slice a n cap, .bool more] 74)) ow om kb lb nb gb wr.heap.size i now fl tl kt bt fresh (.slice a n cap) news more := by
  have hm : Mod No wr (wr.alloc (.cells #[.bool fresh, .slice a n cap, .bool more] 74)) := (Mod.refl _ _).alloc _
  obtain ⟨l1, l2, l3, l4, l5⟩ := h.lts
  exact ⟨h.still hm, Has.new _ _ _, hm.owns hr (fun _ _ x => x), fun k hk => by have := ho k hk; omega, by omega⟩

theorem FldN.began {w wr : World} {ow om : Nat → Nat} {kb lb nb gb bb i : Nat} {now : Int} {fl : Nat → Option (Pla × List Sea)} {tl : Nat → Option (List FEnt)} {kt : Nat → List FEnt} {bt : Nat → Bool} {fresh : Bool} {vv : Value} {news : List Nw} {more : Bool} (h : FldN w wr ow om kb lb nb gb bb i now fl tl kt bt fresh vv news more) (u : Nat) (hu : u < 8) :
    FldN w (wr.setCell ⟨gb, u, none⟩ (.bool true)) ow om kb lb nb gb bb i now fl tl kt (fun v => if v = u then true else bt v) fresh vv news more :=
  ⟨h.g.began u hu, h.bul.set_ne (by simpa using h.ne.2) _, owns_setCell_ne h.row (by intro e; exact (h.own _ e).2 rfl) _, h.own, h.ne⟩

theorem fld_asks {w w0 : World} {ow om : Nat → Nat} {kb lb nb gb i : Nat} {now ask : Int} {fl : Nat → Option (Pla × List Sea)} {tl : Nat → Option (List FEnt)} (u : Nat) (hu : u < 8) (hask : -9223372036854775808 ≤ ask ∧ ask ≤ 9223372036854775807) (Q0 : Exit → Act → World → Prop)
    (hI : Hid (FldG w w0 ow om kb lb nb gb i now fl tl (told tl) (begunT tl))) (sl0 sl1 sl2 sl3 sl4 sl7 sl10 sl11 sl12 sl13 sl17 sl18 sl19 sl20 sl21 sl22 sl23 sl24 sl25 sl26 sl27 sl28 sl29 sl30 sl31 sl32 sl33 sl34 sl35 sl36 sl37 sl38 sl39 sl40 sl41 sl42 sl43 sl44 sl45 sl46 sl47 sl48 sl49 sl50 sl51 sl52 sl53 sl54 sl55 sl56 sl57 sl58 sl59 sl60 sl61 sl62 sl63 sl64 sl65 sl66 sl67 sl68 sl69 sl70 sl71 sl72 sl73 sl74 sl75 sl76 sl77 sl78 sl79 sl80 sl81 sl82 sl83 sl84 sl85 sl86 sl87 sl88 sl89 sl90 sl91 sl92 sl93 sl94 sl95 sl96 sl97 sl98 sl99 sl100 sl101 sl102 sl103 sl104 sl105 sl106 sl107 sl108 sl109 sl110 sl111 sl112 sl113 sl114 sl115 sl116 sl117 sl118 sl119 sl120 sl121 sl122 sl123 sl124 sl125 sl126 sl127 sl128 sl129 sl130 sl131 sl132 sl133 sl134 sl135 sl136 sl137 sl138 sl139 sl140 sl141 sl142 sl143 sl144 sl145 sl146 sl147 sl148 sl149 sl150 sl151 sl152 sl153 sl154 sl155 sl156 sl157 sl158 sl159 sl160 sl161 sl162 sl163 sl164 sl165 sl166 sl167 sl168 sl169 sl170 sl171 sl172 sl173 sl174 sl175 sl176 sl177 sl178 sl179 sl180 sl181 sl182 sl183 sl184 sl185 sl186 sl187 sl188 sl189 sl190 : Value)
    (hexit : ∀ (x16 x17 x18 x19 x20 x85 x86 x87 x88 x89 x90 x91 x92 x93 x94 x95 x96 x97 x98 x99 x100 x101 x102 x103 x104 x105 x106 x107 x108 x109 x110 x111 x112 x113 x114 x115 x116 x117 x118 x119 x120 x121 x122 x123 x124 x125 x126 x127 x128 x129 x130 x131 x132 x133 x134 x135 x136 x137 x138 x139 x140 x141 x142 x143 x144 x145 x146 x147 x148 x149 x150 x151 x152 x153 x154 x155 x156 x157 x158 x159 x160 x161 x162 x163 x164 x165 x166 x167 x168 x169 x170 x171 x172 x173 x174 x175 x176 x177 x178 x179 x180 : Value) (wx : World) (om' : Nat → Nat) (tl' : Nat → Option (List FEnt)), Hid (FldG w wx ow om' kb lb nb gb i now fl tl' (told tl') (begunT tl') ∧ ∀ j, j < 84 → tb (told tl' u) (j / 4 : Nat) (j % 4 : Nat) = leftT fl j) → Q0 (.exit 8) ⟨#[sl0, sl1, sl2, sl3, sl4, .pointer (some ⟨kb, 0, none⟩), .bool true, sl7, .pointer (some ⟨nb, 0, none⟩), .pointer (some ⟨gb, 0, none⟩), sl10, sl11, sl12, sl13, .int .i64 ask, .int .i64 (u : Nat), x16, x17, x18, x19, x20, sl21, sl22, sl23, sl24, sl25, sl26, sl27, sl28, sl29, sl30, sl31, sl32, sl33, sl34, sl35, sl36, sl37, sl38, sl39, sl40, sl41, sl42, sl43, sl44, sl45, sl46, sl47, sl48, sl49, sl50, sl51, sl52, sl53, sl54, sl55, sl56, sl57, sl58, sl59, sl60, sl61, sl62, sl63, sl64, sl65, sl66, sl67, sl68, sl69, sl70, sl71, sl72, sl73, sl74, sl75, sl76, sl77, sl78, sl79, sl80, sl81, sl82, sl83, sl84, x85, x86, x87, x88, x89, x90, x91, x92, x93, x94, x95, x96, x97, x98, x99, x100, x101, x102, x103, x104, x105, x106, x107, x108, x109, x110, x111, x112, x113, x114, x115, x116, x117, x118, x119, x120, x121, x122, x123, x124, x125, x126, x127, x128, x129, x130, x131, x132, x133, x134, x135, x136, x137, x138, x139, x140, x141, x142, x143, x144, x145, x146, x147, x148, x149, x150, x151, x152, x153, x154, x155, x156, x157, x158, x159, x160, x161, x162, x163, x164, x165, x166, x167, x168, x169, x170, x171, x172, x173, x174, x175, x176, x177, x178, x179, x180, sl181, sl182, sl183, sl184, sl185, sl186, sl187, sl188, sl189, sl190], []⟩ wx) :
    Code.wp Try.prog (fldLoop 4) Q0 ⟨#[sl0, sl1, sl2, sl3, sl4, .pointer (some ⟨kb, 0, none⟩), .bool true, sl7, .pointer (some ⟨nb, 0, none⟩), .pointer (some ⟨gb, 0, none⟩), sl10, sl11, sl12, sl13, .int .i64 ask, .int .i64 (u : Nat), .bool true, sl17, sl18, sl19, sl20, sl21, sl22, sl23, sl24, sl25, sl26, sl27, sl28, sl29, sl30, sl31, sl32, sl33, sl34, sl35, sl36, sl37, sl38, sl39, sl40, sl41, sl42, sl43, sl44, sl45, sl46, sl47, sl48, sl49, sl50, sl51, sl52, sl53, sl54, sl55, sl56, sl57, sl58, sl59, sl60, sl61, sl62, sl63, sl64, sl65, sl66, sl67, sl68, sl69, sl70, sl71, sl72, sl73, sl74, sl75, sl76, sl77, sl78, sl79, sl80, sl81, sl82, sl83, sl84, sl85, sl86, sl87, sl88, sl89, sl90, sl91, sl92, sl93, sl94, sl95, sl96, sl97, sl98, sl99, sl100, sl101, sl102, sl103, sl104, sl105, sl106, sl107, sl108, sl109, sl110, sl111, sl112, sl113, sl114, sl115, sl116, sl117, sl118, sl119, sl120, sl121, sl122, sl123, sl124, sl125, sl126, sl127, sl128, sl129, sl130, sl131, sl132, sl133, sl134, sl135, sl136, sl137, sl138, sl139, sl140, sl141, sl142, sl143, sl144, sl145, sl146, sl147, sl148, sl149, sl150, sl151, sl152, sl153, sl154, sl155, sl156, sl157, sl158, sl159, sl160, sl161, sl162, sl163, sl164, sl165, sl166, sl167, sl168, sl169, sl170, sl171, sl172, sl173, sl174, sl175, sl176, sl177, sl178, sl179, sl180, sl181, sl182, sl183, sl184, sl185, sl186, sl187, sl188, sl189, sl190], []⟩ w0 := by
  conv => arg 4; dsimp only
  conv => arg 2; whnf
  have hu8 : (u : Int) < 8 := by omega
  have hu0 : (0 : Int) ≤ u := by omega
  go_loopg [6, 16] (diffs (told tl u) (itemsK fl 21) + 1) (fun k s6 s16 wr => s6 = .bool true ∧ ∃ (more : Bool) (om' : Nat → Nat) (tl' : Nat → Option (List FEnt)), s16 = .bool more ∧ Hid (FldG w wr ow om' kb lb nb gb i now fl tl' (told tl') (begunT tl')) ∧ Hid (more = true → diffs (told tl' u) (itemsK fl 21) < k) ∧ Hid (more = false → ∀ j, j < 84 → tb (told tl' u) (j / 4 : Nat) (j % 4 : Nat) = leftT fl j))
  case atStart => exact ⟨rfl, true, om, tl, rfl, hI, fun _ => Nat.lt_succ_self _, fun h => by cases h⟩
  case round =>
    obtain ⟨rfl, more, om', tl', rfl, I2, DK, HE⟩ := hrel
    clear hI
    cases more with
    | false =>
      have HX := hide (show _ ∧ _ from ⟨unhide I2, (unhide HE) rfl⟩)
      clear DK HE
      go_wp2_with fail
      apply hexit
      exact HX
    | true =>
      have DK := hide ((unhide DK) rfl)
      clear HE
      have hp := pickN_range (Int.tdiv ask 8) 50 (by omega)
      have HPK := hide fun W => pick_any (Int.tdiv ask 8) 50 (tdiv8 ask hask) (by omega) W
      generalize hpk : pickN (Int.tdiv ask 8) 50 = pk at *
      have e1 : IntKind.i64.wrap (1 + pk) = 1 + pk := wrap_id _ (by omega) (by omega)
      have HFO := hide ((unhide I2).follow u hu (1 + pk) (by omega))
      go_wp2_with fail
      refine ((unhide HPK) _).mono ?_
      rintro e w1 ⟨rfl, rfl⟩
      go_wp2_with fail
      refine (unhide HFO).mono ?_
      rintro e w2 ⟨vv, clock, om2, rfl, hg, hrow, hown, hok⟩
      have hT := telF_of (most := 1 + pk) (fl := fl) clock (by omega) hok (unhide I2).zero (fun n hn hf c hc => (unhide I2).abs u hu n hn hf c hc)
      generalize hTT : tells (1 + pk) ⟨[], false, (tl' u).getD [], clock⟩ (itemsK fl 21) = T at *
      have HT := hide hT
      have HG := hide hg
      have HR := hide hrow
      have HWN := hide hown
      have HI2 := I2
      obtain ⟨a, cap, rfl⟩ := slice_of_owns hrow
      have hfr : (tl' u).isNone = !begunT tl' u := by unfold begunT; cases tl' u <;> rfl
      have HBEG := hide (((unhide HG).beg.cell u).trans (tabB_get _ u hu))
      generalize (tl' u).isNone = fr at *
      have hft : (fr == !begunT tl' u) = true := by rw [hfr]; simp
      generalize hbg : begunT tl' u = bg at *
      have HFR := hide hfr
      have HBG := hide hbg
      clear hfr hbg
      clear hT hg hrow hown hok hTT HFO
      unfold bullV
      go_wp2_with fail
      have IN := hide (FldN.made (w := w) (unhide HG) (unhide HR) (unhide HWN) (unhide HI2).lts fr T.more)
      clear HG HR HWN HBEG
      generalize w2.heap.size = bb at *
      generalize w2.alloc (.cells #[.bool fr, .slice a T.news.length cap, .bool T.more] 74) = w3 at *
      have b0 : w3.cell? ⟨bb, 0, none⟩ = some (.bool fr) := (unhide IN).bul.cell 0
      have b1 : w3.cell? ⟨bb, 1, none⟩ = some (.slice a T.news.length cap) := (unhide IN).bul.cell 1
      have b2 : w3.cell? ⟨bb, 2, none⟩ = some (.bool T.more) := (unhide IN).bul.cell 2
      have g0 : w3.cell? ⟨gb, u, none⟩ = some (.bool bg) := ((unhide IN).g.beg.cell u).trans ((tabB_get _ u hu).trans (by rw [unhide HBG]))
      obtain ⟨fz1, fz2, ln1, ln2⟩ := (unhide IN).g.froz
      go_cut [6] from 85 to 120 (fun s wx => s = .bool true ∧ Hid (FldN w wx ow om2 kb lb nb gb bb i now fl (fun j => if j = u then some T.es else tl' j) (told tl') (begunT tl') fr (.slice a T.news.length cap) T.news T.more))
      case first =>
        have IND := hide fun n => (unhide IN).still ((Mod.refl No w3).drewN n)
        have hpos : T.more = true → (T.news.length : Int) > 0 := fun h => by have := (unhide HT).more h; omega
        generalize T.news.length = N at *
        cases hmo : T.more with
        | true =>
          have hp := hpos hmo
          have hpd : decide (0 < N) = true := by simp; omega
          rw [hmo] at b2
          clear IN hpos hmo
          go_quiet (fail)
          go_wp2
          go_meet
          exact ⟨rfl, (unhide IND) _⟩
        | false =>
          rw [hmo] at b2
          clear IN hpos hmo
          go_quiet (fail)
          go_wp2
          go_meet
          exact ⟨rfl, (unhide IND) _⟩
      case rest =>
        obtain ⟨rfl, IW⟩ := hcut
        apply_assumption
        clear b0 b1 b2 g0 fz1 fz2 ln1 ln2 IN
        obtain ⟨fz1, fz2, ln1, ln2⟩ := (unhide IW).g.froz
        have g0 : wc.cell? ⟨gb, u, none⟩ = some (.bool bg) := ((unhide IW).g.beg.cell u).trans ((tabB_get _ u hu).trans (by rw [unhide HBG]))
        have IB := hide ((unhide IW).began u hu)
        go_upto_block 10 with fail
        refine wp_block ?_
        have KZ : ktj u (told tl' u) clock T.news (told tl') 0 = told tl' := ktj_zero rfl
        have KA := ktj_all (u := u) (tl := tl') (unhide HT)
        have IB2 := hide (show FldN w (wc.setCell ⟨gb, u, none⟩ (.bool true)) ow om2 kb lb nb gb bb i now fl (fun j => if j = u then some T.es else tl' j) (ktj u (told tl' u) clock T.news (told tl') 0) (fun v => if v = u then true else begunT tl' v) fr (.slice a T.news.length cap) T.news T.more from by rw [KZ]; exact unhide IB)
        refine fld_news u hu (show 1 + pk ≤ 50 by omega) (show Hid (TelF (1 + pk) (told tl' u) clock fl T) from HT) _ IB2 _ _ _ _ _ _ _ _ _ _ _ _ _ _ _ _ _ _ _ _ _ _ _ _ _ _ _ _ _ _ _ _ _ _ _ _ _ _ _ _ _ _ _ _ _ _ _ _ _ _ _ _ _ _ _ _ _ _ _ _ _ _ _ _ _ _ _ _ _ _ _ _ _ _ _ _ _ _ _ _ _ _ _ _ _ _ _ _ _ _ _ _ _ _ _ _ _ _ _ _ _ _ _ _ _ _ _ _ _ _ _ _ _ _ _ _ _ _ _ _ _ _ _ _ _ _ _ _ _ _ _ _ _ _ _ _ _ _ _ _ _ _ _ _ _ _ _ _ _ _ _ _ _ _ _ _ _ _ _ _ _ _ _ _ _ _ _ _ _ _ _ _ _ _ _ _ _ _ _ _ _ _ _ _ _ _ ?_
        intro x19 x20 x123 x124 x125 x126 x127 x128 x129 x130 x131 x132 x133 x134 x135 x136 x137 x138 x139 x140 x141 x142 x143 x144 x145 x146 x147 x148 x149 x150 x151 x152 x153 x154 x155 x156 x157 x158 x159 x160 x161 x162 x163 x164 x165 x166 x167 x168 x169 x170 x171 x172 x173 x174 x175 x176 x177 x178 wx IX
        have BA := bt_all (u := u) (es := T.es) (tl := tl')
        have IY := hide (show FldN w wx ow om2 kb lb nb gb bb i now fl (fun j => if j = u then some T.es else tl' j) (told (fun j => if j = u then some T.es else tl' j)) (begunT (fun j => if j = u then some T.es else tl' j)) fr (.slice a T.news.length cap) T.news T.more from by
          have h := unhide IX
          have e1 : ktj u (told tl' u) clock T.news (told tl') T.news.length = told (fun j => if j = u then some T.es else tl' j) := KA
          have e2 : (fun v => if v = u then true else begunT tl' v) = begunT (fun j => if j = u then some T.es else tl' j) := BA
          rw [e1, e2] at h
          exact h)
        have b2 : wx.cell? ⟨bb, 2, none⟩ = some (.bool T.more) := (unhide IY).bul.cell 2
        have lb2 := (unhide IY).bul.lt
        have hdec := (unhide HT).dec
        have hlen1 : T.more = true → 1 ≤ T.news.length := fun h => by have := (unhide HT).more h; omega
        have hmo := (unhide HT).more
        have hall := (unhide HT).all
        have ET : told (fun j => if j = u then some T.es else tl' j) u = T.es := by unfold told; simp
        have DK0 := unhide DK
        have e0 : told tl' u = (tl' u).getD [] := rfl
        rw [e0] at DK0
        have REL := hide (show ∃ k', k' < gk ∧ (T.more = true → diffs (told (fun j => if j = u then some T.es else tl' j) u) (itemsK fl 21) < k') ∧ (T.more = false → ∀ j, j < 84 → tb (told (fun j => if j = u then some T.es else tl' j) u) (j / 4 : Nat) (j % 4 : Nat) = leftT fl j) from by
          rw [ET]
          have DK1 : diffs ((tl' u).getD []) (itemsK fl 21) < gk := by first | exact DK0 | exact DK0 trivial
          have hdec1 : diffs T.es (itemsK fl 21) + T.news.length ≤ diffs ((tl' u).getD []) (itemsK fl 21) := hdec
          clear DK0 hdec
          cases hm : T.more with
          | true =>
            have h1 := hlen1 hm
            exact ⟨diffs T.es (itemsK fl 21) + 1, by omega, fun _ => Nat.lt_succ_self _, fun h => by cases h⟩
          | false => exact ⟨0, by omega, (fun h => by cases h), fun _ => hall hm⟩)
        clear KZ KA IB2 IB IX BA hdec hlen1 hmo hall ET DK0 e0 IW HPK HI2 I2 DK HT g0
        generalize T.more = mo at *
        obtain ⟨k', r1, r2, r3⟩ := unhide REL
        have R2 := hide r2
        have R3 := hide r3
        clear REL r2 r3
        go_wp2
        go_roundg k'
        case measure => exact r1
        case rel => exact ⟨rfl, mo, om2, _, rfl, (unhide IY).g, R2, R3⟩
end Go.Proofs.Ytlcbemcamdafjaa
