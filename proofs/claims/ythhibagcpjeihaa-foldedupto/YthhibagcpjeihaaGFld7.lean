import Derived.Test.YthhibagcpjeihaaGFld3ToFld6
/- Who folds all bulletins: the walk. -/
namespace Go.Proofs.Ythhibagcpjeihaa
open Go.RowKit
open M
set_option linter.unusedVariables false
set_option linter.unusedSimpArgs false
set_option maxRecDepth 100000
set_option maxHeartbeats 20000000
attribute [local go_sem] eqT0 eqT1

theorem zero672 : Try.zeroCells70 = tab (fun _ => 0) 672 := by kernel_rfl
theorem size84 : (Try.prog.info? 69).map (·.size) = some 84 := by kernel_rfl

theorem FldG.start {w W w3 w5 : World} {ow : Nat → Nat} {kb lb nb gb : Nat} {cs : Array Value} (hk : KeepM W ow kb 0 fl0 (lft 0)) (hf : FolX W ow (fun _ => 0) kb (fun _ => none)) (ho : ∀ k, k < w.heap.size → ow k = 0) (hW : Mod No w W) (hm : Mod No W w3) (hs : cs.size = 84) (hl : Has w3 lb cs 104) (hn : Has w3 nb (lay 0) 70) (hg : Has w3 gb (tabB (fun _ => false)) 71)
    (hne : W.heap.size ≤ lb ∧ lb < nb ∧ nb < gb) (h : LayI w3 w5 nb 672) : FldG w w5 ow (fun _ => 0) kb lb nb gb 0 0 fl0 (fun _ => none) (told (fun _ => none)) (begunT (fun _ => none)) := by
  have hold := hk.old
  have hkb : kb < W.heap.size := by obtain ⟨pt, hx⟩ := hk.toH; exact hx.has.lt
  have hz : ∀ b, W.heap.size ≤ b → ow b = 0 := fun b hb => by
    by_cases e : ow b = 0
    · exact e
    · have := hold b e; omega
  have hk3 := hk.mod hm (fun _ _ x => x)
  have hf3 := hf.still hm
  have sW := hW.size
  have hm5 : Mod No w w5 := (hW.trans hm).trans' h.mod (fun i hi hl => by omega)
  refine ⟨hk3.mod h.mod (fun k hk e => by subst e; exact hk (hz _ (by omega))), hf3.mod h.mod (fun e => by have e' : kb = nb := e; omega) (fun k hk e => hk rfl), fun b hb => ⟨?_, rfl⟩, by omega, ⟨cs, hs, h.mod.has hl (by omega)⟩, ⟨fun j => if j < 672 then -1 else 0, h.has, fun v hv j hj => ?_⟩, h.mod.has hg (by omega), rfl, ⟨_, _, rfl⟩, fun v hv n hn hf c hc => rfl, by omega, by omega, hm5, by omega⟩
  · rcases hb with rfl | rfl | rfl | hb
    · exact hz _ (by omega)
    · exact hz _ (by omega)
    · exact hz _ (by omega)
    · exact ho b hb
  · show (if v * 84 + j < 672 then (-1 : Int) else 0) = _
    rw [if_pos (by omega)]
    rfl

theorem FldG.more {w wr : World} {ow om : Nat → Nat} {kb lb nb gb i : Nat} {now : Int} {fl : Nat → Option (Pla × List Sea)} {tl : Nat → Option (List FEnt)} {kt : Nat → List FEnt} {bt : Nat → Bool} (h : FldG w wr ow om kb lb nb gb i now fl tl kt bt) : FldG w wr ow om kb lb nb gb (i + 1) now fl tl kt bt :=
  ⟨h.keep.less (by unfold lft; omega), h.fol, h.own, h.apart, h.lim, h.kno, h.beg, h.zero, h.one, h.abs, h.now0, by have := h.now1; omega, h.mod, h.new⟩

theorem folded_any (a : Option Addr) (n cap : Nat) (hn : n ≤ 1048576) (a2 : Option Addr) (n2 cap2 : Nat) (hn2 : n2 ≤ 17592186044416) (w : World) (hs : Script w a n) (hq : Nums w a2 n2) :
    Calls Try.prog 7 #[.slice a n cap, .slice a2 n2 cap2] w fun e w' => e = .returned (.bool true) ∧ Mod No w w' := by
  have HS := hide hs
  have HQ := hide hq
  clear hs hq
  go_enter Try.func7, Try.ntmps7
  go_wp2_with fail
  refine (new_any _ _).mono ?_
  rintro e w1 ⟨rfl, rfl⟩
  have HG := hide (begunF_any w)
  unfold tape0 at HG
  generalize w.alloc (.cells (⟨⟨.slice none 0 0, [], 0⟩, ⟨.slice none 0 0, [], 0⟩, ⟨.slice none 0 0, [], 0⟩, ⟨.slice none 0 0, [], 0⟩, 1099511627776, -1⟩ : TTape).cells 103) = w1 at *
  go_wp2_with fail
  refine (unhide HG).mono ?_
  rintro e w2 ⟨kb, rfl, ⟨ow, k2, f2, ho⟩, m2, nx⟩
  clear nx
  have M2 := hide m2
  have K2 := hide k2
  have F2 := hide f2
  have HO := hide (show ∀ k, k < w.heap.size → ow k = 0 from fun k hk => ho k (by omega))
  clear k2 f2 ho m2 HG
  clear w1
  go_wp2_with fail
  refine (firstL_any _).mono ?_
  rintro e w3 ⟨cs, hcs, hL, rfl, h3, m3⟩
  have M3 := hide m3
  have L3 := hide h3
  have lt3 := h3.lt
  clear h3 hL m3
  go_upto_block 0 with fail
  rw [zero672]
  have A1 := Has.new w3 (tab (fun _ => 0) 672) 70
  have A2 := Has.new (w3.alloc (.cells (tab (fun _ => 0) 672) 70)) (tabB (fun _ => false)) 71
  have mA : Mod No w3 ((w3.alloc (.cells (tab (fun _ => 0) 672) 70)).alloc (.cells (tabB (fun _ => false)) 71)) := ((Mod.refl _ w3).alloc _).alloc _
  rw [World.size_alloc] at A2
  have A1 := A1.alloc (.cells (tabB (fun _ => false)) 71)
  have A1' : Has ((w3.alloc (.cells (tab (fun _ => 0) 672) 70)).alloc (.cells (tabB (fun _ => false)) 71)) w3.heap.size (lay 0) 70 := by
    have e : lay 0 = tab (fun _ => 0) 672 := tab_congr (fun j hj => if_neg (by omega))
    rw [e]
    exact A1
  have FZ := hide fun (w5 : World) => FldG.start (w5 := w5) (unhide K2) (unhide F2) (unhide HO) (unhide M2) ((unhide M3).trans mA) hcs (mA.has (unhide L3) (fun x => x)) A1' A2 (by have := (unhide M3).size; omega)
  have I0 := hide (show LayI ((w3.alloc (.cells (tab (fun _ => 0) 672) 70)).alloc (.cells (tabB (fun _ => false)) 71)) ((w3.alloc (.cells (tab (fun _ => 0) 672) 70)).alloc (.cells (tabB (fun _ => false)) 71)) w3.heap.size 0 from ⟨A1', Mod.refl _ _⟩)
  clear A1 A2 A1' mA K2 F2 HO M2 M3 L3 lt3
  unfold tabB at FZ I0
  generalize w3.heap.size + 1 = gb at *
  generalize w3.heap.size = nb at *
  generalize w2.heap.size = lb at *
  generalize (w3.alloc (.cells (tab (fun _ => 0) 672) 70)).alloc (.cells #[.bool false, .bool false, .bool false, .bool false, .bool false, .bool false, .bool false, .bool false] 71) = w4 at *
  refine wp_block ?_
  refine fld_init _ I0 _ _ _ _ _ _ _ _ _ _ _ _ _ _ _ _ _ _ _ _ _ _ _ _ _ _ _ _ _ _ _ _ _ _ _ _ _ _ _ _ _ _ _ _ _ _ _ _ _ _ _ _ _ _ _ _ _ _ _ _ _ _ _ _ _ _ _ _ _ _ _ _ _ _ _ _ _ _ _ _ _ _ _ _ _ _ _ _ _ _ _ _ _ _ _ _ _ _ _ _ _ _ _ _ _ _ _ _ _ _ _ _ _ _ _ _ _ _ _ _ _ _ _ _ _ _ _ _ _ _ _ _ _ _ _ _ _ _ _ _ _ _ _ _ _ _ _ _ _ _ _ _ _ _ _ _ _ _ _ _ _ _ _ _ _ _ _ _ _ _ _ _ _ _ _ _ _ _ _ _ _ _ _ _ _ _ _ _ _ ?_
  intro y10 y11 y12 y27 y28 y29 y30 y31 y32 y33 y34 y35 y36 y37 y38 y39 y40 y41 y42 y43 y44 w5 I5
  have G5 := hide ((unhide FZ) _ (unhide I5))
  clear I5 I0 FZ
  go_upto_block 6 with fail
  clear hcs
  go_wp2_with fail
  go_loopw [6, 13] (fun s6 s13 wr => s6 = .bool true ∧ ∃ (i : Nat) (ow om : Nat → Nat) (now : Int) (fl : Nat → Option (Pla × List Sea)) (tl : Nat → Option (List FEnt)), s13 = .int .i64 i ∧ i ≤ n + 1 ∧ Hid (FldG w wr ow om kb lb nb gb i now fl tl (told tl) (begunT tl))) (fun _ i _ => n + 1 - (intOf i).toNat)
  case atStart => exact ⟨rfl, 0, _, _, _, _, _, rfl, by omega, G5⟩
  case round =>
    obtain ⟨rfl, i, ow1, om, now, fl, tl, rfl, hi, I1⟩ := hrel
    clear G5
    by_cases hin : i ≤ n
    · have hini : (i : Int) ≤ (n : Int) := by omega
      have hi0 : (0 : Int) ≤ i := by omega
      have hi1 : IntKind.i64.wrap ((i : Int) + 1) = ((i + 1 : Nat) : Int) := by rw [wrap_id _ (by omega) (by omega)]; rfl
      go_upto_region 18 with fail
      have FR := hide I1
      go_cut [57] from 54 to 57 (fun s wx => s = .bool (decide (i < n)) ∧ wx = wr)
      case first =>
        go_wp2
        go_meet
        exact ⟨by simp, rfl⟩
      case rest =>
      obtain ⟨rfl, rfl⟩ := hcut
      apply_assumption
      go_upto_if 57 with fail
      go_cut [] from 54 to 65 (fun wx => ∃ (ow' : Nat → Nat) (now' : Int) (fl' : Nat → Option (Pla × List Sea)), Hid (FldG w wx ow' om kb lb nb gb (i + 1) now' fl' tl (told tl) (begunT tl)))
      case first =>
        by_cases hlt : i < n
        · have hlti : (i : Int) < (n : Int) := by omega
          obtain ⟨b, off, S, rfl, hS, hr, hT⟩ := (unhide HS).mod (unhide I1).mod i hlt
          have HT := hide hT
          have HR := hide hr
          clear hT hr
          go_wp2_with (refine wpList_load_mid rfl 41 _ rfl b (off + i * 21) rfl S.toList _ (unhide HR) Try.underlying41 rfl (by rw [Array.length_toList, hS]; exact size47p) ?_)
          refine ((unhide HT) _).mono ?_
          rintro e w6 ⟨cc, rfl, m6⟩
          have HD := hide (((unhide I1).still m6).step (by omega) cc)
          clear m6 HT HR I1 FR
          go_wp2_with fail
          refine (unhide HD).mono ?_
          rintro e w7 ⟨rfl, ow', h7⟩
          have H7 := hide h7
          clear h7
          go_wp2
          go_meet
          exact ⟨_, _, _, H7⟩
        · have hlti : ¬ (i : Int) < (n : Int) := by omega
          have H7 := hide (FldG.more (unhide I1))
          clear I1 FR
          go_wp2
          go_meet
          exact ⟨_, _, _, H7⟩
      case rest =>
        obtain ⟨ow', now', fl', I7⟩ := hcut
        apply_assumption
        clear I1 FR
        go_upto_region 21 with fail
        go_cut [69] from 66 to 69 (fun s wx => s = .bool (decide (i < n2)) ∧ wx = wc)
        case first =>
          go_wp2
          go_meet
          exact ⟨by simp, rfl⟩
        case rest =>
        obtain ⟨rfl, rfl⟩ := hcut
        apply_assumption
        go_upto_if 69 with fail
        go_cut [14] from 66 to 73 (fun s wx => (∃ ask : Int, s = .int .i64 ask ∧ -9223372036854775808 ≤ ask ∧ ask ≤ 9223372036854775807) ∧ wx = wc)
        case first =>
          by_cases hlt : i < n2
          · have hlti : (i : Int) < (n2 : Int) := by omega
            obtain ⟨b, off, x, rfl, hc, x0, x1, hb⟩ := (unhide HQ).mod (unhide I7).mod i hlt
            go_wp2
            go_meet
            exact ⟨⟨x, rfl, x0, x1⟩, rfl⟩
          · have hlti : ¬ (i : Int) < (n2 : Int) := by omega
            go_wp2
            go_meet
            exact ⟨⟨0, rfl, by omega, by omega⟩, rfl⟩
        case rest =>
        obtain ⟨⟨ask, rfl, k0, k1⟩, rfl⟩ := hcut
        apply_assumption
        have hp := pickN_range ask 8 (by omega)
        have HPK := hide fun W => pick_any ask 8 ⟨k0, k1⟩ (by omega) W
        obtain ⟨u, hu⟩ : ∃ u : Nat, pickN ask 8 = (u : Int) := ⟨(pickN ask 8).toNat, by omega⟩
        rw [hu] at HPK hp
        have hu8 : u < 8 := by omega
        have u0 : (0 : Int) ≤ u := by omega
        have u8i : (u : Int) < 8 := by omega
        clear hu hp
        go_wp2_with fail
        refine ((unhide HPK) _).mono ?_
        rintro e w8 ⟨rfl, rfl⟩
        clear HPK
        go_upto_region 24 with fail
        go_cut [84] from 76 to 84 (fun s wx => s = .bool (decide (i < n ∧ Int.tmod ask 3 = 0)) ∧ wx = w8)
        case first =>
          by_cases h1 : i < n
          · have h1i : (i : Int) < (n : Int) := by omega
            by_cases h2 : Int.tmod ask 3 = 0
            · have h2b : (Int.tmod ask 3 == 0) = true := by simp [h2]
              go_wp2
              go_meet
              exact ⟨by simp [h1, h2], rfl⟩
            · have h2b : (Int.tmod ask 3 == 0) = false := by simp [h2]
              go_wp2
              go_meet
              exact ⟨by simp [h1, h2], rfl⟩
          · have h1i : ¬ (i : Int) < (n : Int) := by omega
            go_wp2
            go_meet
            exact ⟨by simp [h1], rfl⟩
        case rest =>
        obtain ⟨rfl, rfl⟩ := hcut
        apply_assumption
        generalize decide (i < n ∧ Int.tmod ask 3 = 0) = skip
        cases skip with
        | true =>
          go_wp2
          exact ⟨⟨rfl, i + 1, _, _, _, _, _, rfl, by omega, I7⟩, by simp [intOf]; omega⟩
        | false =>
          go_upto_block 8 with fail
          refine wp_block ?_
          refine fld_asks u hu8 ⟨k0, k1⟩ _ I7 _ _ _ _ _ _ _ _ _ _ _ _ _ _ _ _ _ _ _ _ _ _ _ _ _ _ _ _ _ _ _ _ _ _ _ _ _ _ _ _ _ _ _ _ _ _ _ _ _ _ _ _ _ _ _ _ _ _ _ _ _ _ _ _ _ _ _ _ _ _ _ _ _ _ _ _ _ _ _ _ _ _ _ _ _ _ _ _ _ _ _ _ _ _ _ _ _ _ _ _ _ _ _ _ _ _ _ _ _ _ _ _ _ _ _ _ _ _ _ _ _ _ _ _ _ _ _ _ _ _ _ _ _ _ _ _ _ _ _ _ _ _ _ _ _ _ _ _ _ _ _ _ _ _ _ _ _ _ _ _ _ _ _ _ _ _ _ _ _ _ _ _ _ _ _ _ _ _ _ _ _ _ _ _ ?_
          intro x16 x17 x18 x19 x20 x85 x86 x87 x88 x89 x90 x91 x92 x93 x94 x95 x96 x97 x98 x99 x100 x101 x102 x103 x104 x105 x106 x107 x108 x109 x110 x111 x112 x113 x114 x115 x116 x117 x118 x119 x120 x121 x122 x123 x124 x125 x126 x127 x128 x129 x130 x131 x132 x133 x134 x135 x136 x137 x138 x139 x140 x141 x142 x143 x144 x145 x146 x147 x148 x149 x150 x151 x152 x153 x154 x155 x156 x157 x158 x159 x160 x161 x162 x163 x164 x165 x166 x167 x168 x169 x170 x171 x172 x173 x174 x175 x176 x177 x178 x179 x180 w9 om9 tl9 H9
          have G9 := hide (unhide H9).1
          have HKN := hide (unhide H9).2
          have hk9 := (unhide G9).keep.toH
          have HLF := hide fun (x : Wd w9) => leftT_walk (hk9.mod x.h (fun _ _ x => x))
          have hlv : ∀ x : Wd w9, (loadVar 69 ⟨nb, u * 84, none⟩).run Try.prog x.W = .ok (.agg (tab (leftT fl') 84)) x.W := fun x => by
            have h := run_loadVar_mid (P := Try.prog) x.W nb (u * 84) 69 (tab (leftT fl') 84).toList _ (((unhide G9).still x.h).part u hu8 (unhide HKN)) Try.underlying69 rfl (by rw [Array.length_toList, tab_size]; exact size84)
            rw [show (tab (leftT fl') 84).toList.toArray = tab (leftT fl') 84 from by simp] at h
            exact h
          have HLV := hide hlv
          clear H9 hk9 hlv
          go_upto_region 39 with fail
          haveI := wd_ne w9
          refine wp_region_wd (w0 := w9) (by kernel_rfl) (by kernel_rfl) (Mod.refl _ _) ?_
          iterate 4 (go_big_quiet_step (fail))
          go_big_quiet_want
          refine quiet_load 69 (.tmp 184) rfl nb (u * 84) (by simp [Act.eval]) (.agg (tab (leftT fl') 84)) (by rintro W ⟨x, rfl⟩; exact (unhide HLV) x) ?_
          simp [Act.put]
          go_big_quiet_on
          repeat (go_big_quiet_step ((go_at_call 29; exact Calls.wd _ ((unhide HLF) _))))
          refine wpQuiet_nil ?_
          rintro w10 ⟨⟨_, hm10⟩, rfl⟩
          have I10 := hide ((unhide G9).still hm10)
          clear hm10
          go_wp2
          exact ⟨⟨rfl, i + 1, _, _, _, _, _, rfl, by omega, I10⟩, by simp [intOf]; omega⟩
    · have hini : ¬ (i : Int) ≤ (n : Int) := by omega
      have MF := hide (unhide I1).mod
      clear I1
      go_wp2
      go_ret
      exact ⟨rfl, unhide MF⟩
end Go.Proofs.Ythhibagcpjeihaa
