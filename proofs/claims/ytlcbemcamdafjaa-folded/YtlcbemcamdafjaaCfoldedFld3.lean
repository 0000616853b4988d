import Derived.Test.YtlcbemcamdafjaaCfoldedFld2Fld25
import Derived.Deep.DeepCutAuto
import Derived.Handy
/- Who folds all bulletins: the news of one bulletin are laid over what was known: the walk. -/
namespace Go.Proofs.Ytlcbemcamdafjaa
open Go.RowKit
open M
set_option linter.unusedVariables false
set_option linter.unusedSimpArgs false
set_option maxRecDepth 100000
set_option maxHeartbeats 20000000

def loopsIn : Code → List Code
  | .loop c => .loop c :: loopsIn c
  | .seq a b => loopsIn a ++ loopsIn b
  | .block _ c => loopsIn c
  | .scope c => loopsIn c
  | .cond _ a b => loopsIn a ++ loopsIn b
  | _ => []
noncomputable def fldLoop (n : Nat) : Code := ((loopsIn (Try.f7.body.getD .skip))[n]?).getD .skip

/-- What stands while news are read. -/
structure FldN (w wr : World) (ow om : Nat → Nat) (kb lb nb gb bb i : Nat) (now : Int) (fl : Nat → Option (Pla × List Sea)) (tl : Nat → Option (List FEnt)) (kt : Nat → List FEnt) (bt : Nat → Bool) (fresh : Bool) (vv : Value) (news : List Nw) (more : Bool) : Prop where
  g : FldG w wr ow om kb lb nb gb i now fl tl kt bt
  bul : Has wr bb #[.bool fresh, vv, .bool more] 74
  row : wr.ownsRow 0 78 3 vv news.length (news.flatMap nwL)
  own : ∀ k, vv.ownBlock = some k → k ≠ nb ∧ k ≠ gb
  ne : bb ≠ nb ∧ bb ≠ gb

theorem FldN.still {w wr w2 : World} {ow om : Nat → Nat} {kb lb nb gb bb i : Nat} {now : Int} {fl : Nat → Option (Pla × List Sea)} {tl : Nat → Option (List FEnt)} {kt : Nat → List FEnt} {bt : Nat → Bool} {fresh : Bool} {vv : Value} {news : List Nw} {more : Bool} (h : FldN w wr ow om kb lb nb gb bb i now fl tl kt bt fresh vv news more) (hm : Mod No wr w2) : FldN w w2 ow om kb lb nb gb bb i now fl tl kt bt fresh vv news more :=
  ⟨h.g.still hm, hm.has h.bul (fun x => x), hm.owns h.row (fun _ _ x => x), h.own, h.ne⟩

theorem FldN.learn {w wr : World} {ow om : Nat → Nat} {kb lb nb gb bb i clock : Nat} {now most : Int} {es0 : List FEnt} {T : Tel} {fl : Nat → Option (Pla × List Sea)} {tl : Nat → Option (List FEnt)} {kt : Nat → List FEnt} {bt : Nat → Bool} {fresh : Bool} {vv : Value} (u j n c : Nat) (hT : TelF most es0 clock fl T)
    (h : FldN w wr ow om kb lb nb gb bb i now fl tl (ktj u es0 clock T.news kt j) bt fresh vv T.news T.more) (hu : u < 8) (hj : j < T.news.length) (hn : T.news[j].n = n) (hc : T.news[j].c = c) :
    FldN w (wr.setCell ⟨nb, u * 84 + n * 4 + c, none⟩ (.int .i64 T.news[j].l)) ow om kb lb nb gb bb i now fl tl (ktj u es0 clock T.news kt (j + 1)) bt fresh vv T.news T.more :=
  ⟨(FldG.learn u j n c hT h.g hu hj hn hc).1, h.bul.set_ne (by simpa using h.ne.1) _, owns_setCell_ne h.row (by intro e; exact (h.own _ e).1 rfl) _, h.own, h.ne⟩

theorem FldN.at {w wr : World} {ow om : Nat → Nat} {kb lb nb gb bb i clock : Nat} {now most : Int} {es0 : List FEnt} {T : Tel} {fl : Nat → Option (Pla × List Sea)} {tl : Nat → Option (List FEnt)} {kt : Nat → List FEnt} {bt : Nat → Bool} {fresh : Bool} {vv : Value} (u j : Nat) (hT : TelF most es0 clock fl T)
    (h : FldN w wr ow om kb lb nb gb bb i now fl tl (ktj u es0 clock T.news kt j) bt fresh vv T.news T.more) (hu : u < 8) (hj : j < T.news.length) :
    ∃ (n c g cap : Nat) (l v : Int), T.news[j].n = n ∧ T.news[j].c = c ∧ T.news[j].l = l ∧ 1 ≤ n ∧ n ≤ 20 ∧ c < 4 ∧ v ≠ l ∧ vv = .slice (some ⟨g, 0, none⟩) T.news.length cap ∧
      wr.cell? ⟨g, j * 3, none⟩ = some (.int .i64 n) ∧ wr.cell? ⟨g, j * 3 + 1, none⟩ = some (.int .i64 c) ∧ wr.cell? ⟨g, j * 3 + 2, none⟩ = some (.int .i64 l) ∧ wr.cell? ⟨nb, u * 84 + n * 4 + c, none⟩ = some (.int .i64 v) := by
  have hk := hT.key T.news[j] (List.getElem_mem hj)
  obtain ⟨n, hn⟩ : ∃ n : Nat, T.news[j].n = (n : Int) := ⟨T.news[j].n.toNat, by omega⟩
  obtain ⟨c, hc⟩ : ∃ c : Nat, T.news[j].c = (c : Int) := ⟨T.news[j].c.toNat, by omega⟩
  rw [hn, hc] at hk
  obtain ⟨_, hne, h2, h3, h4⟩ := FldG.learn u j n c hT h.g hu hj hn hc
  obtain ⟨a, cap, rfl⟩ := slice_of_owns h.row
  obtain ⟨g, rfl, q1, q2, q3⟩ := news_cells h.row j hj
  rw [hn] at q1
  rw [hc] at q2
  exact ⟨n, c, g, cap, _, _, hn, hc, rfl, h4, by omega, h3, hne, rfl, q1, q2, q3, h.g.cell u hu n c h2 h3⟩

theorem FldN.len {w wr : World} {ow om : Nat → Nat} {kb lb nb gb bb i : Nat} {now : Int} {fl : Nat → Option (Pla × List Sea)} {tl : Nat → Option (List FEnt)} {kt : Nat → List FEnt} {bt : Nat → Bool} {fresh : Bool} {vv : Value} {news : List Nw} {more : Bool} (h : FldN w wr ow om kb lb nb gb bb i now fl tl kt bt fresh vv news more) : ∃ a cap, vv = .slice a news.length cap := slice_of_owns h.row

theorem news_box {w : World} {b : Nat} {x y z : Value} {T : TypeId} (h : Has w b #[x, y, z] T) : w.cell? ⟨b, 0, none⟩ = some x ∧ w.cell? ⟨b, 1, none⟩ = some y ∧ w.cell? ⟨b, 2, none⟩ = some z := ⟨h.cell 0, h.cell 1, h.cell 2⟩

theorem fld_news {w w0 : World} {ow om : Nat → Nat} {kb lb nb gb bb i clock : Nat} {now most : Int} {es0 : List FEnt} {T : Tel} {fl : Nat → Option (Pla × List Sea)} {tl : Nat → Option (List FEnt)} {kt : Nat → List FEnt} {bt : Nat → Bool} {fresh : Bool} {vv : Value} (u : Nat) (hu : u < 8) (hmost : most ≤ 50) (hT : Hid (TelF most es0 clock fl T)) (Q0 : Exit → Act → World → Prop)
    (hI : Hid (FldN w w0 ow om kb lb nb gb bb i now fl tl (ktj u es0 clock T.news kt 0) bt fresh vv T.news T.more)) (sl0 sl1 sl2 sl3 sl4 sl5 sl7 sl9 sl10 sl11 sl12 sl13 sl14 sl16 sl18 sl20 sl21 sl22 sl23 sl24 sl25 sl26 sl27 sl28 sl29 sl30 sl31 sl32 sl33 sl34 sl35 sl36 sl37 sl38 sl39 sl40 sl41 sl42 sl43 sl44 sl45 sl46 sl47 sl48 sl49 sl50 sl51 sl52 sl53 sl54 sl55 sl56 sl57 sl58 sl59 sl60 sl61 sl62 sl63 sl64 sl65 sl66 sl67 sl68 sl69 sl70 sl71 sl72 sl73 sl74 sl75 sl76 sl77 sl78 sl79 sl80 sl81 sl82 sl83 sl84 sl85 sl86 sl87 sl88 sl89 sl90 sl91 sl92 sl93 sl94 sl95 sl96 sl97 sl98 sl99 sl100 sl101 sl102 sl103 sl104 sl105 sl106 sl107 sl108 sl109 sl110 sl111 sl112 sl113 sl114 sl115 sl116 sl117 sl118 sl119 sl120 sl121 sl122 sl123 sl124 sl125 sl126 sl127 sl128 sl129 sl130 sl131 sl132 sl133 sl134 sl135 sl136 sl137 sl138 sl139 sl140 sl141 sl142 sl143 sl144 sl145 sl146 sl147 sl148 sl149 sl150 sl151 sl152 sl153 sl154 sl155 sl156 sl157 sl158 sl159 sl160 sl161 sl162 sl163 sl164 sl165 sl166 sl167 sl168 sl169 sl170 sl171 sl172 sl173 sl174 sl175 sl176 sl177 sl178 sl179 sl180 sl181 sl182 sl183 sl184 sl185 sl186 sl187 sl188 sl189 sl190 : Value)
    (hexit : ∀ (x19 x20 x123 x124 x125 x126 x127 x128 x129 x130 x131 x132 x133 x134 x135 x136 x137 x138 x139 x140 x141 x142 x143 x144 x145 x146 x147 x148 x149 x150 x151 x152 x153 x154 x155 x156 x157 x158 x159 x160 x161 x162 x163 x164 x165 x166 x167 x168 x169 x170 x171 x172 x173 x174 x175 x176 x177 x178 : Value) (wx : World), Hid (FldN w wx ow om kb lb nb gb bb i now fl tl (ktj u es0 clock T.news kt T.news.length) bt fresh vv T.news T.more) → Q0 (.exit 10) ⟨#[sl0, sl1, sl2, sl3, sl4, sl5, .bool true, sl7, .pointer (some ⟨nb, 0, none⟩), sl9, sl10, sl11, sl12, sl13, sl14, .int .i64 (u : Nat), sl16, .pointer (some ⟨bb, 0, none⟩), sl18, x19, x20, sl21, sl22, sl23, sl24, sl25, sl26, sl27, sl28, sl29, sl30, sl31, sl32, sl33, sl34, sl35, sl36, sl37, sl38, sl39, sl40, sl41, sl42, sl43, sl44, sl45, sl46, sl47, sl48, sl49, sl50, sl51, sl52, sl53, sl54, sl55, sl56, sl57, sl58, sl59, sl60, sl61, sl62, sl63, sl64, sl65, sl66, sl67, sl68, sl69, sl70, sl71, sl72, sl73, sl74, sl75, sl76, sl77, sl78, sl79, sl80, sl81, sl82, sl83, sl84, sl85, sl86, sl87, sl88, sl89, sl90, sl91, sl92, sl93, sl94, sl95, sl96, sl97, sl98, sl99, sl100, sl101, sl102, sl103, sl104, sl105, sl106, sl107, sl108, sl109, sl110, sl111, sl112, sl113, sl114, sl115, sl116, sl117, sl118, sl119, sl120, sl121, sl122, x123, x124, x125, x126, x127, x128, x129, x130, x131, x132, x133, x134, x135, x136, x137, x138, x139, x140, x141, x142, x143, x144, x145, x146, x147, x148, x149, x150, x151, x152, x153, x154, x155, x156, x157, x158, x159, x160, x161, x162, x163, x164, x165, x166, x167, x168, x169, x170, x171, x172, x173, x174, x175, x176, x177, x178, sl179, sl180, sl181, sl182, sl183, sl184, sl185, sl186, sl187, sl188, sl189, sl190], []⟩ wx) :
    Code.wp Try.prog (fldLoop 5) Q0 ⟨#[sl0, sl1, sl2, sl3, sl4, sl5, .bool true, sl7, .pointer (some ⟨nb, 0, none⟩), sl9, sl10, sl11, sl12, sl13, sl14, .int .i64 (u : Nat), sl16, .pointer (some ⟨bb, 0, none⟩), sl18, .int .i64 0, sl20, sl21, sl22, sl23, sl24, sl25, sl26, sl27, sl28, sl29, sl30, sl31, sl32, sl33, sl34, sl35, sl36, sl37, sl38, sl39, sl40, sl41, sl42, sl43, sl44, sl45, sl46, sl47, sl48, sl49, sl50, sl51, sl52, sl53, sl54, sl55, sl56, sl57, sl58, sl59, sl60, sl61, sl62, sl63, sl64, sl65, sl66, sl67, sl68, sl69, sl70, sl71, sl72, sl73, sl74, sl75, sl76, sl77, sl78, sl79, sl80, sl81, sl82, sl83, sl84, sl85, sl86, sl87, sl88, sl89, sl90, sl91, sl92, sl93, sl94, sl95, sl96, sl97, sl98, sl99, sl100, sl101, sl102, sl103, sl104, sl105, sl106, sl107, sl108, sl109, sl110, sl111, sl112, sl113, sl114, sl115, sl116, sl117, sl118, sl119, sl120, sl121, sl122, sl123, sl124, sl125, sl126, sl127, sl128, sl129, sl130, sl131, sl132, sl133, sl134, sl135, sl136, sl137, sl138, sl139, sl140, sl141, sl142, sl143, sl144, sl145, sl146, sl147, sl148, sl149, sl150, sl151, sl152, sl153, sl154, sl155, sl156, sl157, sl158, sl159, sl160, sl161, sl162, sl163, sl164, sl165, sl166, sl167, sl168, sl169, sl170, sl171, sl172, sl173, sl174, sl175, sl176, sl177, sl178, sl179, sl180, sl181, sl182, sl183, sl184, sl185, sl186, sl187, sl188, sl189, sl190], []⟩ w0 := by
  conv => arg 4; dsimp only
  conv => arg 2; whnf
  have hlen : (T.news.length : Int) ≤ 50 := by have := (unhide hT).len; omega
  have hu8 : (u : Int) < 8 := by omega
  have hu0 : (0 : Int) ≤ u := by omega
  go_loopw [6, 19] (fun s6 s19 wr => s6 = .bool true ∧ ∃ j : Nat, s19 = .int .i64 j ∧ j ≤ T.news.length ∧ Hid (FldN w wr ow om kb lb nb gb bb i now fl tl (ktj u es0 clock T.news kt j) bt fresh vv T.news T.more)) (fun _ s _ => T.news.length - (intOf s).toNat)
  case atStart => exact ⟨rfl, 0, rfl, by omega, hI⟩
  case round =>
    obtain ⟨rfl, j, rfl, hj, I2⟩ := hrel
    clear hI
    have b2 := (unhide I2).bul.cell
    have lb2 := (unhide I2).bul.lt
    obtain ⟨a, cap, hvv⟩ := (unhide I2).len
    by_cases hjl : j < T.news.length
    · have hji : (j : Int) < (T.news.length : Int) := by omega
      have hj0 : (0 : Int) ≤ j := by omega
      have hj1 : IntKind.i64.wrap ((j : Int) + 1) = ((j + 1 : Nat) : Int) := by rw [wrap_id _ (by omega) (by omega)]; rfl
      obtain ⟨n, c, g, cap', l, v, q1, q2, q3, q4, q5, q6, q7, q8, q9, q10, q11, q12⟩ := (unhide I2).at u j (unhide hT) hu hjl
      rw [q8] at b2
      have HL := hide fun W (hW : Mod No wr W) => q3 ▸ ((unhide I2).still hW).learn u j n c (unhide hT) hu hjl q1 q2
      have FZ := hide fun W (hW : Mod No wr W) => ((unhide I2).still hW).g.froz
      have n1 : (n : Int) ≥ 1 := by omega
      have n2 : (n : Int) ≤ 20 := by omega
      have n3 : (n : Int) < 21 := by omega
      have n4 : (0 : Int) ≤ n := by omega
      have c1 : (c : Int) ≥ 0 := by omega
      have c2 : (c : Int) < 4 := by omega
      have c3 : (0 : Int) ≤ c := by omega
      have v1 : (v != l) = true := by simpa using q7
      have Q12 := hide q12
      clear q1 q2 q3 q4 q5 q6 q7 q8 hvv q12
      generalize hN : T.news.length = N at *
      go_wp2_with fail
      have MA : Mod No wr (wr.alloc (.cells #[.int .i64 n, .int .i64 c, .int .i64 l] 78)) := (Mod.refl _ wr).alloc _
      have BB := hide (Has.new wr #[.int .i64 n, .int .i64 c, .int .i64 l] 78)
      have q13 := mod_cell MA (unhide Q12)
      have MB := hide MA
      generalize wr.heap.size = xb at *
      generalize wr.alloc (.cells #[.int .i64 n, .int .i64 c, .int .i64 l] 78) = w1 at *
      have bb0 : w1.cell? ⟨xb, 0, none⟩ = some (.int .i64 n) := (unhide BB).cell 0
      have bb1 : w1.cell? ⟨xb, 1, none⟩ = some (.int .i64 c) := (unhide BB).cell 1
      have bb2 : w1.cell? ⟨xb, 2, none⟩ = some (.int .i64 l) := (unhide BB).cell 2
      have hcut0 := FZ
      obtain ⟨fz1, fz2, ln1, ln2⟩ := (unhide FZ) w1 MA
      clear q9 q10 q11 b2 lb2 MA
      go_cut [6] from 123 to 178 (fun s wx => s = .bool true ∧ Hid (Mod No wr wx) ∧ Hid (Has wx xb #[.int .i64 n, .int .i64 c, .int .i64 l] 78))
      case first =>
        go_quiet (fail)
        go_wp2
        go_meet
        exact ⟨rfl, (unhide MB).drewN _, (unhide BB).drewN _⟩
      case rest =>
        obtain ⟨rfl, M2, B2⟩ := hcut
        clear bb0 bb1 bb2
        obtain ⟨bb0, bb1, bb2⟩ := news_box (unhide B2)
        obtain ⟨fz1, fz2, ln1, ln2⟩ := (unhide FZ) _ (unhide M2)
        apply_assumption
        have RES := hide ((unhide HL) _ (unhide M2))
        have q14 := mod_cell (unhide M2) (unhide Q12)
        clear hcut0 q13 MB BB HL FZ M2 B2 I2 Q12
        go_region
        all_goals go_wp2
        all_goals exact ⟨⟨rfl, j + 1, rfl, by omega, (unhide RES).still (by repeat' (first | with_reducible exact Mod.refl _ _ | refine Mod.drewN ?_ _ | refine Mod.drew ?_))⟩, by simp [intOf]; omega⟩
    · have hji : ¬ (j : Int) < (T.news.length : Int) := by omega
      obtain rfl : j = T.news.length := by omega
      rw [hvv] at b2
      clear hvv
      go_wp2
end Go.Proofs.Ytlcbemcamdafjaa
