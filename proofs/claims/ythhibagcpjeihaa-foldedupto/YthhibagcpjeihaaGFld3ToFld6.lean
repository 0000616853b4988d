import Derived.Test.YthhibagcpjeihaaGFol8ToFld25
import Derived.Deep.DeepCutAuto
import Derived.Handy
import Derived.Deep.LoopGhost
import Derived.Deep.CutBlock
import Derived.Test.YthhibagcpjeihaaGModelToMaps
import Derived.Test.YthhibagcpjeihaaGTame3ToScript
import Derived.ChangeSlices
import Derived.SizedLaws
import Derived.OpenShut
/- Who folds all bulletins: the news of one bulletin are laid over what was known: the walk. -/
namespace Go.Proofs.Ythhibagcpjeihaa
open Go.RowKit
open M
set_option linter.unusedVariables false
set_option linter.unusedSimpArgs false
set_option maxRecDepth 100000
set_option maxHeartbeats 20000000

def loopsIn : Code → List Code
  | .loop c => .loop c :: loopsIn c
  | .seq a b => loopsIn a ++ loopsIn b
  | .block _ c => loopsIn c
  | .scope c => loopsIn c
  | .cond _ a b => loopsIn a ++ loopsIn b
  | _ => []
noncomputable def fldLoop (n : Nat) : Code := ((loopsIn (Try.f7.body.getD .skip))[n]?).getD .skip

/-- What stands while news are read. -/
structure FldN (w wr : World) (ow om : Nat → Nat) (kb lb nb gb bb i : Nat) (now : Int) (fl : Nat → Option (Pla × List Sea)) (tl : Nat → Option (List FEnt)) (kt : Nat → List FEnt) (bt : Nat → Bool) (fresh : Bool) (vv : Value) (news : List Nw) (more : Bool) : Prop where
  g : FldG w wr ow om kb lb nb gb i now fl tl kt bt
  bul : Has wr bb #[.bool fresh, vv, .bool more] 74
  row : wr.ownsRow 0 78 3 vv news.length (news.flatMap nwL)
  own : ∀ k, vv.ownBlock = some k → k ≠ nb ∧ k ≠ gb
  ne : bb ≠ nb ∧ bb ≠ gb

theorem FldN.still {w wr w2 : World} {ow om : Nat → Nat} {kb lb nb gb bb i : Nat} {now : Int} {fl : Nat → Option (Pla × List Sea)} {tl : Nat → Option (List FEnt)} {kt : Nat → List FEnt} {bt : Nat → Bool} {fresh : Bool} {vv : Value} {news : List Nw} {more : Bool} (h : FldN w wr ow om kb lb nb gb bb i now fl tl kt bt fresh vv news more) (hm : Mod No wr w2) : FldN w w2 ow om kb lb nb gb bb i now fl tl kt bt fresh vv news more :=
  ⟨h.g.still hm, hm.has h.bul (fun x => x), hm.owns h.row (fun _ _ x => x), h.own, h.ne⟩

theorem FldN.learn {w wr : World} {ow om : Nat → Nat} {kb lb nb gb bb i clock : Nat} {now most : Int} {es0 : List FEnt} {T : Tel} {fl : Nat → Option (Pla × List Sea)} {tl : Nat → Option (List FEnt)} {kt : Nat → List FEnt} {bt : Nat → Bool} {fresh : Bool} {vv : Value} (u j n c : Nat) (hT : TelF most es0 clock fl T)
    (h : FldN w wr ow om kb lb nb gb bb i now fl tl (ktj u es0 clock T.news kt j) bt fresh vv T.news T.more) (hu : u < 8) (hj : j < T.news.length) (hn : T.news[j].n = n) (hc : T.news[j].c = c) :
    FldN w (wr.setCell ⟨nb, u * 84 + n * 4 + c, none⟩ (.int .i64 T.news[j].l)) ow om kb lb nb gb bb i now fl tl (ktj u es0 clock T.news kt (j + 1)) bt fresh vv T.news T.more :=
  ⟨(FldG.learn u j n c hT h.g hu hj hn hc).1, h.bul.set_ne (by simpa using h.ne.1) _, owns_setCell_ne h.row (by intro e; exact (h.own _ e).1 rfl) _, h.own, h.ne⟩

theorem FldN.at {w wr : World} {ow om : Nat → Nat} {kb lb nb gb bb i clock : Nat} {now most : Int} {es0 : List FEnt} {T : Tel} {fl : Nat → Option (Pla × List Sea)} {tl : Nat → Option (List FEnt)} {kt : Nat → List FEnt} {bt : Nat → Bool} {fresh : Bool} {vv : Value} (u j : Nat) (hT : TelF most es0 clock fl T)
    (h : FldN w wr ow om kb lb nb gb bb i now fl tl (ktj u es0 clock T.news kt j) bt fresh vv T.news T.more) (hu : u < 8) (hj : j < T.news.length) :
    ∃ (n c g cap : Nat) (l v : Int), T.news[j].n = n ∧ T.news[j].c = c ∧ T.news[j].l = l ∧ 1 ≤ n ∧ n ≤ 20 ∧ c < 4 ∧ v ≠ l ∧ vv = .slice (some ⟨g, 0, none⟩) T.news.length cap ∧
      wr.cell? ⟨g, j * 3, none⟩ = some (.int .i64 n) ∧ wr.cell? ⟨g, j * 3 + 1, none⟩ = some (.int .i64 c) ∧ wr.cell? ⟨g, j * 3 + 2, none⟩ = some (.int .i64 l) ∧ wr.cell? ⟨nb, u * 84 + n * 4 + c, none⟩ = some (.int .i64 v) := by
  have hk := hT.key T.news[j] (List.getElem_mem hj)
  obtain ⟨n, hn⟩ : ∃ n : Nat, T.news[j].n = (n : Int) := ⟨T.news[j].n.toNat, by omega⟩
  obtain ⟨c, hc⟩ : ∃ c : Nat, T.news[j].c = (c : Int) := ⟨T.news[j].c.toNat, by omega⟩
  rw [hn, hc] at hk
  obtain ⟨_, hne, h2, h3, h4⟩ := FldG.learn u j n c hT h.g hu hj hn hc
  obtain ⟨a, cap, rfl⟩ := slice_of_owns h.row
  obtain ⟨g, rfl, q1, q2, q3⟩ := news_cells h.row j hj
  rw [hn] at q1
  rw [hc] at q2
  exact ⟨n, c, g, cap, _, _, hn, hc, rfl, h4, by omega, h3, hne, rfl, q1, q2, q3, h.g.cell u hu n c h2 h3⟩

theorem FldN.len {w wr : World} {ow om : Nat → Nat} {kb lb nb gb bb i : Nat} {now : Int} {fl : Nat → Option (Pla × List Sea)} {tl : Nat → Option (List FEnt)} {kt : Nat → List FEnt} {bt : Nat → Bool} {fresh : Bool} {vv : Value} {news : List Nw} {more : Bool} (h : FldN w wr ow om kb lb nb gb bb i now fl tl kt bt fresh vv news more) : ∃ a cap, vv = .slice a news.length cap := slice_of_owns h.row

theorem news_box {w : World} {b : Nat} {x y z : Value} {T : TypeId} (h : Has w b #[x, y, z] T) : w.cell? ⟨b, 0, none⟩ = some x ∧ w.cell? ⟨b, 1, none⟩ = some y ∧ w.cell? ⟨b, 2, none⟩ = some z := ⟨h.cell 0, h.cell 1, h.cell 2⟩

theorem fld_news {w w0 : World} {ow om : Nat → Nat} {kb lb nb gb bb i clock : Nat} {now most : Int} {es0 : List FEnt} {T : Tel} {fl : Nat → Option (Pla × List Sea)} {tl : Nat → Option (List FEnt)} {kt : Nat → List FEnt} {bt : Nat → Bool} {fresh : Bool} {vv : Value} (u : Nat) (hu : u < 8) (hmost : most ≤ 50) (hT : Hid (TelF most es0 clock fl T)) (Q0 : Exit → Act → World → Prop)
    (hI : Hid (FldN w w0 ow om kb lb nb gb bb i now fl tl (ktj u es0 clock T.news kt 0) bt fresh vv T.news T.more)) (sl0 sl1 sl2 sl3 sl4 sl5 sl7 sl9 sl10 sl11 sl12 sl13 sl14 sl16 sl18 sl20 sl21 sl22 sl23 sl24 sl25 sl26 sl27 sl28 sl29 sl30 sl31 sl32 sl33 sl34 sl35 sl36 sl37 sl38 sl39 sl40 sl41 sl42 sl43 sl44 sl45 sl46 sl47 sl48 sl49 sl50 sl51 sl52 sl53 sl54 sl55 sl56 sl57 sl58 sl59 sl60 sl61 sl62 sl63 sl64 sl65 sl66 sl67 sl68 sl69 sl70 sl71 sl72 sl73 sl74 sl75 sl76 sl77 sl78 sl79 sl80 sl81 sl82 sl83 sl84 sl85 sl86 sl87 sl88 sl89 sl90 sl91 sl92 sl93 sl94 sl95 sl96 sl97 sl98 sl99 sl100 sl101 sl102 sl103 sl104 sl105 sl106 sl107 sl108 sl109 sl110 sl111 sl112 sl113 sl114 sl115 sl116 sl117 sl118 sl119 sl120 sl121 sl122 sl123 sl124 sl125 sl126 sl127 sl128 sl129 sl130 sl131 sl132 sl133 sl134 sl135 sl136 sl137 sl138 sl139 sl140 sl141 sl142 sl143 sl144 sl145 sl146 sl147 sl148 sl149 sl150 sl151 sl152 sl153 sl154 sl155 sl156 sl157 sl158 sl159 sl160 sl161 sl162 sl163 sl164 sl165 sl166 sl167 sl168 sl169 sl170 sl171 sl172 sl173 sl174 sl175 sl176 sl177 sl178 sl179 sl180 sl181 sl182 sl183 sl184 sl185 sl186 sl187 sl188 sl189 sl190 : Value)
    (hexit : ∀ (x19 x20 x123 x124 x125 x126 x127 x128 x129 x130 x131 x132 x133 x134 x135 x136 x137 x138 x139 x140 x141 x142 x143 x144 x145 x146 x147 x148 x149 x150 x151 x152 x153 x154 x155 x156 x157 x158 x159 x160 x161 x162 x163 x164 x165 x166 x167 x168 x169 x170 x171 x172 x173 x174 x175 x176 x177 x178 : Value) (wx : World), Hid (FldN w wx ow om kb lb nb gb bb i now fl tl (ktj u es0 clock T.news kt T.news.length) bt fresh vv T.news T.more) → Q0 (.exit 10) ⟨#[sl0, sl1, sl2, sl3, sl4, sl5, .bool true, sl7, .pointer (some ⟨nb, 0, none⟩), sl9, sl10, sl11, sl12, sl13, sl14, .int .i64 (u : Nat), sl16, .pointer (some ⟨bb, 0, none⟩), sl18, x19, x20, sl21, sl22, sl23, sl24, sl25, sl26, sl27, sl28, sl29, sl30, sl31, sl32, sl33, sl34, sl35, sl36, sl37, sl38, sl39, sl40, sl41, sl42, sl43, sl44, sl45, sl46, sl47, sl48, sl49, sl50, sl51, sl52, sl53, sl54, sl55, sl56, sl57, sl58, sl59, sl60, sl61, sl62, sl63, sl64, sl65, sl66, sl67, sl68, sl69, sl70, sl71, sl72, sl73, sl74, sl75, sl76, sl77, sl78, sl79, sl80, sl81, sl82, sl83, sl84, sl85, sl86, sl87, sl88, sl89, sl90, sl91, sl92, sl93, sl94, sl95, sl96, sl97, sl98, sl99, sl100, sl101, sl102, sl103, sl104, sl105, sl106, sl107, sl108, sl109, sl110, sl111, sl112, sl113, sl114, sl115, sl116, sl117, sl118, sl119, sl120, sl121, sl122, x123, x124, x125, x126, x127, x128, x129, x130, x131, x132, x133, x134, x135, x136, x137, x138, x139, x140, x141, x142, x143, x144, x145, x146, x147, x148, x149, x150, x151, x152, x153, x154, x155, x156, x157, x158, x159, x160, x161, x162, x163, x164, x165, x166, x167, x168, x169, x170, x171, x172, x173, x174, x175, x176, x177, x178, sl179, sl180, sl181, sl182, sl183, sl184, sl185, sl186, sl187, sl188, sl189, sl190], []⟩ wx) :
    Code.wp Try.prog (fldLoop 5) Q0 ⟨#[sl0, sl1, sl2, sl3, sl4, sl5, .bool true, sl7, .pointer (some ⟨nb, 0, none⟩), sl9, sl10, sl11, sl12, sl13, sl14, .int .i64 (u : Nat), sl16, .pointer (some ⟨bb, 0, none⟩), sl18, .int .i64 0, sl20, sl21, sl22, sl23, sl24, sl25, sl26, sl27, sl28, sl29, sl30, sl31, sl32, sl33, sl34, sl35, sl36, sl37, sl38, sl39, sl40, sl41, sl42, sl43, sl44, sl45, sl46, sl47, sl48, sl49, sl50, sl51, sl52, sl53, sl54, sl55, sl56, sl57, sl58, sl59, sl60, sl61, sl62, sl63, sl64, sl65, sl66, sl67, sl68, sl69, sl70, sl71, sl72, sl73, sl74, sl75, sl76, sl77, sl78, sl79, sl80, sl81, sl82, sl83, sl84, sl85, sl86, sl87, sl88, sl89, sl90, sl91, sl92, sl93, sl94, sl95, sl96, sl97, sl98, sl99, sl100, sl101, sl102, sl103, sl104, sl105, sl106, sl107, sl108, sl109, sl110, sl111, sl112, sl113, sl114, sl115, sl116, sl117, sl118, sl119, sl120, sl121, sl122, sl123, sl124, sl125, sl126, sl127, sl128, sl129, sl130, sl131, sl132, sl133, sl134, sl135, sl136, sl137, sl138, sl139, sl140, sl141, sl142, sl143, sl144, sl145, sl146, sl147, sl148, sl149, sl150, sl151, sl152, sl153, sl154, sl155, sl156, sl157, sl158, sl159, sl160, sl161, sl162, sl163, sl164, sl165, sl166, sl167, sl168, sl169, sl170, sl171, sl172, sl173, sl174, sl175, sl176, sl177, sl178, sl179, sl180, sl181, sl182, sl183, sl184, sl185, sl186, sl187, sl188, sl189, sl190], []⟩ w0 := by
  conv => arg 4; dsimp only
  conv => arg 2; whnf
  have hlen : (T.news.length : Int) ≤ 50 := by have := (unhide hT).len; omega
  have hu8 : (u : Int) < 8 := by omega
  have hu0 : (0 : Int) ≤ u := by omega
  go_loopw [6, 19] (fun s6 s19 wr => s6 = .bool true ∧ ∃ j : Nat, s19 = .int .i64 j ∧ j ≤ T.news.length ∧ Hid (FldN w wr ow om kb lb nb gb bb i now fl tl (ktj u es0 clock T.news kt j) bt fresh vv T.news T.more)) (fun _ s _ => T.news.length - (intOf s).toNat)
  case atStart => exact ⟨rfl, 0, rfl, by omega, hI⟩
  case round =>
    obtain ⟨rfl, j, rfl, hj, I2⟩ := hrel
    clear hI
    have b2 := (unhide I2).bul.cell
    have lb2 := (unhide I2).bul.lt
    obtain ⟨a, cap, hvv⟩ := (unhide I2).len
    by_cases hjl : j < T.news.length
    · have hji : (j : Int) < (T.news.length : Int) := by omega
      have hj0 : (0 : Int) ≤ j := by omega
      have hj1 : IntKind.i64.wrap ((j : Int) + 1) = ((j + 1 : Nat) : Int) := by rw [wrap_id _ (by omega) (by omega)]; rfl
      obtain ⟨n, c, g, cap', l, v, q1, q2, q3, q4, q5, q6, q7, q8, q9, q10, q11, q12⟩ := (unhide I2).at u j (unhide hT) hu hjl
      rw [q8] at b2
      have HL := hide fun W (hW : Mod No wr W) => q3 ▸ ((unhide I2).still hW).learn u j n c (unhide hT) hu hjl q1 q2
      have FZ := hide fun W (hW : Mod No wr W) => ((unhide I2).still hW).g.froz
      have n1 : (n : Int) ≥ 1 := by omega
      have n2 : (n : Int) ≤ 20 := by omega
      have n3 : (n : Int) < 21 := by omega
      have n4 : (0 : Int) ≤ n := by omega
      have c1 : (c : Int) ≥ 0 := by omega
      have c2 : (c : Int) < 4 := by omega
      have c3 : (0 : Int) ≤ c := by omega
      have v1 : (v != l) = true := by simpa using q7
      have Q12 := hide q12
      clear q1 q2 q3 q4 q5 q6 q7 q8 hvv q12
      generalize hN : T.news.length = N at *
      go_wp2_with fail
      have MA : Mod No wr (wr.alloc (.cells #[.int .i64 n, .int .i64 c, .int .i64 l] 78)) := (Mod.refl _ wr).alloc _
      have BB := hide (Has.new wr #[.int .i64 n, .int .i64 c, .int .i64 l] 78)
      have q13 := mod_cell MA (unhide Q12)
      have MB := hide MA
      generalize wr.heap.size = xb at *
      generalize wr.alloc (.cells #[.int .i64 n, .int .i64 c, .int .i64 l] 78) = w1 at *
      have bb0 : w1.cell? ⟨xb, 0, none⟩ = some (.int .i64 n) := (unhide BB).cell 0
      have bb1 : w1.cell? ⟨xb, 1, none⟩ = some (.int .i64 c) := (unhide BB).cell 1
      have bb2 : w1.cell? ⟨xb, 2, none⟩ = some (.int .i64 l) := (unhide BB).cell 2
      have hcut0 := FZ
      obtain ⟨fz1, fz2, ln1, ln2⟩ := (unhide FZ) w1 MA
      clear q9 q10 q11 b2 lb2 MA
      go_cut [6] from 123 to 178 (fun s wx => s = .bool true ∧ Hid (Mod No wr wx) ∧ Hid (Has wx xb #[.int .i64 n, .int .i64 c, .int .i64 l] 78))
      case first =>
        go_quiet (fail)
        go_wp2
        go_meet
        exact ⟨rfl, (unhide MB).drewN _, (unhide BB).drewN _⟩
      case rest =>
        obtain ⟨rfl, M2, B2⟩ := hcut
        clear bb0 bb1 bb2
        obtain ⟨bb0, bb1, bb2⟩ := news_box (unhide B2)
        obtain ⟨fz1, fz2, ln1, ln2⟩ := (unhide FZ) _ (unhide M2)
        apply_assumption
        have RES := hide ((unhide HL) _ (unhide M2))
        have q14 := mod_cell (unhide M2) (unhide Q12)
        clear hcut0 q13 MB BB HL FZ M2 B2 I2 Q12
        go_region
        all_goals go_wp2
        all_goals exact ⟨⟨rfl, j + 1, rfl, by omega, (unhide RES).still (by repeat' (first | with_reducible exact Mod.refl _ _ | refine Mod.drewN ?_ _ | refine Mod.drew ?_))⟩, by simp [intOf]; omega⟩
    · have hji : ¬ (j : Int) < (T.news.length : Int) := by omega
      obtain rfl : j = T.news.length := by omega
      rw [hvv] at b2
      clear hvv
      go_wp2
end Go.Proofs.Ythhibagcpjeihaa
/- Who folds all bulletins: one follower asks until there are no more: the walk. -/
namespace Go.Proofs.Ythhibagcpjeihaa
open Go.RowKit
open M
set_option linter.unusedVariables false
set_option linter.unusedSimpArgs false
set_option maxRecDepth 100000
set_option maxHeartbeats 20000000

def told (tl : Nat → Option (List FEnt)) : Nat → List FEnt := fun v => (tl v).getD []
def begunT (tl : Nat → Option (List FEnt)) : Nat → Bool := fun v => (tl v).isSome

theorem tdiv8 (a : Int) (h : -9223372036854775808 ≤ a ∧ a ≤ 9223372036854775807) : -9223372036854775808 ≤ a.tdiv 8 ∧ a.tdiv 8 ≤ 9223372036854775807 := by
  have := Int.tdiv_eq_ediv (a := a) (b := 8)
  rw [this]
  split
  · omega
  · have : Int.sign 8 = 1 := rfl
    rw [this]
    omega

theorem FldN.made {w W wr : World} {ow om : Nat → Nat} {kb lb nb gb i n cap : Nat} {now : Int} {fl : Nat → Option (Pla × List Sea)} {tl : Nat → Option (List FEnt)} {kt : Nat → List FEnt} {bt : Nat → Bool} {a : Option Addr} {news : List Nw} (h : FldG w wr ow om kb lb nb gb i now fl tl kt bt) (hr : wr.ownsRow 0 78 3 (.slice a n cap) news.length (news.flatMap nwL)) (ho : ∀ k, (Value.slice a n cap).ownBlock = some k → W.heap.size ≤ k)
    (hl : lb < W.heap.size ∧ nb < W.heap.size ∧ gb < W.heap.size ∧ kb < W.heap.size ∧ ow kb = 1) (fresh more : Bool) : FldN w (wr.alloc (.cells #[.bool fresh, .slice a n cap, .bool more] 74)) ow om kb lb nb gb wr.heap.size i now fl tl kt bt fresh (.slice a n cap) news more := by
  have hm : Mod No wr (wr.alloc (.cells #[.bool fresh, .slice a n cap, .bool more] 74)) := (Mod.refl _ _).alloc _
  obtain ⟨l1, l2, l3, l4, l5⟩ := h.lts
  exact ⟨h.still hm, Has.new _ _ _, hm.owns hr (fun _ _ x => x), fun k hk => by have := ho k hk; omega, by omega⟩

theorem FldN.began {w wr : World} {ow om : Nat → Nat} {kb lb nb gb bb i : Nat} {now : Int} {fl : Nat → Option (Pla × List Sea)} {tl : Nat → Option (List FEnt)} {kt : Nat → List FEnt} {bt : Nat → Bool} {fresh : Bool} {vv : Value} {news : List Nw} {more : Bool} (h : FldN w wr ow om kb lb nb gb bb i now fl tl kt bt fresh vv news more) (u : Nat) (hu : u < 8) :
    FldN w (wr.setCell ⟨gb, u, none⟩ (.bool true)) ow om kb lb nb gb bb i now fl tl kt (fun v => if v = u then true else bt v) fresh vv news more :=
  ⟨h.g.began u hu, h.bul.set_ne (by simpa using h.ne.2) _, owns_setCell_ne h.row (by intro e; exact (h.own _ e).2 rfl) _, h.own, h.ne⟩

theorem fld_asks {w w0 : World} {ow om : Nat → Nat} {kb lb nb gb i : Nat} {now ask : Int} {fl : Nat → Option (Pla × List Sea)} {tl : Nat → Option (List FEnt)} (u : Nat) (hu : u < 8) (hask : -9223372036854775808 ≤ ask ∧ ask ≤ 9223372036854775807) (Q0 : Exit → Act → World → Prop)
    (hI : Hid (FldG w w0 ow om kb lb nb gb i now fl tl (told tl) (begunT tl))) (sl0 sl1 sl2 sl3 sl4 sl7 sl10 sl11 sl12 sl13 sl17 sl18 sl19 sl20 sl21 sl22 sl23 sl24 sl25 sl26 sl27 sl28 sl29 sl30 sl31 sl32 sl33 sl34 sl35 sl36 sl37 sl38 sl39 sl40 sl41 sl42 sl43 sl44 sl45 sl46 sl47 sl48 sl49 sl50 sl51 sl52 sl53 sl54 sl55 sl56 sl57 sl58 sl59 sl60 sl61 sl62 sl63 sl64 sl65 sl66 sl67 sl68 sl69 sl70 sl71 sl72 sl73 sl74 sl75 sl76 sl77 sl78 sl79 sl80 sl81 sl82 sl83 sl84 sl85 sl86 sl87 sl88 sl89 sl90 sl91 sl92 sl93 sl94 sl95 sl96 sl97 sl98 sl99 sl100 sl101 sl102 sl103 sl104 sl105 sl106 sl107 sl108 sl109 sl110 sl111 sl112 sl113 sl114 sl115 sl116 sl117 sl118 sl119 sl120 sl121 sl122 sl123 sl124 sl125 sl126 sl127 sl128 sl129 sl130 sl131 sl132 sl133 sl134 sl135 sl136 sl137 sl138 sl139 sl140 sl141 sl142 sl143 sl144 sl145 sl146 sl147 sl148 sl149 sl150 sl151 sl152 sl153 sl154 sl155 sl156 sl157 sl158 sl159 sl160 sl161 sl162 sl163 sl164 sl165 sl166 sl167 sl168 sl169 sl170 sl171 sl172 sl173 sl174 sl175 sl176 sl177 sl178 sl179 sl180 sl181 sl182 sl183 sl184 sl185 sl186 sl187 sl188 sl189 sl190 : Value)
    (hexit : ∀ (x16 x17 x18 x19 x20 x85 x86 x87 x88 x89 x90 x91 x92 x93 x94 x95 x96 x97 x98 x99 x100 x101 x102 x103 x104 x105 x106 x107 x108 x109 x110 x111 x112 x113 x114 x115 x116 x117 x118 x119 x120 x121 x122 x123 x124 x125 x126 x127 x128 x129 x130 x131 x132 x133 x134 x135 x136 x137 x138 x139 x140 x141 x142 x143 x144 x145 x146 x147 x148 x149 x150 x151 x152 x153 x154 x155 x156 x157 x158 x159 x160 x161 x162 x163 x164 x165 x166 x167 x168 x169 x170 x171 x172 x173 x174 x175 x176 x177 x178 x179 x180 : Value) (wx : World) (om' : Nat → Nat) (tl' : Nat → Option (List FEnt)), Hid (FldG w wx ow om' kb lb nb gb i now fl tl' (told tl') (begunT tl') ∧ ∀ j, j < 84 → tb (told tl' u) (j / 4 : Nat) (j % 4 : Nat) = leftT fl j) → Q0 (.exit 8) ⟨#[sl0, sl1, sl2, sl3, sl4, .pointer (some ⟨kb, 0, none⟩), .bool true, sl7, .pointer (some ⟨nb, 0, none⟩), .pointer (some ⟨gb, 0, none⟩), sl10, sl11, sl12, sl13, .int .i64 ask, .int .i64 (u : Nat), x16, x17, x18, x19, x20, sl21, sl22, sl23, sl24, sl25, sl26, sl27, sl28, sl29, sl30, sl31, sl32, sl33, sl34, sl35, sl36, sl37, sl38, sl39, sl40, sl41, sl42, sl43, sl44, sl45, sl46, sl47, sl48, sl49, sl50, sl51, sl52, sl53, sl54, sl55, sl56, sl57, sl58, sl59, sl60, sl61, sl62, sl63, sl64, sl65, sl66, sl67, sl68, sl69, sl70, sl71, sl72, sl73, sl74, sl75, sl76, sl77, sl78, sl79, sl80, sl81, sl82, sl83, sl84, x85, x86, x87, x88, x89, x90, x91, x92, x93, x94, x95, x96, x97, x98, x99, x100, x101, x102, x103, x104, x105, x106, x107, x108, x109, x110, x111, x112, x113, x114, x115, x116, x117, x118, x119, x120, x121, x122, x123, x124, x125, x126, x127, x128, x129, x130, x131, x132, x133, x134, x135, x136, x137, x138, x139, x140, x141, x142, x143, x144, x145, x146, x147, x148, x149, x150, x151, x152, x153, x154, x155, x156, x157, x158, x159, x160, x161, x162, x163, x164, x165, x166, x167, x168, x169, x170, x171, x172, x173, x174, x175, x176, x177, x178, x179, x180, sl181, sl182, sl183, sl184, sl185, sl186, sl187, sl188, sl189, sl190], []⟩ wx) :
    Code.wp Try.prog (fldLoop 4) Q0 ⟨#[sl0, sl1, sl2, sl3, sl4, .pointer (some ⟨kb, 0, none⟩), .bool true, sl7, .pointer (some ⟨nb, 0, none⟩), .pointer (some ⟨gb, 0, none⟩), sl10, sl11, sl12, sl13, .int .i64 ask, .int .i64 (u : Nat), .bool true, sl17, sl18, sl19, sl20, sl21, sl22, sl23, sl24, sl25, sl26, sl27, sl28, sl29, sl30, sl31, sl32, sl33, sl34, sl35, sl36, sl37, sl38, sl39, sl40, sl41, sl42, sl43, sl44, sl45, sl46, sl47, sl48, sl49, sl50, sl51, sl52, sl53, sl54, sl55, sl56, sl57, sl58, sl59, sl60, sl61, sl62, sl63, sl64, sl65, sl66, sl67, sl68, sl69, sl70, sl71, sl72, sl73, sl74, sl75, sl76, sl77, sl78, sl79, sl80, sl81, sl82, sl83, sl84, sl85, sl86, sl87, sl88, sl89, sl90, sl91, sl92, sl93, sl94, sl95, sl96, sl97, sl98, sl99, sl100, sl101, sl102, sl103, sl104, sl105, sl106, sl107, sl108, sl109, sl110, sl111, sl112, sl113, sl114, sl115, sl116, sl117, sl118, sl119, sl120, sl121, sl122, sl123, sl124, sl125, sl126, sl127, sl128, sl129, sl130, sl131, sl132, sl133, sl134, sl135, sl136, sl137, sl138, sl139, sl140, sl141, sl142, sl143, sl144, sl145, sl146, sl147, sl148, sl149, sl150, sl151, sl152, sl153, sl154, sl155, sl156, sl157, sl158, sl159, sl160, sl161, sl162, sl163, sl164, sl165, sl166, sl167, sl168, sl169, sl170, sl171, sl172, sl173, sl174, sl175, sl176, sl177, sl178, sl179, sl180, sl181, sl182, sl183, sl184, sl185, sl186, sl187, sl188, sl189, sl190], []⟩ w0 := by
  conv => arg 4; dsimp only
  conv => arg 2; whnf
  have hu8 : (u : Int) < 8 := by omega
  have hu0 : (0 : Int) ≤ u := by omega
  go_loopg [6, 16] (diffs (told tl u) (itemsK fl 21) + 1) (fun k s6 s16 wr => s6 = .bool true ∧ ∃ (more : Bool) (om' : Nat → Nat) (tl' : Nat → Option (List FEnt)), s16 = .bool more ∧ Hid (FldG w wr ow om' kb lb nb gb i now fl tl' (told tl') (begunT tl')) ∧ Hid (more = true → diffs (told tl' u) (itemsK fl 21) < k) ∧ Hid (more = false → ∀ j, j < 84 → tb (told tl' u) (j / 4 : Nat) (j % 4 : Nat) = leftT fl j))
  case atStart => exact ⟨rfl, true, om, tl, rfl, hI, fun _ => Nat.lt_succ_self _, fun h => by cases h⟩
  case round =>
    obtain ⟨rfl, more, om', tl', rfl, I2, DK, HE⟩ := hrel
    clear hI
    cases more with
    | false =>
      have HX := hide (show _ ∧ _ from ⟨unhide I2, (unhide HE) rfl⟩)
      clear DK HE
      go_wp2_with fail
      apply hexit
      exact HX
    | true =>
      have DK := hide ((unhide DK) rfl)
      clear HE
      have hp := pickN_range (Int.tdiv ask 8) 50 (by omega)
      have HPK := hide fun W => pick_any (Int.tdiv ask 8) 50 (tdiv8 ask hask) (by omega) W
      generalize hpk : pickN (Int.tdiv ask 8) 50 = pk at *
      have e1 : IntKind.i64.wrap (1 + pk) = 1 + pk := wrap_id _ (by omega) (by omega)
      have HFO := hide ((unhide I2).follow u hu (1 + pk) (by omega))
      go_wp2_with fail
      refine ((unhide HPK) _).mono ?_
      rintro e w1 ⟨rfl, rfl⟩
      go_wp2_with fail
      refine (unhide HFO).mono ?_
      rintro e w2 ⟨vv, clock, om2, rfl, hg, hrow, hown, hok⟩
      have hT := telF_of (most := 1 + pk) (fl := fl) clock (by omega) hok (unhide I2).zero (fun n hn hf c hc => (unhide I2).abs u hu n hn hf c hc)
      generalize hTT : tells (1 + pk) ⟨[], false, (tl' u).getD [], clock⟩ (itemsK fl 21) = T at *
      have HT := hide hT
      have HG := hide hg
      have HR := hide hrow
      have HWN := hide hown
      have HI2 := I2
      obtain ⟨a, cap, rfl⟩ := slice_of_owns hrow
      have hfr : (tl' u).isNone = !begunT tl' u := by unfold begunT; cases tl' u <;> rfl
      have HBEG := hide (((unhide HG).beg.cell u).trans (tabB_get _ u hu))
      generalize (tl' u).isNone = fr at *
      have hft : (fr == !begunT tl' u) = true := by rw [hfr]; simp
      generalize hbg : begunT tl' u = bg at *
      have HFR := hide hfr
      have HBG := hide hbg
      clear hfr hbg
      clear hT hg hrow hown hok hTT HFO
      unfold bullV
      go_wp2_with fail
      have IN := hide (FldN.made (w := w) (unhide HG) (unhide HR) (unhide HWN) (unhide HI2).lts fr T.more)
      clear HG HR HWN HBEG
      generalize w2.heap.size = bb at *
      generalize w2.alloc (.cells #[.bool fr, .slice a T.news.length cap, .bool T.more] 74) = w3 at *
      have b0 : w3.cell? ⟨bb, 0, none⟩ = some (.bool fr) := (unhide IN).bul.cell 0
      have b1 : w3.cell? ⟨bb, 1, none⟩ = some (.slice a T.news.length cap) := (unhide IN).bul.cell 1
      have b2 : w3.cell? ⟨bb, 2, none⟩ = some (.bool T.more) := (unhide IN).bul.cell 2
      have g0 : w3.cell? ⟨gb, u, none⟩ = some (.bool bg) := ((unhide IN).g.beg.cell u).trans ((tabB_get _ u hu).trans (by rw [unhide HBG]))
      obtain ⟨fz1, fz2, ln1, ln2⟩ := (unhide IN).g.froz
      go_cut [6] from 85 to 120 (fun s wx => s = .bool true ∧ Hid (FldN w wx ow om2 kb lb nb gb bb i now fl (fun j => if j = u then some T.es else tl' j) (told tl') (begunT tl') fr (.slice a T.news.length cap) T.news T.more))
      case first =>
        have IND := hide fun n => (unhide IN).still ((Mod.refl No w3).drewN n)
        have hpos : T.more = true → (T.news.length : Int) > 0 := fun h => by have := (unhide HT).more h; omega
        generalize T.news.length = N at *
        cases hmo : T.more with
        | true =>
          have hp := hpos hmo
          have hpd : decide (0 < N) = true := by simp; omega
          rw [hmo] at b2
          clear IN hpos hmo
          go_quiet (fail)
          go_wp2
          go_meet
          exact ⟨rfl, (unhide IND) _⟩
        | false =>
          rw [hmo] at b2
          clear IN hpos hmo
          go_quiet (fail)
          go_wp2
          go_meet
          exact ⟨rfl, (unhide IND) _⟩
      case rest =>
        obtain ⟨rfl, IW⟩ := hcut
        apply_assumption
        clear b0 b1 b2 g0 fz1 fz2 ln1 ln2 IN
        obtain ⟨fz1, fz2, ln1, ln2⟩ := (unhide IW).g.froz
        have g0 : wc.cell? ⟨gb, u, none⟩ = some (.bool bg) := ((unhide IW).g.beg.cell u).trans ((tabB_get _ u hu).trans (by rw [unhide HBG]))
        have IB := hide ((unhide IW).began u hu)
        go_upto_block 10 with fail
        refine wp_block ?_
        have KZ : ktj u (told tl' u) clock T.news (told tl') 0 = told tl' := ktj_zero rfl
        have KA := ktj_all (u := u) (tl := tl') (unhide HT)
        have IB2 := hide (show FldN w (wc.setCell ⟨gb, u, none⟩ (.bool true)) ow om2 kb lb nb gb bb i now fl (fun j => if j = u then some T.es else tl' j) (ktj u (told tl' u) clock T.news (told tl') 0) (fun v => if v = u then true else begunT tl' v) fr (.slice a T.news.length cap) T.news T.more from by rw [KZ]; exact unhide IB)
        refine fld_news u hu (show 1 + pk ≤ 50 by omega) (show Hid (TelF (1 + pk) (told tl' u) clock fl T) from HT) _ IB2 _ _ _ _ _ _ _ _ _ _ _ _ _ _ _ _ _ _ _ _ _ _ _ _ _ _ _ _ _ _ _ _ _ _ _ _ _ _ _ _ _ _ _ _ _ _ _ _ _ _ _ _ _ _ _ _ _ _ _ _ _ _ _ _ _ _ _ _ _ _ _ _ _ _ _ _ _ _ _ _ _ _ _ _ _ _ _ _ _ _ _ _ _ _ _ _ _ _ _ _ _ _ _ _ _ _ _ _ _ _ _ _ _ _ _ _ _ _ _ _ _ _ _ _ _ _ _ _ _ _ _ _ _ _ _ _ _ _ _ _ _ _ _ _ _ _ _ _ _ _ _ _ _ _ _ _ _ _ _ _ _ _ _ _ _ _ _ _ _ _ _ _ _ _ _ _ _ _ _ _ _ _ _ _ _ _ ?_
        intro x19 x20 x123 x124 x125 x126 x127 x128 x129 x130 x131 x132 x133 x134 x135 x136 x137 x138 x139 x140 x141 x142 x143 x144 x145 x146 x147 x148 x149 x150 x151 x152 x153 x154 x155 x156 x157 x158 x159 x160 x161 x162 x163 x164 x165 x166 x167 x168 x169 x170 x171 x172 x173 x174 x175 x176 x177 x178 wx IX
        have BA := bt_all (u := u) (es := T.es) (tl := tl')
        have IY := hide (show FldN w wx ow om2 kb lb nb gb bb i now fl (fun j => if j = u then some T.es else tl' j) (told (fun j => if j = u then some T.es else tl' j)) (begunT (fun j => if j = u then some T.es else tl' j)) fr (.slice a T.news.length cap) T.news T.more from by
          have h := unhide IX
          have e1 : ktj u (told tl' u) clock T.news (told tl') T.news.length = told (fun j => if j = u then some T.es else tl' j) := KA
          have e2 : (fun v => if v = u then true else begunT tl' v) = begunT (fun j => if j = u then some T.es else tl' j) := BA
          rw [e1, e2] at h
          exact h)
        have b2 : wx.cell? ⟨bb, 2, none⟩ = some (.bool T.more) := (unhide IY).bul.cell 2
        have lb2 := (unhide IY).bul.lt
        have hdec := (unhide HT).dec
        have hlen1 : T.more = true → 1 ≤ T.news.length := fun h => by have := (unhide HT).more h; omega
        have hmo := (unhide HT).more
        have hall := (unhide HT).all
        have ET : told (fun j => if j = u then some T.es else tl' j) u = T.es := by unfold told; simp
        have DK0 := unhide DK
        have e0 : told tl' u = (tl' u).getD [] := rfl
        rw [e0] at DK0
        have REL := hide (show ∃ k', k' < gk ∧ (T.more = true → diffs (told (fun j => if j = u then some T.es else tl' j) u) (itemsK fl 21) < k') ∧ (T.more = false → ∀ j, j < 84 → tb (told (fun j => if j = u then some T.es else tl' j) u) (j / 4 : Nat) (j % 4 : Nat) = leftT fl j) from by
          rw [ET]
          have DK1 : diffs ((tl' u).getD []) (itemsK fl 21) < gk := by first | exact DK0 | exact DK0 trivial
          have hdec1 : diffs T.es (itemsK fl 21) + T.news.length ≤ diffs ((tl' u).getD []) (itemsK fl 21) := hdec
          clear DK0 hdec
          cases hm : T.more with
          | true =>
            have h1 := hlen1 hm
            exact ⟨diffs T.es (itemsK fl 21) + 1, by omega, fun _ => Nat.lt_succ_self _, fun h => by cases h⟩
          | false => exact ⟨0, by omega, (fun h => by cases h), fun _ => hall hm⟩)
        clear KZ KA IB2 IB IX BA hdec hlen1 hmo hall ET DK0 e0 IW HPK HI2 I2 DK HT g0
        generalize T.more = mo at *
        obtain ⟨k', r1, r2, r3⟩ := unhide REL
        have R2 := hide r2
        have R3 := hide r3
        clear REL r2 r3
        go_wp2
        go_roundg k'
        case measure => exact r1
        case rel => exact ⟨rfl, mo, om2, _, rfl, (unhide IY).g, R2, R3⟩
end Go.Proofs.Ythhibagcpjeihaa
/- Who folds all bulletins: two tables are compared; numbers handed in; the tables are made. -/
namespace Go.Proofs.Ythhibagcpjeihaa
open Go.RowKit
open M
open Go.ChangeShapes Go.WideShapes Go.ChangeAt
set_option linter.unusedVariables false
set_option linter.unusedSimpArgs false
set_option maxRecDepth 100000
set_option maxHeartbeats 2000000

theorem tab_part (f : Nat → Int) (i : Nat) (hi : i < 21) : (tab f 84).extract (i * 4) (i * 4 + 4) = #[.int .i64 (f (i * 4)), .int .i64 (f (i * 4 + 1)), .int .i64 (f (i * 4 + 2)), .int .i64 (f (i * 4 + 3))] := by
  apply Array.ext
  · simp [tab_size]; omega
  · intro j h1 h2
    have hj : j < 4 := by simpa using h2
    have hg : (tab f 84)[i * 4 + j]? = some (.int .i64 (f (i * 4 + j))) := tab_get _ _ _ (by omega)
    rw [Array.getElem_extract]
    have h3 : i * 4 + j < (tab f 84).size := by rw [tab_size]; omega
    rw [Array.getElem?_eq_getElem h3] at hg
    rw [Option.some.inj hg]
    have : j = 0 ∨ j = 1 ∨ j = 2 ∨ j = 3 := by omega
    rcases this with rfl | rfl | rfl | rfl <;> rfl

theorem run_part4 (f : Nat → Int) (i : Nat) (hi : i < 21) (w : World) : (part 33 (tab f 84) (i * 4)).run Try.prog w = .ok (.agg #[.int .i64 (f (i * 4)), .int .i64 (f (i * 4 + 1)), .int .i64 (f (i * 4 + 2)), .int .i64 (f (i * 4 + 3))]) w := by
  have hs : (Try.prog.info? 33).map (·.size) = some 4 := by kernel_rfl
  cases hq : Try.prog.info? 33 with
  | none => rw [hq] at hs; simp at hs
  | some info =>
    rw [hq] at hs
    have hz : info.size = 4 := by simpa using hs
    unfold part
    simp only [Sem.run_bind, isAgg, run_underlying Try.underlying33, Result.andThen_ok, Sem.run_pure]
    have c4 : Try.prog.cellsOf 33 = 4 := by kernel_rfl
    simp [Sem.run_bind, run_sizeOf w hq, hz, c4, tab_part f i hi]

theorem eqItems_tab (n : Nat) (f : Nat → Int) (w : World) : ∀ (is : List Nat), (∀ i ∈ is, i < 21) → (Op.eqItems (n + 2) 33 4 (tab f 84) (tab f 84) is).run Try.prog w = .ok true w
  | [], _ => by simp [Op.eqItems]
  | i :: is, h => by
    have hi := h i (by simp)
    simp only [Op.eqItems, Sem.run_bind, run_part4 f i hi, Result.andThen_ok]
    rw [eq4n]
    simp only [same4_self, Result.andThen_ok, Bool.not_true, Bool.false_eq_true, if_false]
    exact eqItems_tab n f w is (fun j hj => h j (by simp [hj]))

theorem eqT (n : Nat) (f : Nat → Int) (w : World) : (Op.equalIn (n + 3) 69 (.agg (tab f 84)) (.agg (tab f 84))).run Try.prog w = .ok true w := by
  have hi : (Try.prog.info? 33).isSome = true := by kernel_rfl
  obtain ⟨i4, hi⟩ := Option.isSome_iff_exists.1 hi
  have c4 : Try.prog.cellsOf 33 = 4 := by kernel_rfl
  rw [run_equalIn_array w (n + 2) _ _ Try.underlying69 hi, c4]
  exact eqItems_tab n f w _ (fun i hi => List.mem_range.1 hi)
theorem eqT0 (f : Nat → Int) (w : World) : (Op.equalIn 9999 69 (.agg (tab f 84)) (.agg (tab f 84))).run Try.prog w = .ok true w := eqT 9996 f w
theorem eqT1 (f : Nat → Int) (w : World) : (Op.equalIn 10000 69 (.agg (tab f 84)) (.agg (tab f 84))).run Try.prog w = .ok true w := eqT 9997 f w

/-- A load of a part of a block, in a walk that serves every order. -/
theorem quiet_load {P : Program} {C : World → Prop} {a : Act} {o : Oper} {K : Act → Prop} (ty : TypeId) (x : Operand) (ho : o.op = .load ty x) (b off : Nat) (hx : a.eval x = .pointer (some ⟨b, off, none⟩)) (v : Value)
    (hl : ∀ w, C w → (loadVar ty ⟨b, off, none⟩).run P w = .ok v w) (hk : K (a.put o.dst v)) : o.quiet P a C K :=
  ⟨v, fun w hw => by
    unfold Oper.quietAt execOp
    simp only [ho, hx, Instr.loadAt, Instr.sureAddr, Sem.run_bind, Sem.run_pure, Result.andThen_ok, hl w hw]
    exact ⟨rfl, rfl⟩, hk⟩

/-- Numbers that came in. -/
def Nums (w : World) (a : Option Addr) (m : Nat) : Prop := ∀ i, i < m → ∃ b off x, a = some ⟨b, off, none⟩ ∧ w.cell? ⟨b, off + i, none⟩ = some (.int .i64 x) ∧ -9223372036854775808 ≤ x ∧ x ≤ 9223372036854775807 ∧ b < w.heap.size
theorem Nums.mod {w w' : World} {a : Option Addr} {m : Nat} (h : Nums w a m) (hm : Mod No w w') : Nums w' a m := fun i hi => by
  obtain ⟨b, off, x, h1, h2, h3, h4, h5⟩ := h i hi
  exact ⟨b, off, x, h1, mod_cell hm h2, h3, h4, Nat.lt_of_lt_of_le h5 hm.size⟩

theorem wf_i64 {x : Int} (h : (Lit.int IntKind.i64 x).wf = true) : -9223372036854775808 ≤ x ∧ x ≤ 9223372036854775807 := bounds_i64 h

section
variable {H : Type} {enc : TypeId × Value → H} {w : World} {spare : Nat → Bool} {held : Bool}
theorem open_nums {v : Value} {d : DataW H} {ps : List MemPlace} (hs : ∃ a len cap, v = .slice a len cap) (h : DataW.Trod enc Try.prog w 0 spare held 39 v d ps) :
    ∃ a n cap, v = .slice a n cap ∧ Nums w a n ∧ (d = .nil ∧ n = 0 ∨ ∃ es sp, d = .slice es sp ∧ es.length = n) := by
  obtain ⟨fuel, h⟩ := h
  rcases open_ints Try.underlying39 Try.underlying3 (by kernel_rfl) h with ⟨hv, hx⟩ | ⟨a, len, cap, zs, hv, hb, hl, hm, hz, hx, hc, hw⟩
  · exact ⟨none, 0, 0, one_cell hv hs, fun i hi => absurd hi (Nat.not_lt_zero _), .inl ⟨congrArg Prod.fst hx, rfl⟩⟩
  · have hlz : len ≤ zs.length := by rw [hz]; split <;> omega
    refine ⟨some a, len, cap, one_cell hv hs, fun i hi => ?_, .inr ⟨_, _, congrArg Prod.fst hx, by simp [lits]; omega⟩⟩
    have key := hc i (by omega)
    obtain ⟨b, off, sp⟩ := a
    have hspot : sp = none := by
      have h0 := hc 0 (by omega)
      have e0 : (⟨b, off, sp⟩ : Addr).add 0 = ⟨b, off, sp⟩ := by simp [Addr.add]
      rw [e0] at h0
      unfold World.cell? at h0
      cases sp with
      | none => rfl
      | some q =>
        exfalso
        simp at h0
        split at h0 <;> simp at h0
    subst hspot
    rw [Addr.add_mid] at key
    have hr := wf_i64 (hw _ (show zs.getD i 0 ∈ zs by
      rw [List.getD_eq_getElem?_getD, List.getElem?_eq_getElem (by omega)]
      exact List.getElem_mem (by omega)))
    refine ⟨b, off, _, rfl, key, hr.1, hr.2, ?_⟩
    unfold World.cell? at key
    simp only at key
    cases hh : w.heap[b]? with
    | none => rw [hh] at key; simp at key
    | some o => exact (Array.getElem?_eq_some_iff.1 hh).1
end
end Go.Proofs.Ythhibagcpjeihaa
/- Who folds all bulletins: nothing is known at first: the walk. -/
namespace Go.Proofs.Ythhibagcpjeihaa
open Go.RowKit
open M
set_option linter.unusedVariables false
set_option linter.unusedSimpArgs false
set_option maxRecDepth 100000
set_option maxHeartbeats 20000000

/-- The table as far as it is laid. -/
def lay (m : Nat) : Array Value := tab (fun j => if j < m then -1 else 0) 672
structure LayI (w wr : World) (nb m : Nat) : Prop where
  has : Has wr nb (lay m) 70
  mod : Mod (fun k => k = nb) w wr
theorem LayI.step {w wr : World} {nb m : Nat} (h : LayI w wr nb m) (hm : m < 672) : LayI w (wr.setCell ⟨nb, m, none⟩ (.int .i64 (-1))) nb (m + 1) := by
  refine ⟨?_, h.mod.at m _⟩
  have hb := h.has.set m (.int .i64 (-1))
  unfold lay at hb ⊢
  rw [tab_set] at hb
  rw [tab_congr (f := fun j => if j < m + 1 then -1 else 0) (g := fun j => if j = m then -1 else if j < m then -1 else 0)]
  · exact hb
  · intro j hj
    by_cases e : j = m
    · rw [if_pos e, if_pos (by omega)]
    · rw [if_neg e]
      by_cases e2 : j < m
      · rw [if_pos e2, if_pos (by omega)]
      · rw [if_neg e2, if_neg (by omega)]
theorem LayI.cell {w wr : World} {nb m : Nat} (h : LayI w wr nb m) (o : Nat) (ho : o < 672) : wr.cell? ⟨nb, o, none⟩ = some (.int .i64 (if o < m then -1 else 0)) := by
  rw [h.has.cell]
  exact tab_get _ _ _ ho

theorem fld_init {w0 : World} {nb : Nat} (Q0 : Exit → Act → World → Prop) (hI : Hid (LayI w0 w0 nb 0)) (sl0 sl1 sl2 sl3 sl4 sl5 sl6 sl7 sl9 sl11 sl12 sl13 sl14 sl15 sl16 sl17 sl18 sl19 sl20 sl21 sl22 sl23 sl24 sl25 sl26 sl27 sl28 sl29 sl30 sl31 sl32 sl33 sl34 sl35 sl36 sl37 sl38 sl39 sl40 sl41 sl42 sl43 sl44 sl45 sl46 sl47 sl48 sl49 sl50 sl51 sl52 sl53 sl54 sl55 sl56 sl57 sl58 sl59 sl60 sl61 sl62 sl63 sl64 sl65 sl66 sl67 sl68 sl69 sl70 sl71 sl72 sl73 sl74 sl75 sl76 sl77 sl78 sl79 sl80 sl81 sl82 sl83 sl84 sl85 sl86 sl87 sl88 sl89 sl90 sl91 sl92 sl93 sl94 sl95 sl96 sl97 sl98 sl99 sl100 sl101 sl102 sl103 sl104 sl105 sl106 sl107 sl108 sl109 sl110 sl111 sl112 sl113 sl114 sl115 sl116 sl117 sl118 sl119 sl120 sl121 sl122 sl123 sl124 sl125 sl126 sl127 sl128 sl129 sl130 sl131 sl132 sl133 sl134 sl135 sl136 sl137 sl138 sl139 sl140 sl141 sl142 sl143 sl144 sl145 sl146 sl147 sl148 sl149 sl150 sl151 sl152 sl153 sl154 sl155 sl156 sl157 sl158 sl159 sl160 sl161 sl162 sl163 sl164 sl165 sl166 sl167 sl168 sl169 sl170 sl171 sl172 sl173 sl174 sl175 sl176 sl177 sl178 sl179 sl180 sl181 sl182 sl183 sl184 sl185 sl186 sl187 sl188 sl189 sl190 : Value)
    (hexit : ∀ (x10 x11 x12 x27 x28 x29 x30 x31 x32 x33 x34 x35 x36 x37 x38 x39 x40 x41 x42 x43 x44 : Value) (wx : World), Hid (LayI w0 wx nb 672) → Q0 (.exit 0) ⟨#[sl0, sl1, sl2, sl3, sl4, sl5, sl6, sl7, .pointer (some ⟨nb, 0, none⟩), sl9, x10, x11, x12, sl13, sl14, sl15, sl16, sl17, sl18, sl19, sl20, sl21, sl22, sl23, sl24, sl25, sl26, x27, x28, x29, x30, x31, x32, x33, x34, x35, x36, x37, x38, x39, x40, x41, x42, x43, x44, sl45, sl46, sl47, sl48, sl49, sl50, sl51, sl52, sl53, sl54, sl55, sl56, sl57, sl58, sl59, sl60, sl61, sl62, sl63, sl64, sl65, sl66, sl67, sl68, sl69, sl70, sl71, sl72, sl73, sl74, sl75, sl76, sl77, sl78, sl79, sl80, sl81, sl82, sl83, sl84, sl85, sl86, sl87, sl88, sl89, sl90, sl91, sl92, sl93, sl94, sl95, sl96, sl97, sl98, sl99, sl100, sl101, sl102, sl103, sl104, sl105, sl106, sl107, sl108, sl109, sl110, sl111, sl112, sl113, sl114, sl115, sl116, sl117, sl118, sl119, sl120, sl121, sl122, sl123, sl124, sl125, sl126, sl127, sl128, sl129, sl130, sl131, sl132, sl133, sl134, sl135, sl136, sl137, sl138, sl139, sl140, sl141, sl142, sl143, sl144, sl145, sl146, sl147, sl148, sl149, sl150, sl151, sl152, sl153, sl154, sl155, sl156, sl157, sl158, sl159, sl160, sl161, sl162, sl163, sl164, sl165, sl166, sl167, sl168, sl169, sl170, sl171, sl172, sl173, sl174, sl175, sl176, sl177, sl178, sl179, sl180, sl181, sl182, sl183, sl184, sl185, sl186, sl187, sl188, sl189, sl190], []⟩ wx) :
    Code.wp Try.prog (fldLoop 0) Q0 ⟨#[sl0, sl1, sl2, sl3, sl4, sl5, sl6, sl7, .pointer (some ⟨nb, 0, none⟩), sl9, .int .i64 0, sl11, sl12, sl13, sl14, sl15, sl16, sl17, sl18, sl19, sl20, sl21, sl22, sl23, sl24, sl25, sl26, sl27, sl28, sl29, sl30, sl31, sl32, sl33, sl34, sl35, sl36, sl37, sl38, sl39, sl40, sl41, sl42, sl43, sl44, sl45, sl46, sl47, sl48, sl49, sl50, sl51, sl52, sl53, sl54, sl55, sl56, sl57, sl58, sl59, sl60, sl61, sl62, sl63, sl64, sl65, sl66, sl67, sl68, sl69, sl70, sl71, sl72, sl73, sl74, sl75, sl76, sl77, sl78, sl79, sl80, sl81, sl82, sl83, sl84, sl85, sl86, sl87, sl88, sl89, sl90, sl91, sl92, sl93, sl94, sl95, sl96, sl97, sl98, sl99, sl100, sl101, sl102, sl103, sl104, sl105, sl106, sl107, sl108, sl109, sl110, sl111, sl112, sl113, sl114, sl115, sl116, sl117, sl118, sl119, sl120, sl121, sl122, sl123, sl124, sl125, sl126, sl127, sl128, sl129, sl130, sl131, sl132, sl133, sl134, sl135, sl136, sl137, sl138, sl139, sl140, sl141, sl142, sl143, sl144, sl145, sl146, sl147, sl148, sl149, sl150, sl151, sl152, sl153, sl154, sl155, sl156, sl157, sl158, sl159, sl160, sl161, sl162, sl163, sl164, sl165, sl166, sl167, sl168, sl169, sl170, sl171, sl172, sl173, sl174, sl175, sl176, sl177, sl178, sl179, sl180, sl181, sl182, sl183, sl184, sl185, sl186, sl187, sl188, sl189, sl190], []⟩ w0 := by
  conv => arg 4; dsimp only
  conv => arg 2; whnf
  go_loopw [10] (fun s10 wr => ∃ a : Nat, s10 = .int .i64 a ∧ a ≤ 8 ∧ Hid (LayI w0 wr nb (a * 84))) (fun s _ => 8 - (intOf s).toNat)
  case atStart => exact ⟨0, rfl, by omega, hI⟩
  case round =>
    obtain ⟨a, rfl, ha, I1⟩ := hrel
    clear hI
    by_cases h8 : a < 8
    · have c1 : (a : Int) < 8 := by omega
      have a0 : (0 : Int) ≤ a := by omega
      have a1 : IntKind.i64.wrap ((a : Int) + 1) = ((a + 1 : Nat) : Int) := by rw [wrap_id _ (by omega) (by omega)]; rfl
      clear hexit
      go_wp2_with fail
      go_loopw [11] (fun s11 wr => ∃ n : Nat, s11 = .int .i64 n ∧ n ≤ 21 ∧ Hid (LayI w0 wr nb (a * 84 + n * 4))) (fun s _ => 21 - (intOf s).toNat)
      case atStart => exact ⟨0, rfl, by omega, by simpa using I1⟩
      case round =>
        obtain ⟨n, rfl, hn, I2⟩ := hrel
        clear I1
        by_cases h21 : n < 21
        · have c2 : (n : Int) < 21 := by omega
          have n0 : (0 : Int) ≤ n := by omega
          have n1 : IntKind.i64.wrap ((n : Int) + 1) = ((n + 1 : Nat) : Int) := by rw [wrap_id _ (by omega) (by omega)]; rfl
          go_wp2_with fail
          go_loopw [12] (fun s12 wr => ∃ c : Nat, s12 = .int .i64 c ∧ c ≤ 4 ∧ Hid (LayI w0 wr nb (a * 84 + n * 4 + c))) (fun s _ => 4 - (intOf s).toNat)
          case atStart => exact ⟨0, rfl, by omega, I2⟩
          case round =>
            obtain ⟨c, rfl, hc, I3⟩ := hrel
            clear I2
            by_cases h4 : c < 4
            · have c3 : (c : Int) < 4 := by omega
              have k0 : (0 : Int) ≤ c := by omega
              have k1 : IntKind.i64.wrap ((c : Int) + 1) = ((c + 1 : Nat) : Int) := by rw [wrap_id _ (by omega) (by omega)]; rfl
              have cx := (unhide I3).cell (a * 84 + n * 4 + c) (by omega)
              have fx := (unhide I3).has.frozen
              have lx := (unhide I3).has.lt
              have NX := hide ((unhide I3).step (by omega))
              clear I3
              go_wp2
              exact ⟨⟨c + 1, rfl, by omega, NX⟩, by simp [intOf]; omega⟩
            · have c3 : ¬ (c : Int) < 4 := by omega
              have NX := hide (show LayI w0 wr nb (a * 84 + (n + 1) * 4) from by
                have h := unhide I3
                rw [show c = 4 by omega] at h
                rw [show a * 84 + (n + 1) * 4 = a * 84 + n * 4 + 4 by omega]
                exact h)
              clear I3
              go_wp2
              exact ⟨⟨n + 1, rfl, by omega, NX⟩, by simp [intOf]; omega⟩
        · have c2 : ¬ (n : Int) < 21 := by omega
          have NX := hide (show LayI w0 wr nb ((a + 1) * 84) from by
            have h := unhide I2
            rw [show n = 21 by omega] at h
            rw [show (a + 1) * 84 = a * 84 + 21 * 4 by omega]
            exact h)
          clear I2
          go_wp2
          exact ⟨⟨a + 1, rfl, by omega, NX⟩, by simp [intOf]; omega⟩
    · have c1 : ¬ (a : Int) < 8 := by omega
      have NX := hide (show LayI w0 wr nb 672 from by
        have h := unhide I1
        rw [show a = 8 by omega] at h
        exact h)
      clear I1
      go_wp2
end Go.Proofs.Ythhibagcpjeihaa
