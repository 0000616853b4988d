import Derived.Test.YthhibagcpjeihaaGreatIBook7NToRFacts3
import Derived.Test.YthhibagcpjeihaaGreatIAppend2ToBook2N
import Derived.Test.YthhibagcpjeihaaGreatIFw4
namespace Go.Proofs.YthhibagcpjeihaaGreat
open Go.RowKit
open M
set_option linter.unusedVariables false
set_option linter.unusedSimpArgs false
set_option maxRecDepth 100000
set_option maxHeartbeats 8000000
def bulC (fre : Bool) (u : Value) (mo : Bool) : Array Value := #[.bool fre, u, .bool mo]
def NOK (w : World) (D : List Nw) (W : World) (u : Value) : Prop := W.ownsRow 0 68 3 u D.length (D.flatMap nwL) ∧ ∀ k, u.ownBlock = some k → w.heap.size ≤ k
structure StpF (w : World) (D : List Nw) (fre mo : Bool) (W W' : World) : Prop where
 has : ∀ b cs T', T' ≠ 97 → w.heap.size ≤ b → Has W b cs T' → Has W' b cs T'
 pg : ∀ b cs, w.heap.size ≤ b → Has W b cs 97 → cs.size = 3 → ∃ cs', Has W' b cs' 97 ∧ cs'.size = 3 ∧ (cs' = cs ∨ ∃ u, cs' = bulC fre u mo ∧ NOK w D W' u)
theorem StpF.mod {w : World} {D : List Nw} {fre mo : Bool} {W W' : World} {S : Nat → Prop} (h : Mod S W W') (hS : ∀ k, S k → k < w.heap.size) : StpF w D fre mo W W' := ⟨fun b _ _ _ hb q => h.has q (fun x => by have := hS b x; omega), fun b _ hb q hs => ⟨_, h.has q (fun x => by have := hS b x; omega), hs, .inl rfl⟩⟩
theorem StpF.no {w : World} {D : List Nw} {fre mo : Bool} {W W' : World} (h : Mod No W W') : StpF w D fre mo W W' := StpF.mod h (fun _ x => x.elim)
theorem NOK.stp {w : World} {D : List Nw} {fre mo : Bool} {W W' : World} {u : Value} (h : NOK w D W u) (hs : StpF w D fre mo W W') : NOK w D W' u := by
 refine ⟨?_, h.2⟩
 obtain ⟨q, h1 | ⟨g, cap, cur, hv, hb, hh, r⟩⟩ := h.1
 ·exact ⟨q, .inl h1⟩
 ·exact ⟨q, .inr ⟨g, cap, cur, hv, hb, hs.has _ _ _ (by decide) (h.2 g (by rw [hv]; rfl)) hh, r⟩⟩
structure CallF (w : World) (D : List Nw) (fre mo : Bool) (err : Int) (S : Nat → Prop) (Post : World → Prop) (W : World) (e : Ending) (W' : World) : Prop where
 ex : ∃ u, e = .returned (.tuple #[bullV fre u mo, .int .i64 err]) ∧ NOK w D W' u
 mod : Mod S W W'
 post : Post W'
structure PostOk (w : World) (Post : World → Prop) : Prop where
 no : ∀ W W', Post W → Mod No W W' → Post W'
 box : ∀ W W' b cs, w.heap.size ≤ b → Post W → Has W b cs 97 → Mod (fun k => k = b) W W' → Post W'
noncomputable def askReg (n : Nat) : Code := regionNo (Tryz.f17.body.getD .skip) n
def FB17 (w : World) (D : List Nw) (fre mo : Bool) (err : Int) (ob bb kb : Nat) (b0 c0 : Int) (i : Nat) (v : Value) (s : Nat → Value) (W : World) : Prop :=
 match i with
 | 0 => v = .pointer (some ⟨ob, 0, none⟩)
 | 1 => v = .pointer (some ⟨ob, 0, none⟩)
 | 2 => v = .pointer (some ⟨ob, 1, none⟩)
 | 3 => v = .pointer (some ⟨kb, 0, none⟩)
 | 4 => v = .pointer (some ⟨bb, 2, none⟩)
 | 5 => v = .int .i64 b0
 | 6 => v = .pointer (some ⟨bb, 3, none⟩)
 | 7 => v = .int .i64 c0
 | 8 => ∃ u, v = .tuple #[bullV fre u mo, .int .i64 err] ∧ NOK w D W u
 | 9 => ∃ u, v = .tuple #[bullV fre u mo, .int .i64 err] ∧ NOK w D W u
 | 10 => ∃ u, v = bullV fre u mo ∧ NOK w D W u
 | 11 => v = .int .i64 err
 | 12 => ∃ b cs, v = .pointer (some ⟨b, 0, none⟩) ∧ Has W b cs 97 ∧ cs.size = 3 ∧ w.heap.size ≤ b
 | 13 => ∃ b, s 12 = .pointer (some ⟨b, 0, none⟩) ∧ w.heap.size ≤ b ∧ ∃ cs, Has W b cs 97 ∧ cs.size = 3 ∧ ∃ u, cs = bulC fre u mo ∧ NOK w D W u
 | 14 => v = .int .i64 err
 | _ => True
theorem FB17.stp {w : World} {D : List Nw} {fre mo : Bool} {err : Int} {ob bb kb : Nat} {b0 c0 : Int} (i : Nat) (v : Value) (s : Nat → Value) (W W' : World) (hs : StpF w D fre mo W W') (h : FB17 w D fre mo err ob bb kb b0 c0 i v s W) : FB17 w D fre mo err ob bb kb b0 c0 i v s W' := by
 unfold FB17 at h ⊢
 split at h
 all_goals first
  | exact h
  |(obtain ⟨u, h1, h2⟩ := h; exact ⟨u, h1, h2.stp hs⟩)
  |(obtain ⟨b, cs, h1, h2, h3, h4⟩ := h; obtain ⟨cs', q1, q2, q3⟩ := hs.pg b cs h4 h2 h3; exact ⟨b, cs', h1, q1, q2, h4⟩)
  |(obtain ⟨b, h1, h2, cs, h3, h4, u, h5, h6⟩ := h
    obtain ⟨cs', q1, q2, q3⟩ := hs.pg b cs h2 h3 h4
    refine ⟨b, h1, h2, cs', q1, q2, ?_⟩
    rcases q3 with rfl | q3
    ·exact ⟨u, h5, h6.stp hs⟩
    ·exact q3)
theorem fwr17 {w : World} {D : List Nw} {fre mo : Bool} {err : Int} {ob bb kb : Nat} {b0 c0 : Int} {S : Nat → Prop} {Post : World → Prop} (hc : w.cell? ⟨ob, 1, none⟩ = some (.pointer (some ⟨kb, 0, none⟩)) ∧ w.cell? ⟨bb, 2, none⟩ = some (.int .i64 b0) ∧ w.cell? ⟨bb, 3, none⟩ = some (.int .i64 c0))
  (hS : ∀ k, S k → k < w.heap.size ∧ k ≠ ob ∧ k ≠ bb) (hPO : PostOk w Post) (hcall : ∀ W, Mod No w W → Calls Tryz.prog 39 #[.pointer (some ⟨kb, 0, none⟩), .int .i64 b0, .int .i64 c0] W fun e' W' => CallF w D fre mo err S Post W e' W') (Q0 : Exit → Act → World → Prop) (sl0 sl2 sl3 sl4 sl6 sl7 sl8 sl9 sl10 sl11 sl12 sl13 sl14 sl15 sl16 sl17 sl18 sl19 sl20 sl21 sl22 sl23 sl24 sl25 sl26 sl27 sl28 sl29 sl30 sl31 sl32 sl33 sl34 sl35 sl36 sl37 sl38 sl39 sl40 sl41 sl42 sl43 sl44 sl45 sl46 sl47 sl48 sl49 sl50 sl51 sl52 sl53 sl54 sl55 sl56 sl57 sl58 sl59 sl60 sl61 sl62 sl63 sl64 sl65 sl66 sl67 sl68 sl69 sl70 sl71 sl72 sl73 sl74 sl75 sl76 sl77 sl78 sl79 sl80 sl81 sl82 sl83 sl84 sl85 sl86 sl87 sl88 sl89 sl90 sl91 sl92 sl93 sl94 sl95 sl96 sl97 sl98 sl99 sl100 sl101 sl102 sl103 sl104 sl105 sl106 sl107 sl108 sl109 sl110 sl111 sl112 sl113 sl114 sl115 sl116 sl117 sl118 sl119 sl120 sl121 sl122 sl123 sl124 sl125 sl126 sl127 sl128 sl129 sl130 sl131 sl132 sl133 sl134 sl135 sl136 sl137 sl138 sl139 sl140 sl141 sl142 sl143 sl144 sl145 sl146 sl147 sl148 sl149 sl150 sl151 sl152 sl153 sl154 sl155 sl156 sl157 sl158 sl159 sl160 sl161 sl162 sl163 sl164 sl165 sl166 sl167 sl168 sl169 sl170 sl171 sl172 sl173 sl174 sl175 sl176 sl177 sl178 sl179 sl180 sl181 sl182 sl183 sl184 sl185 : Value)
  (hexit : ∀ (x128 x129 x130 x131 x132 x133 x134 x135 x136 x127 x137 x138 : Value) (b : Nat) (u : Value) (W : World), Hid (Mod S w W ∧ Post W ∧ Has W b (bulC fre u mo) 97 ∧ NOK w D W u ∧ w.heap.size ≤ b) → Q0 .normal ⟨#[sl0, .pointer (some ⟨ob, 0, none⟩), sl2, sl3, sl4, .pointer (some ⟨bb, 0, none⟩), sl6, sl7, sl8, sl9, sl10, sl11, sl12, sl13, sl14, sl15, .pointer (some ⟨b, 0, none⟩), .int .i64 err, sl18, sl19, sl20, sl21, sl22, sl23, sl24, sl25, sl26, sl27, sl28, sl29, sl30, sl31, sl32, sl33, sl34, sl35, sl36, sl37, sl38, sl39, sl40, sl41, sl42, sl43, sl44, sl45, sl46, sl47, sl48, sl49, sl50, sl51, sl52, sl53, sl54, sl55, sl56, sl57, sl58, sl59, sl60, sl61, sl62, sl63, sl64, sl65, sl66, sl67, sl68, sl69, sl70, sl71, sl72, sl73, sl74, sl75, sl76, sl77, sl78, sl79, sl80, sl81, sl82, sl83, sl84, sl85, sl86, sl87, sl88, sl89, sl90, sl91, sl92, sl93, sl94, sl95, sl96, sl97, sl98, sl99, sl100, sl101, sl102, sl103, sl104, sl105, sl106, sl107, sl108, sl109, sl110, sl111, sl112, sl113, sl114, sl115, sl116, sl117, sl118, sl119, sl120, sl121, sl122, sl123, sl124, sl125, sl126, x127, x128, x129, x130, x131, x132, x133, x134, x135, x136, x137, x138, sl139, sl140, sl141, sl142, sl143, sl144, sl145, sl146, sl147, sl148, sl149, sl150, sl151, sl152, sl153, sl154, sl155, sl156, sl157, sl158, sl159, sl160, sl161, sl162, sl163, sl164, sl165, sl166, sl167, sl168, sl169, sl170, sl171, sl172, sl173, sl174, sl175, sl176, sl177, sl178, sl179, sl180, sl181, sl182, sl183, sl184, sl185], []⟩ W) :
  Code.wp Tryz.prog (askReg 17) Q0 ⟨#[sl0, .pointer (some ⟨ob, 0, none⟩), sl2, sl3, sl4, .pointer (some ⟨bb, 0, none⟩), sl6, sl7, sl8, sl9, sl10, sl11, sl12, sl13, sl14, sl15, sl16, sl17, sl18, sl19, sl20, sl21, sl22, sl23, sl24, sl25, sl26, sl27, sl28, sl29, sl30, sl31, sl32, sl33, sl34, sl35, sl36, sl37, sl38, sl39, sl40, sl41, sl42, sl43, sl44, sl45, sl46, sl47, sl48, sl49, sl50, sl51, sl52, sl53, sl54, sl55, sl56, sl57, sl58, sl59, sl60, sl61, sl62, sl63, sl64, sl65, sl66, sl67, sl68, sl69, sl70, sl71, sl72, sl73, sl74, sl75, sl76, sl77, sl78, sl79, sl80, sl81, sl82, sl83, sl84, sl85, sl86, sl87, sl88, sl89, sl90, sl91, sl92, sl93, sl94, sl95, sl96, sl97, sl98, sl99, sl100, sl101, sl102, sl103, sl104, sl105, sl106, sl107, sl108, sl109, sl110, sl111, sl112, sl113, sl114, sl115, sl116, sl117, sl118, sl119, sl120, sl121, sl122, sl123, sl124, sl125, sl126, sl127, sl128, sl129, sl130, sl131, sl132, sl133, sl134, sl135, sl136, sl137, sl138, sl139, sl140, sl141, sl142, sl143, sl144, sl145, sl146, sl147, sl148, sl149, sl150, sl151, sl152, sl153, sl154, sl155, sl156, sl157, sl158, sl159, sl160, sl161, sl162, sl163, sl164, sl165, sl166, sl167, sl168, sl169, sl170, sl171, sl172, sl173, sl174, sl175, sl176, sl177, sl178, sl179, sl180, sl181, sl182, sl183, sl184, sl185], []⟩ w := by
 conv => arg 4; dsimp only
 conv => arg 2; whnf
 have HEX := hide hexit
 have HC := hide hc
 have HS := hide hS
 have HPO := hide hPO
 have HCALL := hide hcall
 have invM : ∀ {t : Bool} {W : World}, (match t with | false => Mod No w W | true => Mod S w W ∧ Post W) → Mod S w W := fun {t W} h => by
  cases t
  ·exact h.mono (fun _ _ x => x.elim)
  ·exact h.1
 have invA : ∀ {t : Bool} {W W' : World}, (match t with | false => Mod No w W | true => Mod S w W ∧ Post W) → Mod No W W' → (match t with | false => Mod No w W' | true => Mod S w W' ∧ Post W') := fun {t W W'} h hm => by
  cases t
  ·exact h.trans hm
  ·exact ⟨h.1.trans (hm.mono (fun _ _ x => x.elim)), hPO.no _ _ h.2 hm⟩
 have invB : ∀ {t : Bool} {W W' : World} {b : Nat} {cs : Array Value}, (match t with | false => Mod No w W | true => Mod S w W ∧ Post W) → Has W b cs 97 → w.heap.size ≤ b → Mod (fun k => k = b) W W' → (match t with | false => Mod No w W' | true => Mod S w W' ∧ Post W') := fun {t W W' b cs} h hb hl hm => by
  cases t
  ·exact h.trans' hm (fun k hk hl' => by omega)
  ·exact ⟨h.1.trans' hm (fun k hk hl' => by omega), hPO.box _ _ _ _ hl h.2 hb hm⟩
 have cells : ∀ {t : Bool} {W : World}, (match t with | false => Mod No w W | true => Mod S w W ∧ Post W) → W.cell? ⟨ob, 1, none⟩ = some (.pointer (some ⟨kb, 0, none⟩)) ∧ W.cell? ⟨bb, 2, none⟩ = some (.int .i64 b0) ∧ W.cell? ⟨bb, 3, none⟩ = some (.int .i64 c0) := fun {t W} h => by
  have hm := invM h
  have k : ∀ (g o : Nat) (v : Value), ¬ S g → w.cell? ⟨g, o, none⟩ = some v → W.cell? ⟨g, o, none⟩ = some v := fun g o v hg hv => by
   have hlt := World.block_lt_of_cell? w _ hv
   rw [World.cell?_of_block (w := w) (hm.block _ hlt hg)]
   exact hv
  have no := fun (e : S ob) => (hS _ e).2.1 rfl
  have nb := fun (e : S bb) => (hS _ e).2.2 rfl
  exact ⟨k _ _ _ no hc.1, k _ _ _ nb hc.2.1, k _ _ _ nb hc.2.2⟩
 clear hexit hc hS hPO hcall
 refine wp_region_C (n := 186) 8 (fun t W => match t with | false => Mod No w W | true => Mod S w W ∧ Post W) (StpF w D fre mo) (FB17 w D fre mo err ob bb kb b0 c0) (by kernel_rfl) rfl (by kernel_rfl) (fun i v s W W' hs h => h.stp i v s W W' hs) ?_ ?_ ?_ (Mod.refl No w).drew ⟨_, rfl⟩
 ·intro i o a W t hne ho hfr hI hd
  have hi : i < 15 := (Array.getElem?_eq_some_iff.1 ho).1
  have E1 : a.eval (.tmp 1) = .pointer (some ⟨ob, 0, none⟩) := hfr.rest 1 (by kernel_rfl)
  have E5 : a.tmps[5]?.getD undef = .pointer (some ⟨bb, 0, none⟩) := by simpa using hfr.rest 5 (by kernel_rfl)
  clear HEX hfr
  have hcases : i = 0 ∨ i = 1 ∨ i = 2 ∨ i = 3 ∨ i = 4 ∨ i = 5 ∨ i = 6 ∨ i = 7 ∨ i = 9 ∨ i = 10 ∨ i = 11 ∨ i = 12 ∨ i = 13 ∨ i = 14 := by omega
  rcases hcases with rfl | rfl | rfl | rfl | rfl | rfl | rfl | rfl | rfl | rfl | rfl | rfl | rfl | rfl
  all_goals
   replace ho := Option.some.inj (show some _ = some o from ho)
   subst ho
  ·refine wp_move_op _ rfl ?_
   exact ⟨_, rfl, hI, StpF.no (Mod.refl _ _), E1⟩
  ·have E128 : a.tmps[128]?.getD undef = .pointer (some ⟨ob, 0, none⟩) := by simpa using (show a.tmps.getD 128 undef = _ from hd ⟨0, .data⟩ (by simp) rfl)
   have HI := hide hI
   clear hd hI E1 E5 HC HCALL HS HPO
   go_simp
   first | exact unhide HI | exact ⟨_, rfl, unhide HI, StpF.no (Mod.refl _ _), rfl⟩ | exact ⟨unhide HI, StpF.no (Mod.refl _ _), rfl⟩ | exact ⟨unhide HI, StpF.no (Mod.refl _ _)⟩
  ·have E129 : a.tmps[129]?.getD undef = .pointer (some ⟨ob, 0, none⟩) := by simpa using (show a.tmps.getD 129 undef = _ from hd ⟨1, .data⟩ (by simp) rfl)
   have HI := hide hI
   clear hd hI E1 E5 HC HCALL HS HPO
   go_simp
   first | exact unhide HI | exact ⟨_, rfl, unhide HI, StpF.no (Mod.refl _ _), rfl⟩ | exact ⟨unhide HI, StpF.no (Mod.refl _ _), rfl⟩ | exact ⟨unhide HI, StpF.no (Mod.refl _ _)⟩
  ·have E130 : a.tmps[130]?.getD undef = .pointer (some ⟨ob, 1, none⟩) := by simpa using (show a.tmps.getD 130 undef = _ from hd ⟨2, .data⟩ (by simp) rfl)
   have c0 := (cells hI).1
   have HI := hide hI
   clear hd hI E1 E5 HC HCALL HS HPO
   go_simp
   first | exact unhide HI | exact ⟨_, rfl, unhide HI, StpF.no (Mod.refl _ _), rfl⟩ | exact ⟨unhide HI, StpF.no (Mod.refl _ _), rfl⟩ | exact ⟨unhide HI, StpF.no (Mod.refl _ _)⟩
  ·have HI := hide hI
   clear hd hI E1 HC HCALL HS HPO
   go_simp
   first | exact unhide HI | exact ⟨_, rfl, unhide HI, StpF.no (Mod.refl _ _), rfl⟩ | exact ⟨unhide HI, StpF.no (Mod.refl _ _), rfl⟩ | exact ⟨unhide HI, StpF.no (Mod.refl _ _)⟩
  ·have E132 : a.tmps[132]?.getD undef = .pointer (some ⟨bb, 2, none⟩) := by simpa using (show a.tmps.getD 132 undef = _ from hd ⟨4, .data⟩ (by simp) rfl)
   have c0 := (cells hI).2.1
   have HI := hide hI
   clear hd hI E1 E5 HC HCALL HS HPO
   go_simp
   first | exact unhide HI | exact ⟨_, rfl, unhide HI, StpF.no (Mod.refl _ _), rfl⟩ | exact ⟨unhide HI, StpF.no (Mod.refl _ _), rfl⟩ | exact ⟨unhide HI, StpF.no (Mod.refl _ _)⟩
  ·have HI := hide hI
   clear hd hI E1 HC HCALL HS HPO
   go_simp
   first | exact unhide HI | exact ⟨_, rfl, unhide HI, StpF.no (Mod.refl _ _), rfl⟩ | exact ⟨unhide HI, StpF.no (Mod.refl _ _), rfl⟩ | exact ⟨unhide HI, StpF.no (Mod.refl _ _)⟩
  ·have E134 : a.tmps[134]?.getD undef = .pointer (some ⟨bb, 3, none⟩) := by simpa using (show a.tmps.getD 134 undef = _ from hd ⟨6, .data⟩ (by simp) rfl)
   have c0 := (cells hI).2.2
   have HI := hide hI
   clear hd hI E1 E5 HC HCALL HS HPO
   go_simp
   first | exact unhide HI | exact ⟨_, rfl, unhide HI, StpF.no (Mod.refl _ _), rfl⟩ | exact ⟨unhide HI, StpF.no (Mod.refl _ _), rfl⟩ | exact ⟨unhide HI, StpF.no (Mod.refl _ _)⟩
  ·have q0 : ∃ u, a.eval (.tmp 136) = .tuple #[bullV fre u mo, .int .i64 err] ∧ NOK w D W u := hd ⟨8, .data⟩ (by simp) rfl
   refine wp_move_op _ rfl ?_
   exact ⟨_, rfl, hI, StpF.no (Mod.refl _ _), q0⟩
  ·obtain ⟨u, q0, q1⟩ : ∃ u, a.tmps.getD 127 undef = .tuple #[bullV fre u mo, .int .i64 err] ∧ NOK w D W u := hd ⟨9, .data⟩ (by simp) rfl
   have q0 : a.tmps[127]?.getD undef = .tuple #[bullV fre u mo, .int .i64 err] := by simpa using q0
   unfold bullV at q0
   have Q1 := hide q1
   clear q1
   have HI := hide hI
   clear hd hI E1 E5 HC HCALL HS HPO
   go_simp
   exact ⟨_, rfl, unhide HI, StpF.no (Mod.refl _ _), u, rfl, unhide Q1⟩
  ·obtain ⟨u, q0, q1⟩ : ∃ u, a.tmps.getD 127 undef = .tuple #[bullV fre u mo, .int .i64 err] ∧ NOK w D W u := hd ⟨9, .data⟩ (by simp) rfl
   have q0 : a.tmps[127]?.getD undef = .tuple #[bullV fre u mo, .int .i64 err] := by simpa using q0
   unfold bullV at q0
   clear q1
   have HI := hide hI
   clear hd hI E1 E5 HC HCALL HS HPO
   go_simp
   first | exact unhide HI | exact ⟨_, rfl, unhide HI, StpF.no (Mod.refl _ _), rfl⟩ | exact ⟨unhide HI, StpF.no (Mod.refl _ _), rfl⟩ | exact ⟨unhide HI, StpF.no (Mod.refl _ _)⟩
  ·have mA : Mod No W (W.alloc (.cells #[.bool false, .slice none 0 0, .bool false] 97)) := (Mod.refl No W).alloc _
   have HI := hide (invA hI mA)
   have SS := hide (StpF.no (w := w) (D := D) (fre := fre) (mo := mo) mA)
   have FF := hide (show FB17 w D fre mo err ob bb kb b0 c0 12 (.pointer (some ⟨W.heap.size, 0, none⟩)) (fun _ => undef) (W.alloc (.cells #[.bool false, .slice none 0 0, .bool false] 97)) from ⟨W.heap.size, _, rfl, Has.new W _ _, rfl, (invM hI).size⟩)
   clear hd hI E1 E5 HC HCALL HS HPO mA
   go_simp
   exact ⟨_, rfl, unhide HI, unhide SS, unhide FF⟩
  ·obtain ⟨b, cs, q0, q1, q2, q3⟩ : ∃ b cs, a.eval (.tmp 16) = .pointer (some ⟨b, 0, none⟩) ∧ Has W b cs 97 ∧ cs.size = 3 ∧ w.heap.size ≤ b := hd ⟨12, .data⟩ (by simp) rfl
   obtain ⟨u, p0, p1⟩ : ∃ u, a.eval (.tmp 137) = bullV fre u mo ∧ NOK w D W u := hd ⟨10, .data⟩ (by simp) rfl
   obtain ⟨au, cu, rfl⟩ := slice_of_owns p1.1
   refine wp_store_mid _ _ _ rfl b 0 (bulC fre (.slice au D.length cu) mo) q0 p0 (q1.there 0 3 (by omega)) (by kernel_rfl) (by simp [bulC, Value.oneCell']) ?_
   have hN : Has (W.setCells b 0 (bulC fre (.slice au D.length cu) mo).toList) b (bulC fre (.slice au D.length cu) mo) 97 := by
    have := Has.setCells (bulC fre (.slice au D.length cu) mo).toList 0 W _ q1
    rwa [setAll_whole _ _ (by rw [q2]; rfl)] at this
   have hM : Mod (fun k => k = b) W (W.setCells b 0 (bulC fre (.slice au D.length cu) mo).toList) := Mod.setCells (S := fun k => k = b) (.inl rfl) _ 0 W (Mod.refl _ _)
   have hS : StpF w D fre mo W (W.setCells b 0 (bulC fre (.slice au D.length cu) mo).toList) := by
    have hhas : ∀ b' cs T', T' ≠ 97 → Has W b' cs T' → Has (W.setCells b 0 (bulC fre (.slice au D.length cu) mo).toList) b' cs T' := fun b' cs T' hT h => hM.has h (h.ne q1 hT)
    have hR : NOK w D (W.setCells b 0 (bulC fre (.slice au D.length cu) mo).toList) (.slice au D.length cu) := by
     refine ⟨?_, p1.2⟩
     obtain ⟨q, h1 | ⟨g, cap, cur, hv, hb, hh, r⟩⟩ := p1.1
     ·exact ⟨q, .inl h1⟩
     ·exact ⟨q, .inr ⟨g, cap, cur, hv, hb, hhas _ _ _ (by decide) hh, r⟩⟩
    refine ⟨fun b' cs T' hT _ h => hhas b' cs T' hT h, fun b' cs' _ h hs => ?_⟩
    by_cases e : b' = b
    ·subst e
     exact ⟨_, hN, rfl, .inr ⟨_, rfl, hR⟩⟩
    ·exact ⟨cs', hM.has h e, hs, .inl rfl⟩
   refine ⟨undef, rfl, invB hI q1 q3 hM, hS, b, ?_, q3, _, hN, rfl, _, rfl, p1.stp hS⟩
   exact (maskv_dep (k := 12) rfl (by kernel_rfl)).trans q0
  ·have q0 : a.eval (.tmp 138) = .int .i64 err := hd ⟨11, .data⟩ (by simp) rfl
   refine wp_assign_op _ rfl ?_
   exact ⟨_, rfl, hI, StpF.no (Mod.refl _ _), q0⟩
 ·intro o a W ho hfr hI hd
  replace ho := Option.some.inj (show some _ = some o from ho)
  subst ho
  have hI : Mod No w W := hI
  have q0 : a.eval (.tmp 131) = .pointer (some ⟨kb, 0, none⟩) := hd ⟨3, .data⟩ (by simp) rfl
  have q1 : a.eval (.tmp 133) = .int .i64 b0 := hd ⟨5, .data⟩ (by simp) rfl
  have q2 : a.eval (.tmp 135) = .int .i64 c0 := hd ⟨7, .data⟩ (by simp) rfl
  refine wp_call_op 39 _ _ rfl #[.pointer (some ⟨kb, 0, none⟩), .int .i64 b0, .int .i64 c0] (by simp [q0, q1, q2]) (fun W => by kernel_rfl) ((unhide HCALL) W hI) ?_
  rintro e' w' ⟨⟨u, rfl, hu⟩, hm, hp⟩
  exact ⟨_, rfl, _, rfl, ⟨(hI.mono (fun _ _ x => x.elim)).trans hm, hp⟩, StpF.mod hm (fun k hk => ((unhide HS) k hk).1), u, rfl, hu⟩
 ·intro a W hfr hI hF
  obtain ⟨b, h1, h2, cs, h3, h4, u, rfl, h6⟩ := hF 13 (by decide)
  have h1 : a.tmps.getD 16 undef = .pointer (some ⟨b, 0, none⟩) := (maskv_dep (k := 12) rfl (by kernel_rfl)).symm.trans h1
  have h13 : a.tmps.getD 17 undef = .int .i64 err := hF 14 (by decide)
  have hl2 := hfr.lit
  rw [hl2]
  clear hl2
  simp only [List.filterMap_cons, List.filterMap_nil, List.foldl_cons, List.foldl_nil, List.setIfInBounds_toArray, List.set_cons_zero, List.set_cons_succ, h1, h13]
  exact (unhide HEX) _ _ _ _ _ _ _ _ _ _ _ _ b u W ⟨hI.1, hI.2, h3, h6, h2⟩
def FB18 (w : World) (D : List Nw) (fre mo : Bool) (err : Int) (ob bb wb tob : Nat) (b0 c0 : Int) (i : Nat) (v : Value) (s : Nat → Value) (W : World) : Prop :=
 match i with
 | 0 => v = .pointer (some ⟨ob, 0, none⟩)
 | 1 => v = .pointer (some ⟨ob, 0, none⟩)
 | 2 => v = .pointer (some ⟨ob, 2, none⟩)
 | 3 => v = .pointer (some ⟨wb, 0, none⟩)
 | 4 => v = .pointer (some ⟨ob, 0, none⟩)
 | 5 => v = .pointer (some ⟨ob, 0, none⟩)
 | 6 => v = .pointer (some ⟨ob, 4, none⟩)
 | 7 => v = .pointer (some ⟨tob, 0, none⟩)
 | 8 => v = .pointer (some ⟨bb, 2, none⟩)
 | 9 => v = .int .i64 b0
 | 10 => v = .pointer (some ⟨bb, 3, none⟩)
 | 11 => v = .int .i64 c0
 | 12 => ∃ u, v = .tuple #[bullV fre u mo, .int .i64 err] ∧ NOK w D W u
 | 13 => ∃ u, v = .tuple #[bullV fre u mo, .int .i64 err] ∧ NOK w D W u
 | 14 => ∃ u, v = bullV fre u mo ∧ NOK w D W u
 | 15 => v = .int .i64 err
 | 16 => ∃ b cs, v = .pointer (some ⟨b, 0, none⟩) ∧ Has W b cs 97 ∧ cs.size = 3 ∧ w.heap.size ≤ b
 | 17 => ∃ b, s 16 = .pointer (some ⟨b, 0, none⟩) ∧ w.heap.size ≤ b ∧ ∃ cs, Has W b cs 97 ∧ cs.size = 3 ∧ ∃ u, cs = bulC fre u mo ∧ NOK w D W u
 | 18 => v = .int .i64 err
 | _ => True
theorem FB18.stp {w : World} {D : List Nw} {fre mo : Bool} {err : Int} {ob bb wb tob : Nat} {b0 c0 : Int} (i : Nat) (v : Value) (s : Nat → Value) (W W' : World) (hs : StpF w D fre mo W W') (h : FB18 w D fre mo err ob bb wb tob b0 c0 i v s W) : FB18 w D fre mo err ob bb wb tob b0 c0 i v s W' := by
 unfold FB18 at h ⊢
 split at h
 all_goals first
  | exact h
  |(obtain ⟨u, h1, h2⟩ := h; exact ⟨u, h1, h2.stp hs⟩)
  |(obtain ⟨b, cs, h1, h2, h3, h4⟩ := h; obtain ⟨cs', q1, q2, q3⟩ := hs.pg b cs h4 h2 h3; exact ⟨b, cs', h1, q1, q2, h4⟩)
  |(obtain ⟨b, h1, h2, cs, h3, h4, u, h5, h6⟩ := h
    obtain ⟨cs', q1, q2, q3⟩ := hs.pg b cs h2 h3 h4
    refine ⟨b, h1, h2, cs', q1, q2, ?_⟩
    rcases q3 with rfl | q3
    ·exact ⟨u, h5, h6.stp hs⟩
    ·exact q3)
theorem fwr18 {w : World} {D : List Nw} {fre mo : Bool} {err : Int} {ob bb wb tob : Nat} {b0 c0 : Int} {S : Nat → Prop} {Post : World → Prop} (hc : w.cell? ⟨ob, 2, none⟩ = some (.pointer (some ⟨wb, 0, none⟩)) ∧ w.cell? ⟨ob, 4, none⟩ = some (.pointer (some ⟨tob, 0, none⟩)) ∧ w.cell? ⟨bb, 2, none⟩ = some (.int .i64 b0) ∧ w.cell? ⟨bb, 3, none⟩ = some (.int .i64 c0))
  (hS : ∀ k, S k → k < w.heap.size ∧ k ≠ ob ∧ k ≠ bb) (hPO : PostOk w Post) (hcall : ∀ W, Mod No w W → Calls Tryz.prog 40 #[.pointer (some ⟨wb, 0, none⟩), .pointer (some ⟨tob, 0, none⟩), .int .i64 b0, .int .i64 c0] W fun e' W' => CallF w D fre mo err S Post W e' W') (Q0 : Exit → Act → World → Prop) (sl0 sl2 sl3 sl4 sl6 sl7 sl8 sl9 sl10 sl11 sl12 sl13 sl14 sl15 sl16 sl17 sl18 sl19 sl20 sl21 sl22 sl23 sl24 sl25 sl26 sl27 sl28 sl29 sl30 sl31 sl32 sl33 sl34 sl35 sl36 sl37 sl38 sl39 sl40 sl41 sl42 sl43 sl44 sl45 sl46 sl47 sl48 sl49 sl50 sl51 sl52 sl53 sl54 sl55 sl56 sl57 sl58 sl59 sl60 sl61 sl62 sl63 sl64 sl65 sl66 sl67 sl68 sl69 sl70 sl71 sl72 sl73 sl74 sl75 sl76 sl77 sl78 sl79 sl80 sl81 sl82 sl83 sl84 sl85 sl86 sl87 sl88 sl89 sl90 sl91 sl92 sl93 sl94 sl95 sl96 sl97 sl98 sl99 sl100 sl101 sl102 sl103 sl104 sl105 sl106 sl107 sl108 sl109 sl110 sl111 sl112 sl113 sl114 sl115 sl116 sl117 sl118 sl119 sl120 sl121 sl122 sl123 sl124 sl125 sl126 sl127 sl128 sl129 sl130 sl131 sl132 sl133 sl134 sl135 sl136 sl137 sl138 sl139 sl140 sl141 sl142 sl143 sl144 sl145 sl146 sl147 sl148 sl149 sl150 sl151 sl152 sl153 sl154 sl155 sl156 sl157 sl158 sl159 sl160 sl161 sl162 sl163 sl164 sl165 sl166 sl167 sl168 sl169 sl170 sl171 sl172 sl173 sl174 sl175 sl176 sl177 sl178 sl179 sl180 sl181 sl182 sl183 sl184 sl185 : Value)
  (hexit : ∀ (x140 x141 x142 x143 x144 x145 x146 x147 x148 x149 x150 x151 x152 x139 x153 x154 : Value) (b : Nat) (u : Value) (W : World), Hid (Mod S w W ∧ Post W ∧ Has W b (bulC fre u mo) 97 ∧ NOK w D W u ∧ w.heap.size ≤ b) → Q0 .normal ⟨#[sl0, .pointer (some ⟨ob, 0, none⟩), sl2, sl3, sl4, .pointer (some ⟨bb, 0, none⟩), sl6, sl7, sl8, sl9, sl10, sl11, sl12, sl13, sl14, sl15, sl16, sl17, .pointer (some ⟨b, 0, none⟩), .int .i64 err, sl20, sl21, sl22, sl23, sl24, sl25, sl26, sl27, sl28, sl29, sl30, sl31, sl32, sl33, sl34, sl35, sl36, sl37, sl38, sl39, sl40, sl41, sl42, sl43, sl44, sl45, sl46, sl47, sl48, sl49, sl50, sl51, sl52, sl53, sl54, sl55, sl56, sl57, sl58, sl59, sl60, sl61, sl62, sl63, sl64, sl65, sl66, sl67, sl68, sl69, sl70, sl71, sl72, sl73, sl74, sl75, sl76, sl77, sl78, sl79, sl80, sl81, sl82, sl83, sl84, sl85, sl86, sl87, sl88, sl89, sl90, sl91, sl92, sl93, sl94, sl95, sl96, sl97, sl98, sl99, sl100, sl101, sl102, sl103, sl104, sl105, sl106, sl107, sl108, sl109, sl110, sl111, sl112, sl113, sl114, sl115, sl116, sl117, sl118, sl119, sl120, sl121, sl122, sl123, sl124, sl125, sl126, sl127, sl128, sl129, sl130, sl131, sl132, sl133, sl134, sl135, sl136, sl137, sl138, x139, x140, x141, x142, x143, x144, x145, x146, x147, x148, x149, x150, x151, x152, x153, x154, sl155, sl156, sl157, sl158, sl159, sl160, sl161, sl162, sl163, sl164, sl165, sl166, sl167, sl168, sl169, sl170, sl171, sl172, sl173, sl174, sl175, sl176, sl177, sl178, sl179, sl180, sl181, sl182, sl183, sl184, sl185], []⟩ W) :
  Code.wp Tryz.prog (askReg 18) Q0 ⟨#[sl0, .pointer (some ⟨ob, 0, none⟩), sl2, sl3, sl4, .pointer (some ⟨bb, 0, none⟩), sl6, sl7, sl8, sl9, sl10, sl11, sl12, sl13, sl14, sl15, sl16, sl17, sl18, sl19, sl20, sl21, sl22, sl23, sl24, sl25, sl26, sl27, sl28, sl29, sl30, sl31, sl32, sl33, sl34, sl35, sl36, sl37, sl38, sl39, sl40, sl41, sl42, sl43, sl44, sl45, sl46, sl47, sl48, sl49, sl50, sl51, sl52, sl53, sl54, sl55, sl56, sl57, sl58, sl59, sl60, sl61, sl62, sl63, sl64, sl65, sl66, sl67, sl68, sl69, sl70, sl71, sl72, sl73, sl74, sl75, sl76, sl77, sl78, sl79, sl80, sl81, sl82, sl83, sl84, sl85, sl86, sl87, sl88, sl89, sl90, sl91, sl92, sl93, sl94, sl95, sl96, sl97, sl98, sl99, sl100, sl101, sl102, sl103, sl104, sl105, sl106, sl107, sl108, sl109, sl110, sl111, sl112, sl113, sl114, sl115, sl116, sl117, sl118, sl119, sl120, sl121, sl122, sl123, sl124, sl125, sl126, sl127, sl128, sl129, sl130, sl131, sl132, sl133, sl134, sl135, sl136, sl137, sl138, sl139, sl140, sl141, sl142, sl143, sl144, sl145, sl146, sl147, sl148, sl149, sl150, sl151, sl152, sl153, sl154, sl155, sl156, sl157, sl158, sl159, sl160, sl161, sl162, sl163, sl164, sl165, sl166, sl167, sl168, sl169, sl170, sl171, sl172, sl173, sl174, sl175, sl176, sl177, sl178, sl179, sl180, sl181, sl182, sl183, sl184, sl185], []⟩ w := by
 conv => arg 4; dsimp only
 conv => arg 2; whnf
 have HEX := hide hexit
 have HC := hide hc
 have HS := hide hS
 have HPO := hide hPO
 have HCALL := hide hcall
 have invM : ∀ {t : Bool} {W : World}, (match t with | false => Mod No w W | true => Mod S w W ∧ Post W) → Mod S w W := fun {t W} h => by
  cases t
  ·exact h.mono (fun _ _ x => x.elim)
  ·exact h.1
 have invA : ∀ {t : Bool} {W W' : World}, (match t with | false => Mod No w W | true => Mod S w W ∧ Post W) → Mod No W W' → (match t with | false => Mod No w W' | true => Mod S w W' ∧ Post W') := fun {t W W'} h hm => by
  cases t
  ·exact h.trans hm
  ·exact ⟨h.1.trans (hm.mono (fun _ _ x => x.elim)), hPO.no _ _ h.2 hm⟩
 have invB : ∀ {t : Bool} {W W' : World} {b : Nat} {cs : Array Value}, (match t with | false => Mod No w W | true => Mod S w W ∧ Post W) → Has W b cs 97 → w.heap.size ≤ b → Mod (fun k => k = b) W W' → (match t with | false => Mod No w W' | true => Mod S w W' ∧ Post W') := fun {t W W' b cs} h hb hl hm => by
  cases t
  ·exact h.trans' hm (fun k hk hl' => by omega)
  ·exact ⟨h.1.trans' hm (fun k hk hl' => by omega), hPO.box _ _ _ _ hl h.2 hb hm⟩
 have cells : ∀ {t : Bool} {W : World}, (match t with | false => Mod No w W | true => Mod S w W ∧ Post W) → W.cell? ⟨ob, 2, none⟩ = some (.pointer (some ⟨wb, 0, none⟩)) ∧ W.cell? ⟨ob, 4, none⟩ = some (.pointer (some ⟨tob, 0, none⟩)) ∧ W.cell? ⟨bb, 2, none⟩ = some (.int .i64 b0) ∧ W.cell? ⟨bb, 3, none⟩ = some (.int .i64 c0) := fun {t W} h => by
  have hm := invM h
  have k : ∀ (g o : Nat) (v : Value), ¬ S g → w.cell? ⟨g, o, none⟩ = some v → W.cell? ⟨g, o, none⟩ = some v := fun g o v hg hv => by
   have hlt := World.block_lt_of_cell? w _ hv
   rw [World.cell?_of_block (w := w) (hm.block _ hlt hg)]
   exact hv
  have no := fun (e : S ob) => (hS _ e).2.1 rfl
  have nb := fun (e : S bb) => (hS _ e).2.2 rfl
  exact ⟨k _ _ _ no hc.1, k _ _ _ no hc.2.1, k _ _ _ nb hc.2.2.1, k _ _ _ nb hc.2.2.2⟩
 clear hexit hc hS hPO hcall
 refine wp_region_C (n := 186) 12 (fun t W => match t with | false => Mod No w W | true => Mod S w W ∧ Post W) (StpF w D fre mo) (FB18 w D fre mo err ob bb wb tob b0 c0) (by kernel_rfl) rfl (by kernel_rfl) (fun i v s W W' hs h => h.stp i v s W W' hs) ?_ ?_ ?_ (Mod.refl No w).drew ⟨_, rfl⟩
 ·intro i o a W t hne ho hfr hI hd
  have hi : i < 19 := (Array.getElem?_eq_some_iff.1 ho).1
  have E1 : a.eval (.tmp 1) = .pointer (some ⟨ob, 0, none⟩) := hfr.rest 1 (by kernel_rfl)
  have E5 : a.tmps[5]?.getD undef = .pointer (some ⟨bb, 0, none⟩) := by simpa using hfr.rest 5 (by kernel_rfl)
  clear HEX hfr
  have hcases : i = 0 ∨ i = 1 ∨ i = 2 ∨ i = 3 ∨ i = 4 ∨ i = 5 ∨ i = 6 ∨ i = 7 ∨ i = 8 ∨ i = 9 ∨ i = 10 ∨ i = 11 ∨ i = 13 ∨ i = 14 ∨ i = 15 ∨ i = 16 ∨ i = 17 ∨ i = 18 := by omega
  rcases hcases with rfl | rfl | rfl | rfl | rfl | rfl | rfl | rfl | rfl | rfl | rfl | rfl | rfl | rfl | rfl | rfl | rfl | rfl
  all_goals
   replace ho := Option.some.inj (show some _ = some o from ho)
   subst ho
  ·refine wp_move_op _ rfl ?_
   exact ⟨_, rfl, hI, StpF.no (Mod.refl _ _), E1⟩
  ·have E140 : a.tmps[140]?.getD undef = .pointer (some ⟨ob, 0, none⟩) := by simpa using (show a.tmps.getD 140 undef = _ from hd ⟨0, .data⟩ (by simp) rfl)
   have HI := hide hI
   clear hd hI E1 E5 HC HCALL HS HPO
   go_simp
   first | exact unhide HI | exact ⟨_, rfl, unhide HI, StpF.no (Mod.refl _ _), rfl⟩ | exact ⟨unhide HI, StpF.no (Mod.refl _ _), rfl⟩ | exact ⟨unhide HI, StpF.no (Mod.refl _ _)⟩
  ·have E141 : a.tmps[141]?.getD undef = .pointer (some ⟨ob, 0, none⟩) := by simpa using (show a.tmps.getD 141 undef = _ from hd ⟨1, .data⟩ (by simp) rfl)
   have HI := hide hI
   clear hd hI E1 E5 HC HCALL HS HPO
   go_simp
   first | exact unhide HI | exact ⟨_, rfl, unhide HI, StpF.no (Mod.refl _ _), rfl⟩ | exact ⟨unhide HI, StpF.no (Mod.refl _ _), rfl⟩ | exact ⟨unhide HI, StpF.no (Mod.refl _ _)⟩
  ·have E142 : a.tmps[142]?.getD undef = .pointer (some ⟨ob, 2, none⟩) := by simpa using (show a.tmps.getD 142 undef = _ from hd ⟨2, .data⟩ (by simp) rfl)
   have c0 := (cells hI).1
   have HI := hide hI
   clear hd hI E1 E5 HC HCALL HS HPO
   go_simp
   first | exact unhide HI | exact ⟨_, rfl, unhide HI, StpF.no (Mod.refl _ _), rfl⟩ | exact ⟨unhide HI, StpF.no (Mod.refl _ _), rfl⟩ | exact ⟨unhide HI, StpF.no (Mod.refl _ _)⟩
  ·refine wp_move_op _ rfl ?_
   exact ⟨_, rfl, hI, StpF.no (Mod.refl _ _), E1⟩
  ·have E144 : a.tmps[144]?.getD undef = .pointer (some ⟨ob, 0, none⟩) := by simpa using (show a.tmps.getD 144 undef = _ from hd ⟨4, .data⟩ (by simp) rfl)
   have HI := hide hI
   clear hd hI E1 E5 HC HCALL HS HPO
   go_simp
   first | exact unhide HI | exact ⟨_, rfl, unhide HI, StpF.no (Mod.refl _ _), rfl⟩ | exact ⟨unhide HI, StpF.no (Mod.refl _ _), rfl⟩ | exact ⟨unhide HI, StpF.no (Mod.refl _ _)⟩
  ·have E145 : a.tmps[145]?.getD undef = .pointer (some ⟨ob, 0, none⟩) := by simpa using (show a.tmps.getD 145 undef = _ from hd ⟨5, .data⟩ (by simp) rfl)
   have HI := hide hI
   clear hd hI E1 E5 HC HCALL HS HPO
   go_simp
   first | exact unhide HI | exact ⟨_, rfl, unhide HI, StpF.no (Mod.refl _ _), rfl⟩ | exact ⟨unhide HI, StpF.no (Mod.refl _ _), rfl⟩ | exact ⟨unhide HI, StpF.no (Mod.refl _ _)⟩
  ·have E146 : a.tmps[146]?.getD undef = .pointer (some ⟨ob, 4, none⟩) := by simpa using (show a.tmps.getD 146 undef = _ from hd ⟨6, .data⟩ (by simp) rfl)
   have c0 := (cells hI).2.1
   have HI := hide hI
   clear hd hI E1 E5 HC HCALL HS HPO
   go_simp
   first | exact unhide HI | exact ⟨_, rfl, unhide HI, StpF.no (Mod.refl _ _), rfl⟩ | exact ⟨unhide HI, StpF.no (Mod.refl _ _), rfl⟩ | exact ⟨unhide HI, StpF.no (Mod.refl _ _)⟩
  ·have HI := hide hI
   clear hd hI E1 HC HCALL HS HPO
   go_simp
   first | exact unhide HI | exact ⟨_, rfl, unhide HI, StpF.no (Mod.refl _ _), rfl⟩ | exact ⟨unhide HI, StpF.no (Mod.refl _ _), rfl⟩ | exact ⟨unhide HI, StpF.no (Mod.refl _ _)⟩
  ·have E148 : a.tmps[148]?.getD undef = .pointer (some ⟨bb, 2, none⟩) := by simpa using (show a.tmps.getD 148 undef = _ from hd ⟨8, .data⟩ (by simp) rfl)
   have c0 := (cells hI).2.2.1
   have HI := hide hI
   clear hd hI E1 E5 HC HCALL HS HPO
   go_simp
   first | exact unhide HI | exact ⟨_, rfl, unhide HI, StpF.no (Mod.refl _ _), rfl⟩ | exact ⟨unhide HI, StpF.no (Mod.refl _ _), rfl⟩ | exact ⟨unhide HI, StpF.no (Mod.refl _ _)⟩
  ·have HI := hide hI
   clear hd hI E1 HC HCALL HS HPO
   go_simp
   first | exact unhide HI | exact ⟨_, rfl, unhide HI, StpF.no (Mod.refl _ _), rfl⟩ | exact ⟨unhide HI, StpF.no (Mod.refl _ _), rfl⟩ | exact ⟨unhide HI, StpF.no (Mod.refl _ _)⟩
  ·have E150 : a.tmps[150]?.getD undef = .pointer (some ⟨bb, 3, none⟩) := by simpa using (show a.tmps.getD 150 undef = _ from hd ⟨10, .data⟩ (by simp) rfl)
   have c0 := (cells hI).2.2.2
   have HI := hide hI
   clear hd hI E1 E5 HC HCALL HS HPO
   go_simp
   first | exact unhide HI | exact ⟨_, rfl, unhide HI, StpF.no (Mod.refl _ _), rfl⟩ | exact ⟨unhide HI, StpF.no (Mod.refl _ _), rfl⟩ | exact ⟨unhide HI, StpF.no (Mod.refl _ _)⟩
  ·have q0 : ∃ u, a.eval (.tmp 152) = .tuple #[bullV fre u mo, .int .i64 err] ∧ NOK w D W u := hd ⟨12, .data⟩ (by simp) rfl
   refine wp_move_op _ rfl ?_
   exact ⟨_, rfl, hI, StpF.no (Mod.refl _ _), q0⟩
  ·obtain ⟨u, q0, q1⟩ : ∃ u, a.tmps.getD 139 undef = .tuple #[bullV fre u mo, .int .i64 err] ∧ NOK w D W u := hd ⟨13, .data⟩ (by simp) rfl
   have q0 : a.tmps[139]?.getD undef = .tuple #[bullV fre u mo, .int .i64 err] := by simpa using q0
   unfold bullV at q0
   have Q1 := hide q1
   clear q1
   have HI := hide hI
   clear hd hI E1 E5 HC HCALL HS HPO
   go_simp
   exact ⟨_, rfl, unhide HI, StpF.no (Mod.refl _ _), u, rfl, unhide Q1⟩
  ·obtain ⟨u, q0, q1⟩ : ∃ u, a.tmps.getD 139 undef = .tuple #[bullV fre u mo, .int .i64 err] ∧ NOK w D W u := hd ⟨13, .data⟩ (by simp) rfl
   have q0 : a.tmps[139]?.getD undef = .tuple #[bullV fre u mo, .int .i64 err] := by simpa using q0
   unfold bullV at q0
   clear q1
   have HI := hide hI
   clear hd hI E1 E5 HC HCALL HS HPO
   go_simp
   first | exact unhide HI | exact ⟨_, rfl, unhide HI, StpF.no (Mod.refl _ _), rfl⟩ | exact ⟨unhide HI, StpF.no (Mod.refl _ _), rfl⟩ | exact ⟨unhide HI, StpF.no (Mod.refl _ _)⟩
  ·have mA : Mod No W (W.alloc (.cells #[.bool false, .slice none 0 0, .bool false] 97)) := (Mod.refl No W).alloc _
   have HI := hide (invA hI mA)
   have SS := hide (StpF.no (w := w) (D := D) (fre := fre) (mo := mo) mA)
   have FF := hide (show FB18 w D fre mo err ob bb wb tob b0 c0 16 (.pointer (some ⟨W.heap.size, 0, none⟩)) (fun _ => undef) (W.alloc (.cells #[.bool false, .slice none 0 0, .bool false] 97)) from ⟨W.heap.size, _, rfl, Has.new W _ _, rfl, (invM hI).size⟩)
   clear hd hI E1 E5 HC HCALL HS HPO mA
   go_simp
   exact ⟨_, rfl, unhide HI, unhide SS, unhide FF⟩
  ·obtain ⟨b, cs, q0, q1, q2, q3⟩ : ∃ b cs, a.eval (.tmp 18) = .pointer (some ⟨b, 0, none⟩) ∧ Has W b cs 97 ∧ cs.size = 3 ∧ w.heap.size ≤ b := hd ⟨16, .data⟩ (by simp) rfl
   obtain ⟨u, p0, p1⟩ : ∃ u, a.eval (.tmp 153) = bullV fre u mo ∧ NOK w D W u := hd ⟨14, .data⟩ (by simp) rfl
   obtain ⟨au, cu, rfl⟩ := slice_of_owns p1.1
   refine wp_store_mid _ _ _ rfl b 0 (bulC fre (.slice au D.length cu) mo) q0 p0 (q1.there 0 3 (by omega)) (by kernel_rfl) (by simp [bulC, Value.oneCell']) ?_
   have hN : Has (W.setCells b 0 (bulC fre (.slice au D.length cu) mo).toList) b (bulC fre (.slice au D.length cu) mo) 97 := by
    have := Has.setCells (bulC fre (.slice au D.length cu) mo).toList 0 W _ q1
    rwa [setAll_whole _ _ (by rw [q2]; rfl)] at this
   have hM : Mod (fun k => k = b) W (W.setCells b 0 (bulC fre (.slice au D.length cu) mo).toList) := Mod.setCells (S := fun k => k = b) (.inl rfl) _ 0 W (Mod.refl _ _)
   have hS : StpF w D fre mo W (W.setCells b 0 (bulC fre (.slice au D.length cu) mo).toList) := by
    have hhas : ∀ b' cs T', T' ≠ 97 → Has W b' cs T' → Has (W.setCells b 0 (bulC fre (.slice au D.length cu) mo).toList) b' cs T' := fun b' cs T' hT h => hM.has h (h.ne q1 hT)
    have hR : NOK w D (W.setCells b 0 (bulC fre (.slice au D.length cu) mo).toList) (.slice au D.length cu) := by
     refine ⟨?_, p1.2⟩
     obtain ⟨q, h1 | ⟨g, cap, cur, hv, hb, hh, r⟩⟩ := p1.1
     ·exact ⟨q, .inl h1⟩
     ·exact ⟨q, .inr ⟨g, cap, cur, hv, hb, hhas _ _ _ (by decide) hh, r⟩⟩
    refine ⟨fun b' cs T' hT _ h => hhas b' cs T' hT h, fun b' cs' _ h hs => ?_⟩
    by_cases e : b' = b
    ·subst e
     exact ⟨_, hN, rfl, .inr ⟨_, rfl, hR⟩⟩
    ·exact ⟨cs', hM.has h e, hs, .inl rfl⟩
   refine ⟨undef, rfl, invB hI q1 q3 hM, hS, b, ?_, q3, _, hN, rfl, _, rfl, p1.stp hS⟩
   exact (maskv_dep (k := 16) rfl (by kernel_rfl)).trans q0
  ·have q0 : a.eval (.tmp 154) = .int .i64 err := hd ⟨15, .data⟩ (by simp) rfl
   refine wp_assign_op _ rfl ?_
   exact ⟨_, rfl, hI, StpF.no (Mod.refl _ _), q0⟩
 ·intro o a W ho hfr hI hd
  replace ho := Option.some.inj (show some _ = some o from ho)
  subst ho
  have hI : Mod No w W := hI
  have q0 : a.eval (.tmp 143) = .pointer (some ⟨wb, 0, none⟩) := hd ⟨3, .data⟩ (by simp) rfl
  have q1 : a.eval (.tmp 147) = .pointer (some ⟨tob, 0, none⟩) := hd ⟨7, .data⟩ (by simp) rfl
  have q2 : a.eval (.tmp 149) = .int .i64 b0 := hd ⟨9, .data⟩ (by simp) rfl
  have q3 : a.eval (.tmp 151) = .int .i64 c0 := hd ⟨11, .data⟩ (by simp) rfl
  refine wp_call_op 40 _ _ rfl #[.pointer (some ⟨wb, 0, none⟩), .pointer (some ⟨tob, 0, none⟩), .int .i64 b0, .int .i64 c0] (by simp [q0, q1, q2, q3]) (fun W => by kernel_rfl) ((unhide HCALL) W hI) ?_
  rintro e' w' ⟨⟨u, rfl, hu⟩, hm, hp⟩
  exact ⟨_, rfl, _, rfl, ⟨(hI.mono (fun _ _ x => x.elim)).trans hm, hp⟩, StpF.mod hm (fun k hk => ((unhide HS) k hk).1), u, rfl, hu⟩
 ·intro a W hfr hI hF
  obtain ⟨b, h1, h2, cs, h3, h4, u, rfl, h6⟩ := hF 17 (by decide)
  have h1 : a.tmps.getD 18 undef = .pointer (some ⟨b, 0, none⟩) := (maskv_dep (k := 16) rfl (by kernel_rfl)).symm.trans h1
  have h13 : a.tmps.getD 19 undef = .int .i64 err := hF 18 (by decide)
  have hl2 := hfr.lit
  rw [hl2]
  clear hl2
  simp only [List.filterMap_cons, List.filterMap_nil, List.foldl_cons, List.foldl_nil, List.setIfInBounds_toArray, List.set_cons_zero, List.set_cons_succ, h1, h13]
  exact (unhide HEX) _ _ _ _ _ _ _ _ _ _ _ _ _ _ _ _ b u W ⟨hI.1, hI.2, h3, h6, h2⟩
end Go.Proofs.YthhibagcpjeihaaGreat
