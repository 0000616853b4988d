import Derived.Test.YthhibagcpjeihaaLKpt4ToRFacts3
import Derived.Deep.RegionHeld2
import Derived.Deep.CutRange
namespace Go.Proofs.Ythhibagcpjeihaa
open Go.RowKit
open M
set_option linter.unusedVariables false
set_option linter.unusedSimpArgs false
set_option maxRecDepth 100000
set_option maxHeartbeats 8000000
attribute [local go_sem] guardA
def inLoopK : Code → Code
 | .loop (.seq _ (.seq (.block _ c) _)) => c
 | _ => .skip
def firstLoopK : Code → Code
 | .loop c => .loop c
 | .seq a c => match firstLoopK a with
  | .loop x => .loop x
  | _ => firstLoopK c
 | .block _ c => firstLoopK c
 | .scope c => firstLoopK c
 | _ => .skip
def dropSeqK : Nat → Code → Code
 | 0, c => c
 | n + 1, .seq _ c => dropSeqK n c
 | _, c => c
noncomputable def keptRest (n : Nat) : Code := dropSeqK n (inLoopK (firstLoopK (Try.f8.body.getD .skip)))
def tick9 : Cmd := ⟨8, 0, 0, 0, 0, 0, 0, 0, 9, ⟨0, 0, 0, 0, 0, 0, 0, 0⟩⟩
theorem NewK.tick {W w' : World} {kb g N : Nat} {now : Int} {fl : Fls} (h : NewK W w' kb g N now fl) (hN : N + 1 ≤ 1000000000) :
  Calls Try.prog 26 #[.pointer (some ⟨kb, 0, none⟩), .agg #[.int .i64 8, .int .i64 0, .int .i64 0, .int .i64 0, .int .i64 0, .int .i64 0, .int .i64 0, .int .i64 0, .int .i64 9, .int .i64 0, .int .i64 0, .int .i64 0, .int .i64 0, .int .i64 0, .int .i64 0, .int .i64 0]] w' fun e w2 => ∃ v, e = .returned (.int .i64 v) ∧ Mod No W w2 := by
 refine (h.do hN tick9).mono ?_
 rintro e w2 ⟨rfl, q⟩
 exact ⟨_, rfl, q.mod⟩
theorem wpList_load_hasg {P : Program} {ops : Array Oper} {rest : List Oper} {op : Oper} {a : Act} {w : World} {Q : Exit → Act → World → Prop} (hw : Region.wanted op (yielded ops a.tmps) = true) (ty : TypeId) (x : Operand) (ho : op.op = .load ty x)
  (b o : Nat) (hx : a.eval x = .pointer (some ⟨b, o, none⟩)) (cs : Array Value) (T : TypeId) (hb : Has w b cs T) (l : Array Value) (hl : ∀ j v, l.toList[j]? = some v → cs[o + j]? = some v)
  (hu : (P.underlying ty).map (·.isRow) = some true) (hi : (P.info? ty).map (·.size) = some l.size)
  (h : wpList P ops Q rest (a.put op.dst (.agg l)) w) : wpList P ops Q (op :: rest) a w := by
 cases hd : P.underlying ty with
 | none => rw [hd] at hu; simp at hu
 | some d =>
  rw [hd] at hu
  unfold wpList
  rw [if_pos hw]
  exact .inl (wp_load_mid ty x ho b o hx l.toList d (hb.range o _ hl) hd (by simpa using hu) (by simpa using hi) (by simpa using h))
def FK39 (tb b off i n cap : Nat) (ka : Option Addr) (kl kc : Nat) (sp : Int) (q : Nat) (v : Value) (s : Nat → Value) (W : World) : Prop :=
 match q with
 | 0 => v = .pointer (some ⟨tb, 0, none⟩)
 | 1 => v = .slice (some ⟨b, off, none⟩) n cap
 | 2 => v = .int .i64 (i : Nat)
 | 3 => v = .pointer (some ⟨b, off + i * 21, none⟩)
 | 4 => v = .pointer (some ⟨b, off + i * 21 + 18, none⟩)
 | 5 => v = .slice ka kl kc
 | 6 => v = .slice (some ⟨b, off, none⟩) n cap
 | 7 => v = .int .i64 (i : Nat)
 | 8 => v = .pointer (some ⟨b, off + i * 21, none⟩)
 | 9 => v = .pointer (some ⟨b, off + i * 21 + 19, none⟩)
 | 10 => v = .int .u8 sp
 | _ => True
theorem FK39.keep {tb b off i n cap : Nat} {ka : Option Addr} {kl kc : Nat} {sp : Int} (q : Nat) (v : Value) (s : Nat → Value) (W W' : World) (h : FK39 tb b off i n cap ka kl kc sp q v s W) : FK39 tb b off i n cap ka kl kc sp q v s W' := by
 unfold FK39 at h ⊢
 split at h <;> exact h
theorem kept_r39 {w W : World} {tb b off i n cap kl kc : Nat} {ka : Option Addr} {sp : Int} (Post : World → Prop) (hin : i < n) (hn : n ≤ 1048576) (hbl : b < w.heap.size) (hcell : ∀ W', Mod No w W' → W'.cell? ⟨b, off + i * 21 + 18, none⟩ = some (.slice ka kl kc) ∧ W'.cell? ⟨b, off + i * 21 + 19, none⟩ = some (.int .u8 sp))
  (h0 : Mod No w W) (hpm : ∀ W', Post W' → Mod No w W') (hcall : ∀ W', Mod No W W' → Calls Try.prog 31 #[.pointer (some ⟨tb, 0, none⟩), .slice ka kl kc, .int .u8 sp] W' fun e W2 => e = .returned (.tuple #[]) ∧ Post W2) (Q0 : Exit → Act → World → Prop) (sl1 sl2 sl4 sl5 sl6 sl7 sl8 sl10 sl11 sl12 sl13 sl14 sl15 sl16 sl17 sl18 sl19 sl20 sl21 sl22 sl23 sl24 sl25 sl26 sl27 sl28 sl29 sl30 sl31 sl32 sl33 sl34 sl35 sl36 sl37 sl38 sl39 sl40 sl41 sl42 sl43 sl44 sl45 sl46 sl47 sl48 sl49 sl50 sl51 sl52 sl53 sl54 sl55 sl56 sl57 sl58 sl59 sl60 sl61 sl62 sl63 sl64 sl65 sl66 sl67 sl68 sl69 sl70 sl71 sl72 sl73 sl74 sl75 sl76 sl77 sl78 sl79 sl80 sl81 sl82 sl83 sl84 sl85 sl86 sl87 sl88 sl89 sl90 sl91 sl92 sl93 sl94 sl95 sl96 sl97 sl98 sl99 sl100 sl101 sl102 sl103 sl104 sl105 sl106 sl107 sl108 sl109 sl110 sl111 sl112 sl113 sl114 sl115 sl116 sl117 sl118 sl119 sl120 sl121 sl122 sl123 sl124 sl125 sl126 sl127 sl128 sl129 sl130 sl131 sl132 sl133 sl134 sl135 sl136 sl137 sl138 sl139 sl140 sl141 sl142 sl143 sl144 sl145 sl146 sl147 sl148 sl149 sl150 sl151 sl152 sl153 sl154 sl155 sl156 sl157 sl158 sl159 sl160 sl161 sl162 sl163 sl164 sl165 sl166 sl167 sl168 sl169 sl170 sl171 sl172 sl173 sl174 sl175 sl176 sl177 sl178 sl179 sl180 sl181 sl182 sl183 sl184 sl185 sl186 sl187 sl188 sl189 sl190 sl191 sl192 sl193 sl194 sl195 sl196 sl197 sl198 sl199 sl200 sl201 sl202 sl203 sl204 sl205 sl206 sl207 sl208 sl209 sl210 sl211 sl212 sl213 sl214 sl215 sl216 sl217 sl218 sl219 sl220 sl221 sl222 sl223 sl224 sl225 sl226 sl227 sl228 sl229 sl230 sl231 sl232 sl233 sl234 sl235 sl236 sl237 sl238 sl239 sl240 sl241 sl242 sl243 sl244 sl245 sl246 sl247 sl248 sl249 : Value)
  (hexit : ∀ (x173 x174 x175 x176 x177 x178 x179 x180 x181 x182 x183 x184 : Value) (W' : World), Hid (Post W') → Q0 .normal ⟨#[.slice (some ⟨b, off, none⟩) n cap, sl1, sl2, .pointer (some ⟨tb, 0, none⟩), sl4, sl5, sl6, sl7, sl8, .int .i64 (i : Nat), sl10, sl11, sl12, sl13, sl14, sl15, sl16, sl17, sl18, sl19, sl20, sl21, sl22, sl23, sl24, sl25, sl26, sl27, sl28, sl29, sl30, sl31, sl32, sl33, sl34, sl35, sl36, sl37, sl38, sl39, sl40, sl41, sl42, sl43, sl44, sl45, sl46, sl47, sl48, sl49, sl50, sl51, sl52, sl53, sl54, sl55, sl56, sl57, sl58, sl59, sl60, sl61, sl62, sl63, sl64, sl65, sl66, sl67, sl68, sl69, sl70, sl71, sl72, sl73, sl74, sl75, sl76, sl77, sl78, sl79, sl80, sl81, sl82, sl83, sl84, sl85, sl86, sl87, sl88, sl89, sl90, sl91, sl92, sl93, sl94, sl95, sl96, sl97, sl98, sl99, sl100, sl101, sl102, sl103, sl104, sl105, sl106, sl107, sl108, sl109, sl110, sl111, sl112, sl113, sl114, sl115, sl116, sl117, sl118, sl119, sl120, sl121, sl122, sl123, sl124, sl125, sl126, sl127, sl128, sl129, sl130, sl131, sl132, sl133, sl134, sl135, sl136, sl137, sl138, sl139, sl140, sl141, sl142, sl143, sl144, sl145, sl146, sl147, sl148, sl149, sl150, sl151, sl152, sl153, sl154, sl155, sl156, sl157, sl158, sl159, sl160, sl161, sl162, sl163, sl164, sl165, sl166, sl167, sl168, sl169, sl170, sl171, sl172, x173, x174, x175, x176, x177, x178, x179, x180, x181, x182, x183, x184, sl185, sl186, sl187, sl188, sl189, sl190, sl191, sl192, sl193, sl194, sl195, sl196, sl197, sl198, sl199, sl200, sl201, sl202, sl203, sl204, sl205, sl206, sl207, sl208, sl209, sl210, sl211, sl212, sl213, sl214, sl215, sl216, sl217, sl218, sl219, sl220, sl221, sl222, sl223, sl224, sl225, sl226, sl227, sl228, sl229, sl230, sl231, sl232, sl233, sl234, sl235, sl236, sl237, sl238, sl239, sl240, sl241, sl242, sl243, sl244, sl245, sl246, sl247, sl248, sl249], []⟩ W') :
  Code.wp Try.prog (regionNo (Try.f8.body.getD .skip) 39) Q0 ⟨#[.slice (some ⟨b, off, none⟩) n cap, sl1, sl2, .pointer (some ⟨tb, 0, none⟩), sl4, sl5, sl6, sl7, sl8, .int .i64 (i : Nat), sl10, sl11, sl12, sl13, sl14, sl15, sl16, sl17, sl18, sl19, sl20, sl21, sl22, sl23, sl24, sl25, sl26, sl27, sl28, sl29, sl30, sl31, sl32, sl33, sl34, sl35, sl36, sl37, sl38, sl39, sl40, sl41, sl42, sl43, sl44, sl45, sl46, sl47, sl48, sl49, sl50, sl51, sl52, sl53, sl54, sl55, sl56, sl57, sl58, sl59, sl60, sl61, sl62, sl63, sl64, sl65, sl66, sl67, sl68, sl69, sl70, sl71, sl72, sl73, sl74, sl75, sl76, sl77, sl78, sl79, sl80, sl81, sl82, sl83, sl84, sl85, sl86, sl87, sl88, sl89, sl90, sl91, sl92, sl93, sl94, sl95, sl96, sl97, sl98, sl99, sl100, sl101, sl102, sl103, sl104, sl105, sl106, sl107, sl108, sl109, sl110, sl111, sl112, sl113, sl114, sl115, sl116, sl117, sl118, sl119, sl120, sl121, sl122, sl123, sl124, sl125, sl126, sl127, sl128, sl129, sl130, sl131, sl132, sl133, sl134, sl135, sl136, sl137, sl138, sl139, sl140, sl141, sl142, sl143, sl144, sl145, sl146, sl147, sl148, sl149, sl150, sl151, sl152, sl153, sl154, sl155, sl156, sl157, sl158, sl159, sl160, sl161, sl162, sl163, sl164, sl165, sl166, sl167, sl168, sl169, sl170, sl171, sl172, sl173, sl174, sl175, sl176, sl177, sl178, sl179, sl180, sl181, sl182, sl183, sl184, sl185, sl186, sl187, sl188, sl189, sl190, sl191, sl192, sl193, sl194, sl195, sl196, sl197, sl198, sl199, sl200, sl201, sl202, sl203, sl204, sl205, sl206, sl207, sl208, sl209, sl210, sl211, sl212, sl213, sl214, sl215, sl216, sl217, sl218, sl219, sl220, sl221, sl222, sl223, sl224, sl225, sl226, sl227, sl228, sl229, sl230, sl231, sl232, sl233, sl234, sl235, sl236, sl237, sl238, sl239, sl240, sl241, sl242, sl243, sl244, sl245, sl246, sl247, sl248, sl249], []⟩ W := by
 conv => arg 4; dsimp only
 conv => arg 2; whnf
 have HEX := hide hexit
 have HCALL := hide hcall
 have hini : (i : Int) < (n : Int) := by omega
 have hi0 : (0 : Int) ≤ i := by omega
 have cells : ∀ {t : Bool} {W' : World}, (match t with | false => Mod No W W' | true => Post W') → Mod No w W' := fun {t W'} h => by
  cases t
  ·exact h0.trans h
  ·exact hpm _ h
 clear hexit hcall
 refine wp_region_C (n := 250) 11 (fun t W' => match t with | false => Mod No W W' | true => Post W') (fun _ _ => True) (FK39 tb b off i n cap ka kl kc sp) (by kernel_rfl) rfl (by kernel_rfl) (fun q v s W W' _ h => h.keep q v s W W') ?_ ?_ ?_ (Mod.refl No W).drew ⟨_, rfl⟩
 ·intro q o a W' t hne ho hfr hI hd
  have hi : q < 12 := (Array.getElem?_eq_some_iff.1 ho).1
  have E0 : a.eval (.tmp 0) = .slice (some ⟨b, off, none⟩) n cap := hfr.rest 0 (by kernel_rfl)
  have E3 : a.eval (.tmp 3) = .pointer (some ⟨tb, 0, none⟩) := hfr.rest 3 (by kernel_rfl)
  have E9 : a.eval (.tmp 9) = .int .i64 (i : Nat) := hfr.rest 9 (by kernel_rfl)
  have hm := cells hI
  have hcl := hcell _ hm
  have bl : b < W'.heap.size := Nat.lt_of_lt_of_le hbl hm.size
  clear HEX hfr
  have hcases : q = 0 ∨ q = 1 ∨ q = 2 ∨ q = 3 ∨ q = 4 ∨ q = 5 ∨ q = 6 ∨ q = 7 ∨ q = 8 ∨ q = 9 ∨ q = 10 := by omega
  rcases hcases with rfl | rfl | rfl | rfl | rfl | rfl | rfl | rfl | rfl | rfl | rfl
  all_goals
   replace ho := Option.some.inj (show some _ = some o from ho)
   subst ho
  ·exact wp_move_op _ rfl ⟨_, rfl, hI, trivial, E3⟩
  ·exact wp_move_op _ rfl ⟨_, rfl, hI, trivial, E0⟩
  ·exact wp_move_op _ rfl ⟨_, rfl, hI, trivial, E9⟩
  ·have q1 : a.tmps[174]?.getD undef = .slice (some ⟨b, off, none⟩) n cap := by simpa using (show a.tmps.getD 174 undef = _ from hd ⟨1, .data⟩ (by simp) rfl)
   have q2 : a.tmps[175]?.getD undef = .int .i64 (i : Nat) := by simpa using (show a.tmps.getD 175 undef = _ from hd ⟨2, .data⟩ (by simp) rfl)
   have HI := hide hI
   clear hd hI hcl hm
   go_simp
   first | exact unhide HI | exact ⟨_, rfl, unhide HI, rfl⟩ | exact ⟨_, rfl, unhide HI⟩ | exact ⟨unhide HI, rfl⟩ | exact ⟨unhide HI, trivial, rfl⟩
  ·have q1 : a.tmps[176]?.getD undef = .pointer (some ⟨b, off + i * 21, none⟩) := by simpa using (show a.tmps.getD 176 undef = _ from hd ⟨3, .data⟩ (by simp) rfl)
   have HI := hide hI
   clear hd hI hcl hm
   go_simp
   first | exact unhide HI | exact ⟨_, rfl, unhide HI, rfl⟩ | exact ⟨_, rfl, unhide HI⟩ | exact ⟨unhide HI, rfl⟩ | exact ⟨unhide HI, trivial, rfl⟩
  ·have q1 : a.tmps[177]?.getD undef = .pointer (some ⟨b, off + i * 21 + 18, none⟩) := by simpa using (show a.tmps.getD 177 undef = _ from hd ⟨4, .data⟩ (by simp) rfl)
   have c18 := hcl.1
   have HI := hide hI
   clear hd hI hcl hm
   go_simp
   first | exact unhide HI | exact ⟨_, rfl, unhide HI, rfl⟩ | exact ⟨_, rfl, unhide HI⟩ | exact ⟨unhide HI, rfl⟩ | exact ⟨unhide HI, trivial, rfl⟩
  ·exact wp_move_op _ rfl ⟨_, rfl, hI, trivial, E0⟩
  ·exact wp_move_op _ rfl ⟨_, rfl, hI, trivial, E9⟩
  ·have q1 : a.tmps[179]?.getD undef = .slice (some ⟨b, off, none⟩) n cap := by simpa using (show a.tmps.getD 179 undef = _ from hd ⟨6, .data⟩ (by simp) rfl)
   have q2 : a.tmps[180]?.getD undef = .int .i64 (i : Nat) := by simpa using (show a.tmps.getD 180 undef = _ from hd ⟨7, .data⟩ (by simp) rfl)
   have HI := hide hI
   clear hd hI hcl hm
   go_simp
   first | exact unhide HI | exact ⟨_, rfl, unhide HI, rfl⟩ | exact ⟨_, rfl, unhide HI⟩ | exact ⟨unhide HI, rfl⟩ | exact ⟨unhide HI, trivial, rfl⟩
  ·have q1 : a.tmps[181]?.getD undef = .pointer (some ⟨b, off + i * 21, none⟩) := by simpa using (show a.tmps.getD 181 undef = _ from hd ⟨8, .data⟩ (by simp) rfl)
   have HI := hide hI
   clear hd hI hcl hm
   go_simp
   first | exact unhide HI | exact ⟨_, rfl, unhide HI, rfl⟩ | exact ⟨_, rfl, unhide HI⟩ | exact ⟨unhide HI, rfl⟩ | exact ⟨unhide HI, trivial, rfl⟩
  ·have q1 : a.tmps[182]?.getD undef = .pointer (some ⟨b, off + i * 21 + 19, none⟩) := by simpa using (show a.tmps.getD 182 undef = _ from hd ⟨9, .data⟩ (by simp) rfl)
   have c19 := hcl.2
   have HI := hide hI
   clear hd hI hcl hm
   go_simp
   first | exact unhide HI | exact ⟨_, rfl, unhide HI, rfl⟩ | exact ⟨_, rfl, unhide HI⟩ | exact ⟨unhide HI, rfl⟩ | exact ⟨unhide HI, trivial, rfl⟩
 ·intro o a W' ho hfr hI hd
  replace ho := Option.some.inj (show some _ = some o from ho)
  subst ho
  have hI : Mod No W W' := hI
  have q0 : a.eval (.tmp 173) = .pointer (some ⟨tb, 0, none⟩) := hd ⟨0, .data⟩ (by simp) rfl
  have q1 : a.eval (.tmp 178) = .slice ka kl kc := hd ⟨5, .data⟩ (by simp) rfl
  have q2 : a.eval (.tmp 183) = .int .u8 sp := hd ⟨10, .data⟩ (by simp) rfl
  refine wp_call_op 31 _ _ rfl #[.pointer (some ⟨tb, 0, none⟩), .slice ka kl kc, .int .u8 sp] (by simp [q0, q1, q2]) (fun W => by kernel_rfl) ((unhide HCALL) W' hI) ?_
  rintro e' w' ⟨rfl, hp⟩
  exact ⟨_, rfl, _, rfl, hp, trivial, trivial⟩
 ·intro a W' hfr hI hF
  have hl2 := hfr.lit
  rw [hl2]
  clear hl2
  simp only [List.filterMap_cons, List.filterMap_nil, List.foldl_cons, List.foldl_nil, List.setIfInBounds_toArray, List.set_cons_zero, List.set_cons_succ]
  exact (unhide HEX) _ _ _ _ _ _ _ _ _ _ _ _ W' hI
theorem kept_c {w W : World} {tb bb pb i n cap b off kc : Nat} {kind fuse sp : Int} {fall : Bool} {keep : List Int} {ka : Option Addr} {died : Bool} {now na : Int} {fl fa : Fls} (HCC : Hid (∀ W, Mod No w W → W.cell? ⟨b, off + i * 21 + 16, none⟩ = some (.int .i64 kind) ∧ W.cell? ⟨b, off + i * 21 + 17, none⟩ = some (.int .i64 fuse) ∧ W.cell? ⟨b, off + i * 21 + 18, none⟩ = some (.slice ka keep.length kc) ∧ W.cell? ⟨b, off + i * 21 + 19, none⟩ = some (.int .u8 sp) ∧ W.cell? ⟨b, off + i * 21 + 20, none⟩ = some (.bool fall)))
  (hkl : keep.length ≤ 9223372036854775807) (HK : Hid (Reads w (.slice ka keep.length kc) keep.length (keep.map (Value.int .i64)))) (HKO : Hid (0 < keep.length → ∀ k, (Value.slice ka keep.length kc).ownBlock = some k → k < w.heap.size)) (hbl : b < w.heap.size) (hin : i < n) (hn : n ≤ 1048576) (Q0 : Exit → Act → World → Prop)
  (H : Hid (KeC false w W tb (i + 1 + 1) bb pb died now fl na fa)) (sl1 sl2 sl4 sl6 sl7 sl8 sl11 sl12 sl15 sl16 sl17 sl18 sl19 sl20 sl21 sl22 sl23 sl24 sl25 sl26 sl27 sl28 sl29 sl30 sl31 sl32 sl33 sl34 sl35 sl36 sl37 sl38 sl39 sl40 sl41 sl42 sl43 sl44 sl45 sl46 sl47 sl48 sl49 sl50 sl51 sl52 sl53 sl54 sl55 sl56 sl57 sl58 sl59 sl60 sl61 sl62 sl63 sl64 sl65 sl66 sl67 sl68 sl69 sl70 sl71 sl72 sl73 sl74 sl75 sl76 sl77 sl78 sl79 sl80 sl81 sl82 sl83 sl84 sl85 sl86 sl87 sl88 sl89 sl90 sl91 sl92 sl93 sl94 sl95 sl96 sl97 sl98 sl99 sl100 sl101 sl102 sl103 sl104 sl105 sl106 sl107 sl108 sl109 sl110 sl111 sl112 sl113 sl114 sl115 sl116 sl117 sl118 sl119 sl120 sl121 sl122 sl123 sl124 sl125 sl126 sl127 sl128 sl129 sl130 sl131 sl132 sl133 sl134 sl135 sl136 sl137 sl138 sl139 sl140 sl141 sl142 sl143 sl144 sl145 sl146 sl147 sl148 sl149 sl150 sl151 sl152 sl153 sl154 sl155 sl156 sl157 sl158 sl159 sl160 sl161 sl162 sl163 sl164 sl165 sl166 sl167 sl168 sl169 sl170 sl171 sl172 sl173 sl174 sl175 sl176 sl177 sl178 sl179 sl180 sl181 sl182 sl183 sl184 sl185 sl186 sl187 sl188 sl189 sl190 sl191 sl192 sl193 sl194 sl195 sl196 sl197 sl198 sl199 sl200 sl201 sl202 sl203 sl204 sl205 sl206 sl207 sl208 sl209 sl210 sl211 sl212 sl213 sl214 sl215 sl216 sl217 sl218 sl219 sl220 sl221 sl222 sl223 sl224 sl225 sl226 sl227 sl228 sl229 sl230 sl231 sl232 sl233 sl234 sl235 sl236 sl237 sl238 sl239 sl240 sl241 sl242 sl243 sl244 sl245 sl246 sl247 sl248 sl249 : Value)
  (hno : ∀ (x12 x20 x21 x22 x173 x174 x175 x176 x177 x178 x179 x180 x181 x182 x183 x184 x185 x186 x187 x188 x189 x190 x191 x192 x193 x194 x195 x196 x197 x198 x199 x200 x201 x202 x203 x204 x205 x206 x207 x208 x209 x210 x211 x212 x213 x214 x215 x216 x217 x218 x219 x220 x221 x222 x223 x224 x225 x226 x227 x228 x229 x230 x231 x232 x233 x234 x235 x236 x237 x238 x239 x240 x241 x242 x243 x244 x245 x246 x247 x248 : Value) (tb' kb' : Nat) (now' : Int) (fl' : Fls) (wx : World), Hid (KeI w wx kb' tb' (i + 1) now' fl') → Q0 .normal ⟨#[.slice (some ⟨b, off, none⟩) n cap, sl1, sl2, .pointer (some ⟨tb', 0, none⟩), .pointer (some ⟨kb', 0, none⟩), .bool true, sl6, sl7, sl8, .int .i64 (i : Nat), .pointer (some ⟨bb, 0, none⟩), sl11, x12, .bool died, .pointer (some ⟨pb, 0, none⟩), sl15, sl16, sl17, sl18, sl19, x20, x21, x22, sl23, sl24, sl25, sl26, sl27, sl28, sl29, sl30, sl31, sl32, sl33, sl34, sl35, sl36, sl37, sl38, sl39, sl40, sl41, sl42, sl43, sl44, sl45, sl46, sl47, sl48, sl49, sl50, sl51, sl52, sl53, sl54, sl55, sl56, sl57, sl58, sl59, sl60, sl61, sl62, sl63, sl64, sl65, sl66, sl67, sl68, sl69, sl70, sl71, sl72, sl73, sl74, sl75, sl76, sl77, sl78, sl79, sl80, sl81, sl82, sl83, sl84, sl85, sl86, sl87, sl88, sl89, sl90, sl91, sl92, sl93, sl94, sl95, sl96, sl97, sl98, sl99, sl100, sl101, sl102, sl103, sl104, sl105, sl106, sl107, sl108, sl109, sl110, sl111, sl112, sl113, sl114, sl115, sl116, sl117, sl118, sl119, sl120, sl121, sl122, sl123, sl124, sl125, sl126, sl127, sl128, sl129, sl130, sl131, sl132, sl133, sl134, sl135, sl136, sl137, sl138, sl139, sl140, sl141, sl142, sl143, sl144, sl145, sl146, sl147, sl148, sl149, sl150, sl151, sl152, sl153, sl154, sl155, sl156, sl157, sl158, sl159, sl160, sl161, sl162, sl163, sl164, sl165, sl166, sl167, sl168, sl169, sl170, sl171, sl172, x173, x174, x175, x176, x177, x178, x179, x180, x181, x182, x183, x184, x185, x186, x187, x188, x189, x190, x191, x192, x193, x194, x195, x196, x197, x198, x199, x200, x201, x202, x203, x204, x205, x206, x207, x208, x209, x210, x211, x212, x213, x214, x215, x216, x217, x218, x219, x220, x221, x222, x223, x224, x225, x226, x227, x228, x229, x230, x231, x232, x233, x234, x235, x236, x237, x238, x239, x240, x241, x242, x243, x244, x245, x246, x247, x248, sl249], []⟩ wx) :
  Code.wp Try.prog (keptRest 10) Q0 ⟨#[.slice (some ⟨b, off, none⟩) n cap, sl1, sl2, .pointer (some ⟨tb, 0, none⟩), sl4, .bool true, sl6, sl7, sl8, .int .i64 (i : Nat), .pointer (some ⟨bb, 0, none⟩), sl11, sl12, .bool died, .pointer (some ⟨pb, 0, none⟩), sl15, sl16, sl17, sl18, sl19, sl20, sl21, sl22, sl23, sl24, sl25, sl26, sl27, sl28, sl29, sl30, sl31, sl32, sl33, sl34, sl35, sl36, sl37, sl38, sl39, sl40, sl41, sl42, sl43, sl44, sl45, sl46, sl47, sl48, sl49, sl50, sl51, sl52, sl53, sl54, sl55, sl56, sl57, sl58, sl59, sl60, sl61, sl62, sl63, sl64, sl65, sl66, sl67, sl68, sl69, sl70, sl71, sl72, sl73, sl74, sl75, sl76, sl77, sl78, sl79, sl80, sl81, sl82, sl83, sl84, sl85, sl86, sl87, sl88, sl89, sl90, sl91, sl92, sl93, sl94, sl95, sl96, sl97, sl98, sl99, sl100, sl101, sl102, sl103, sl104, sl105, sl106, sl107, sl108, sl109, sl110, sl111, sl112, sl113, sl114, sl115, sl116, sl117, sl118, sl119, sl120, sl121, sl122, sl123, sl124, sl125, sl126, sl127, sl128, sl129, sl130, sl131, sl132, sl133, sl134, sl135, sl136, sl137, sl138, sl139, sl140, sl141, sl142, sl143, sl144, sl145, sl146, sl147, sl148, sl149, sl150, sl151, sl152, sl153, sl154, sl155, sl156, sl157, sl158, sl159, sl160, sl161, sl162, sl163, sl164, sl165, sl166, sl167, sl168, sl169, sl170, sl171, sl172, sl173, sl174, sl175, sl176, sl177, sl178, sl179, sl180, sl181, sl182, sl183, sl184, sl185, sl186, sl187, sl188, sl189, sl190, sl191, sl192, sl193, sl194, sl195, sl196, sl197, sl198, sl199, sl200, sl201, sl202, sl203, sl204, sl205, sl206, sl207, sl208, sl209, sl210, sl211, sl212, sl213, sl214, sl215, sl216, sl217, sl218, sl219, sl220, sl221, sl222, sl223, sl224, sl225, sl226, sl227, sl228, sl229, sl230, sl231, sl232, sl233, sl234, sl235, sl236, sl237, sl238, sl239, sl240, sl241, sl242, sl243, sl244, sl245, sl246, sl247, sl248, sl249], []⟩ W := by
 conv => arg 4; dsimp only
 conv => arg 2; whnf
 have hini : (i : Int) < (n : Int) := by omega
 have hi0 : (0 : Int) ≤ i := by omega
 obtain ⟨c16, c17, c18, c19, c20⟩ := (unhide HCC) _ (unhide H).mod
 have bl : b < W.heap.size := Nat.lt_of_lt_of_le hbl (unhide H).mod.size
 have HFA := hide fun (W' : World) (hm : Mod No W W') => ((unhide H).still hm).fall keep kc ka sp hkl (unhide HK) (unhide HKO)
 go_upto_region 39 with fail
 go_cut [] from 173 to 184 (fun wx => Hid (KeC true w wx tb (i + 1 + 1) bb pb died now fl na fa))
 case first =>
  refine kept_r39 (fun W' => KeC true w W' tb (i + 1 + 1) bb pb died now fl na fa) hin hn hbl (fun W' hm => ⟨((unhide HCC) _ hm).2.2.1, ((unhide HCC) _ hm).2.2.2.1⟩) (unhide H).mod (fun W' h => h.mod) (fun W' hm => (unhide HFA) W' hm) _ _ _ _ _ _ _ _ _ _ _ _ _ _ _ _ _ _ _ _ _ _ _ _ _ _ _ _ _ _ _ _ _ _ _ _ _ _ _ _ _ _ _ _ _ _ _ _ _ _ _ _ _ _ _ _ _ _ _ _ _ _ _ _ _ _ _ _ _ _ _ _ _ _ _ _ _ _ _ _ _ _ _ _ _ _ _ _ _ _ _ _ _ _ _ _ _ _ _ _ _ _ _ _ _ _ _ _ _ _ _ _ _ _ _ _ _ _ _ _ _ _ _ _ _ _ _ _ _ _ _ _ _ _ _ _ _ _ _ _ _ _ _ _ _ _ _ _ _ _ _ _ _ _ _ _ _ _ _ _ _ _ _ _ _ _ _ _ _ _ _ _ _ _ _ _ _ _ _ _ _ _ _ _ _ _ _ _ _ _ _ _ _ _ _ _ _ _ _ _ _ _ _ _ _ _ _ _ _ _ _ _ _ _ _ _ _ _ _ _ _ _ _ _ _ _ _ _ _ _ _ _ _ _ _ _ _ _ _ _ _ _ _ _ _ _ _ _ ?_
  intros
  dsimp only
  go_wp2
  go_meet
  assumption
 case rest =>
  have H1 := hcut
  clear hcut HFA H c16 c17 c18 c19 c20 bl HCC HK HKO
  apply_assumption
  have HC1 := hide (unhide H1).copy
  go_wp2_with fail
  refine (unhide HC1).mono ?_
  rintro e w1 ⟨g1, rfl, m1, nw1, fw1, _, ho⟩
  have HO := hide ho
  clear ho HC1 m1
  go_wp2_with fail
  refine (unhide HO).mono ?_
  rintro e w2 ⟨kb1, rfl, nk⟩
  have HD := hide (nk.tick (by omega))
  clear nk HO
  go_wp2_with fail
  refine (unhide HD).mono ?_
  rintro e w3 ⟨v3, rfl, m3⟩
  have H3 := hide ((unhide H1).still m3)
  clear m3 H1 HD
  have HC2 := hide (unhide H3).copy
  go_wp2_with fail
  refine (unhide HC2).mono ?_
  rintro e w4 ⟨g2, rfl, m4, nw, fw, hw, ho⟩
  have HO := hide ho
  have HW := hide hw
  clear ho HC2 m4 hw
  go_wp2_with fail
  refine (unhide HO).mono ?_
  rintro e w5 ⟨kb2, rfl, nk⟩
  have N5 := hide nk
  have HT := hide nk.whole
  clear nk HO
  obtain ⟨cz, hz⟩ : ∃ cz, cz = allA nw fw := ⟨_, rfl⟩
  rw [show tab (allF nw fw) 15457 = cz from hz.symm] at HT
  have SZ := hide (show cz.size = 15457 by rw [hz]; exact allA_size _ _)
  have OZ := hide (show cz.all (·.oneCell') = true by rw [hz]; exact allA_one _ _)
  have HZ := hide hz
  clear hz
  go_wp2_with fail
  refine (unhide HT).mono ?_
  rintro e w6 ⟨rfl, m6⟩
  have N6 := hide ((unhide N5).still m6)
  have A6 := hide (Has.new w6 Try.zeroCells85 85)
  clear m6 HT N5
  go_wp2_with (refine wpList_store_has rfl 85 _ _ rfl w6.heap.size cz rfl rfl Try.zeroCells85 85 (unhide A6) ((unhide SZ).trans Try.zeroCells85_size.symm) (by rw [unhide SZ]; exact sizeA) (unhide OZ) ?_; intro w7 h7 m7)
  have N7 := hide ((unhide N6).fresh (((Mod.refl (fun k => k = w6.heap.size) w6).alloc _).trans m7))
  have B7 := hide h7
  clear h7 m7 A6 N6
  generalize w6.heap.size = ib at *
  clear w6
  have HC3 := hide (unhide N7).copy
  have H7 := hide ((unhide H3).still (unhide N7).mod)
  clear H3
  refine (unhide HC3).mono ?_
  rintro e w8 ⟨g3, rfl, m8, ho⟩
  have HO := hide ho
  clear ho HC3 m8 N7
  go_wp2_with fail
  refine (unhide HO).mono ?_
  rintro e w9 ⟨kb3, rfl, nk⟩
  have N9 := hide nk
  clear nk HO
  have H9 := hide ((unhide H7).still (unhide N9).mod)
  have B9 := hide ((unhide N9).mod.has (unhide B7) (fun x => x))
  go_upto_region 51 with fail
  have HWN := hide (fun (x : Wd w9) => ((unhide N9).still x.h).whole)
  rw [show tab (allF nw fw) 15457 = cz from (unhide HZ).symm] at HWN
  have LA := hide (load_wd (unhide B9) (unhide SZ))
  have HEQ : ∀ W, (Op.equalIn 10000 85 (.agg cz) (.agg cz)).run Try.prog W = .ok true W := fun W => by
   rw [unhide HZ]
   exact eq_self _ W
  go_cut [237] from 226 to 237 (fun s wx => s = .bool false ∧ Hid (Mod No w9 wx))
  case first =>
   haveI := wd_ne w9
   refine wp_region_wd (w0 := w9) (by kernel_rfl) (by kernel_rfl) (Mod.refl _ _) ?_
   repeat (go_big_quiet_step ((go_at_call 30; exact Calls.wd _ ((unhide HWN) _))))
   go_big_quiet_want
   refine quiet_loadA 85 (.tmp 22) rfl ib 0 (by simp [Act.eval]) (.agg cz) (by rintro W ⟨x, rfl⟩; exact (unhide LA) x) ?_
   simp [Act.put]
   go_big_quiet_on
   repeat (go_big_quiet_step (fail))
   refine wpQuiet_nil ?_
   rintro w10 ⟨⟨_, hm10⟩, rfl⟩
   have M10 := hide hm10
   clear hm10
   go_wp2
   go_meet
   exact ⟨rfl, M10⟩
  case rest =>
   obtain ⟨rfl, M10⟩ := hcut
   apply_assumption
   have I10 := hide (((unhide N9).still (unhide M10)).toE (unhide H7).mod)
   have H10 := hide ((unhide H9).still (unhide M10))
   have B10 := hide ((unhide M10).has (unhide B9) (fun x => x))
   clear HWN LA HEQ N9 H9 B9 B7 H7 M10
   have SA := hide (allA_size na fa)
   have S0 := hide (allA_size now fl)
   obtain ⟨r1, q1, p1⟩ := eq_allA nw na fw fa
   obtain ⟨r2, q2, p2⟩ := eq_allA nw now fw fl
   rw [← unhide HZ] at q1 q2 p1 p2
   have BA := hide (unhide H10).boxA
   have B0 := hide (unhide H10).box0
   have hww := unhide HW
   rw [← unhide HZ] at hww
   have P1 := hide p1
   have P2 := hide p2
   clear p1 p2 HW H10
   generalize allA na fa = ca at *
   generalize allA now fl = c0 at *
   have FIN : r1 = true ∨ (died = true ∧ r2 = true) := hww.imp (unhide P1).2 (fun q => ⟨q.1, (unhide P2).2 q.2⟩)
   clear hww P1 P2
   go_upto_region 53 with fail
   cases r1 with
   | true =>
    go_wp2_with (first
     |(refine wpList_load_has rfl 85 _ rfl ib 0 rfl cz 85 (unhide B10) cz (fun j v h => by rw [Nat.zero_add]; simpa using h) rowA (by rw [unhide SZ]; exact sizeA) ?_)
     |(refine wpList_load_has rfl 85 _ rfl pb 0 rfl ca 85 (unhide BA) ca (fun j v h => by rw [Nat.zero_add]; simpa using h) rowA (by rw [unhide SA]; exact sizeA) ?_))
    apply hno
    exact I10
   | false =>
    obtain ⟨rfl, rfl⟩ : died = true ∧ r2 = true := FIN.resolve_left (by simp)
    go_wp2_with (first
     |(refine wpList_load_has rfl 85 _ rfl ib 0 rfl cz 85 (unhide B10) cz (fun j v h => by rw [Nat.zero_add]; simpa using h) rowA (by rw [unhide SZ]; exact sizeA) ?_)
     |(refine wpList_load_has rfl 85 _ rfl pb 0 rfl ca 85 (unhide BA) ca (fun j v h => by rw [Nat.zero_add]; simpa using h) rowA (by rw [unhide SA]; exact sizeA) ?_)
     |(refine wpList_load_hasg (by first | rfl | simp [Region.wanted, yielded]) 85 _ rfl ib 0 rfl cz 85 (unhide B10) cz (fun j v h => by rw [Nat.zero_add]; simpa using h) rowA (by rw [unhide SZ]; exact sizeA) ?_)
     |(refine wpList_load_hasg (by first | rfl | simp [Region.wanted, yielded]) 85 _ rfl bb 0 rfl c0 85 (unhide B0) c0 (fun j v h => by rw [Nat.zero_add]; simpa using h) rowA (by rw [unhide S0]; exact sizeA) ?_))
    apply hno
    exact I10
attribute [local go_sem] guardA
theorem kept_b {w W : World} {tb bb pb i n cap b off kc : Nat} {kind fuse sp : Int} {fall : Bool} {keep : List Int} {ka : Option Addr} {kb cb : Nat} {c : Cmd} {e' now n1 na : Int} {fl f1 fa : Fls} {died : Bool} (hd : died = (e' == 16)) (HCC : Hid (∀ W, Mod No w W → W.cell? ⟨b, off + i * 21 + 16, none⟩ = some (.int .i64 kind) ∧ W.cell? ⟨b, off + i * 21 + 17, none⟩ = some (.int .i64 fuse) ∧ W.cell? ⟨b, off + i * 21 + 18, none⟩ = some (.slice ka keep.length kc) ∧ W.cell? ⟨b, off + i * 21 + 19, none⟩ = some (.int .u8 sp) ∧ W.cell? ⟨b, off + i * 21 + 20, none⟩ = some (.bool fall)))
  (hkl : keep.length ≤ 9223372036854775807) (HK : Hid (Reads w (.slice ka keep.length kc) keep.length (keep.map (Value.int .i64)))) (HKO : Hid (0 < keep.length → ∀ k, (Value.slice ka keep.length kc).ownBlock = some k → k < w.heap.size)) (hbl : b < w.heap.size) (hin : i < n) (hn : n ≤ 1048576) (hkind : -9223372036854775808 ≤ kind ∧ kind ≤ 9223372036854775807) (Q0 : Exit → Act → World → Prop)
  (H : Hid (KeE (AfterOk (allA now fl) (allA n1 f1) (allA na fa)) w W kb tb (i + 1 + 1) bb pb cb c e' now fl n1 f1 na fa)) (sl1 sl2 sl6 sl7 sl8 sl11 sl15 sl16 sl17 sl18 sl19 sl20 sl21 sl22 sl23 sl24 sl25 sl26 sl27 sl28 sl29 sl30 sl31 sl32 sl33 sl34 sl35 sl36 sl37 sl38 sl39 sl40 sl41 sl42 sl43 sl44 sl45 sl46 sl47 sl48 sl49 sl50 sl51 sl52 sl53 sl54 sl55 sl56 sl57 sl58 sl59 sl60 sl61 sl62 sl63 sl64 sl65 sl66 sl67 sl68 sl69 sl70 sl71 sl72 sl73 sl74 sl75 sl76 sl77 sl78 sl79 sl80 sl81 sl82 sl83 sl84 sl85 sl86 sl87 sl88 sl89 sl90 sl91 sl92 sl93 sl94 sl95 sl96 sl97 sl98 sl99 sl100 sl101 sl102 sl103 sl104 sl105 sl106 sl107 sl108 sl109 sl110 sl111 sl112 sl113 sl114 sl115 sl116 sl117 sl118 sl119 sl120 sl121 sl122 sl123 sl124 sl125 sl126 sl127 sl128 sl129 sl130 sl131 sl132 sl133 sl134 sl135 sl136 sl137 sl138 sl139 sl140 sl141 sl142 sl143 sl144 sl145 sl146 sl147 sl148 sl149 sl150 sl151 sl152 sl153 sl154 sl155 sl156 sl157 sl158 sl159 sl160 sl161 sl162 sl163 sl164 sl165 sl166 sl167 sl168 sl169 sl170 sl171 sl172 sl173 sl174 sl175 sl176 sl177 sl178 sl179 sl180 sl181 sl182 sl183 sl184 sl185 sl186 sl187 sl188 sl189 sl190 sl191 sl192 sl193 sl194 sl195 sl196 sl197 sl198 sl199 sl200 sl201 sl202 sl203 sl204 sl205 sl206 sl207 sl208 sl209 sl210 sl211 sl212 sl213 sl214 sl215 sl216 sl217 sl218 sl219 sl220 sl221 sl222 sl223 sl224 sl225 sl226 sl227 sl228 sl229 sl230 sl231 sl232 sl233 sl234 sl235 sl236 sl237 sl238 sl239 sl240 sl241 sl242 sl243 sl244 sl245 sl246 sl247 sl248 sl249 : Value)
  (hx : ∀ (x12 x19 x20 x21 x22 x126 x127 x128 x129 x130 x131 x132 x133 x134 x135 x136 x137 x138 x139 x140 x141 x142 x143 x144 x145 x146 x147 x148 x149 x150 x151 x152 x153 x154 x155 x156 x157 x158 x159 x160 x161 x162 x163 x164 x165 x166 x167 x168 x169 x170 x171 x172 x173 x174 x175 x176 x177 x178 x179 x180 x181 x182 x183 x184 x185 x186 x187 x188 x189 x190 x191 x192 x193 x194 x195 x196 x197 x198 x199 x200 x201 x202 x203 x204 x205 x206 x207 x208 x209 x210 x211 x212 x213 x214 x215 x216 x217 x218 x219 x220 x221 x222 x223 x224 x225 x226 x227 x228 x229 x230 x231 x232 x233 x234 x235 x236 x237 x238 x239 x240 x241 x242 x243 x244 x245 x246 x247 x248 : Value) (tb' kb' : Nat) (now' : Int) (fl' : Fls) (wx : World), Hid (KeI w wx kb' tb' (i + 1) now' fl') → Q0 (.exit 1) ⟨#[.slice (some ⟨b, off, none⟩) n cap, sl1, sl2, .pointer (some ⟨tb', 0, none⟩), .pointer (some ⟨kb', 0, none⟩), .bool true, sl6, sl7, sl8, .int .i64 (i : Nat), .pointer (some ⟨bb, 0, none⟩), sl11, x12, .bool died, .pointer (some ⟨pb, 0, none⟩), sl15, sl16, sl17, sl18, x19, x20, x21, x22, sl23, sl24, sl25, sl26, sl27, sl28, sl29, sl30, sl31, sl32, sl33, sl34, sl35, sl36, sl37, sl38, sl39, sl40, sl41, sl42, sl43, sl44, sl45, sl46, sl47, sl48, sl49, sl50, sl51, sl52, sl53, sl54, sl55, sl56, sl57, sl58, sl59, sl60, sl61, sl62, sl63, sl64, sl65, sl66, sl67, sl68, sl69, sl70, sl71, sl72, sl73, sl74, sl75, sl76, sl77, sl78, sl79, sl80, sl81, sl82, sl83, sl84, sl85, sl86, sl87, sl88, sl89, sl90, sl91, sl92, sl93, sl94, sl95, sl96, sl97, sl98, sl99, sl100, sl101, sl102, sl103, sl104, sl105, sl106, sl107, sl108, sl109, sl110, sl111, sl112, sl113, sl114, sl115, sl116, sl117, sl118, sl119, sl120, sl121, sl122, sl123, sl124, sl125, x126, x127, x128, x129, x130, x131, x132, x133, x134, x135, x136, x137, x138, x139, x140, x141, x142, x143, x144, x145, x146, x147, x148, x149, x150, x151, x152, x153, x154, x155, x156, x157, x158, x159, x160, x161, x162, x163, x164, x165, x166, x167, x168, x169, x170, x171, x172, x173, x174, x175, x176, x177, x178, x179, x180, x181, x182, x183, x184, x185, x186, x187, x188, x189, x190, x191, x192, x193, x194, x195, x196, x197, x198, x199, x200, x201, x202, x203, x204, x205, x206, x207, x208, x209, x210, x211, x212, x213, x214, x215, x216, x217, x218, x219, x220, x221, x222, x223, x224, x225, x226, x227, x228, x229, x230, x231, x232, x233, x234, x235, x236, x237, x238, x239, x240, x241, x242, x243, x244, x245, x246, x247, x248, sl249], []⟩ wx)
  (hno : ∀ (x12 x19 x20 x21 x22 x126 x127 x128 x129 x130 x131 x132 x133 x134 x135 x136 x137 x138 x139 x140 x141 x142 x143 x144 x145 x146 x147 x148 x149 x150 x151 x152 x153 x154 x155 x156 x157 x158 x159 x160 x161 x162 x163 x164 x165 x166 x167 x168 x169 x170 x171 x172 x173 x174 x175 x176 x177 x178 x179 x180 x181 x182 x183 x184 x185 x186 x187 x188 x189 x190 x191 x192 x193 x194 x195 x196 x197 x198 x199 x200 x201 x202 x203 x204 x205 x206 x207 x208 x209 x210 x211 x212 x213 x214 x215 x216 x217 x218 x219 x220 x221 x222 x223 x224 x225 x226 x227 x228 x229 x230 x231 x232 x233 x234 x235 x236 x237 x238 x239 x240 x241 x242 x243 x244 x245 x246 x247 x248 : Value) (tb' kb' : Nat) (now' : Int) (fl' : Fls) (wx : World), Hid (KeI w wx kb' tb' (i + 1) now' fl') → Q0 .normal ⟨#[.slice (some ⟨b, off, none⟩) n cap, sl1, sl2, .pointer (some ⟨tb', 0, none⟩), .pointer (some ⟨kb', 0, none⟩), .bool true, sl6, sl7, sl8, .int .i64 (i : Nat), .pointer (some ⟨bb, 0, none⟩), sl11, x12, .bool died, .pointer (some ⟨pb, 0, none⟩), sl15, sl16, sl17, sl18, x19, x20, x21, x22, sl23, sl24, sl25, sl26, sl27, sl28, sl29, sl30, sl31, sl32, sl33, sl34, sl35, sl36, sl37, sl38, sl39, sl40, sl41, sl42, sl43, sl44, sl45, sl46, sl47, sl48, sl49, sl50, sl51, sl52, sl53, sl54, sl55, sl56, sl57, sl58, sl59, sl60, sl61, sl62, sl63, sl64, sl65, sl66, sl67, sl68, sl69, sl70, sl71, sl72, sl73, sl74, sl75, sl76, sl77, sl78, sl79, sl80, sl81, sl82, sl83, sl84, sl85, sl86, sl87, sl88, sl89, sl90, sl91, sl92, sl93, sl94, sl95, sl96, sl97, sl98, sl99, sl100, sl101, sl102, sl103, sl104, sl105, sl106, sl107, sl108, sl109, sl110, sl111, sl112, sl113, sl114, sl115, sl116, sl117, sl118, sl119, sl120, sl121, sl122, sl123, sl124, sl125, x126, x127, x128, x129, x130, x131, x132, x133, x134, x135, x136, x137, x138, x139, x140, x141, x142, x143, x144, x145, x146, x147, x148, x149, x150, x151, x152, x153, x154, x155, x156, x157, x158, x159, x160, x161, x162, x163, x164, x165, x166, x167, x168, x169, x170, x171, x172, x173, x174, x175, x176, x177, x178, x179, x180, x181, x182, x183, x184, x185, x186, x187, x188, x189, x190, x191, x192, x193, x194, x195, x196, x197, x198, x199, x200, x201, x202, x203, x204, x205, x206, x207, x208, x209, x210, x211, x212, x213, x214, x215, x216, x217, x218, x219, x220, x221, x222, x223, x224, x225, x226, x227, x228, x229, x230, x231, x232, x233, x234, x235, x236, x237, x238, x239, x240, x241, x242, x243, x244, x245, x246, x247, x248, sl249], []⟩ wx) :
  Code.wp Try.prog (keptRest 8) Q0 ⟨#[.slice (some ⟨b, off, none⟩) n cap, sl1, sl2, .pointer (some ⟨tb, 0, none⟩), .pointer (some ⟨kb, 0, none⟩), .bool true, sl6, sl7, sl8, .int .i64 (i : Nat), .pointer (some ⟨bb, 0, none⟩), sl11, .int .i64 e', .bool died, .pointer (some ⟨pb, 0, none⟩), sl15, sl16, sl17, sl18, sl19, sl20, sl21, sl22, sl23, sl24, sl25, sl26, sl27, sl28, sl29, sl30, sl31, sl32, sl33, sl34, sl35, sl36, sl37, sl38, sl39, sl40, sl41, sl42, sl43, sl44, sl45, sl46, sl47, sl48, sl49, sl50, sl51, sl52, sl53, sl54, sl55, sl56, sl57, sl58, sl59, sl60, sl61, sl62, sl63, sl64, sl65, sl66, sl67, sl68, sl69, sl70, sl71, sl72, sl73, sl74, sl75, sl76, sl77, sl78, sl79, sl80, sl81, sl82, sl83, sl84, sl85, sl86, sl87, sl88, sl89, sl90, sl91, sl92, sl93, sl94, sl95, sl96, sl97, sl98, sl99, sl100, sl101, sl102, sl103, sl104, sl105, sl106, sl107, sl108, sl109, sl110, sl111, sl112, sl113, sl114, sl115, sl116, sl117, sl118, sl119, sl120, sl121, sl122, sl123, sl124, sl125, sl126, sl127, sl128, sl129, sl130, sl131, sl132, sl133, sl134, sl135, sl136, sl137, sl138, sl139, sl140, sl141, sl142, sl143, sl144, sl145, sl146, sl147, sl148, sl149, sl150, sl151, sl152, sl153, sl154, sl155, sl156, sl157, sl158, sl159, sl160, sl161, sl162, sl163, sl164, sl165, sl166, sl167, sl168, sl169, sl170, sl171, sl172, sl173, sl174, sl175, sl176, sl177, sl178, sl179, sl180, sl181, sl182, sl183, sl184, sl185, sl186, sl187, sl188, sl189, sl190, sl191, sl192, sl193, sl194, sl195, sl196, sl197, sl198, sl199, sl200, sl201, sl202, sl203, sl204, sl205, sl206, sl207, sl208, sl209, sl210, sl211, sl212, sl213, sl214, sl215, sl216, sl217, sl218, sl219, sl220, sl221, sl222, sl223, sl224, sl225, sl226, sl227, sl228, sl229, sl230, sl231, sl232, sl233, sl234, sl235, sl236, sl237, sl238, sl239, sl240, sl241, sl242, sl243, sl244, sl245, sl246, sl247, sl248, sl249], []⟩ W := by
 conv => arg 4; dsimp only
 conv => arg 2; whnf
 have hini : (i : Int) < (n : Int) := by omega
 have hi0 : (0 : Int) ≤ i := by omega
 obtain ⟨c16, c17, c18, c19, c20⟩ := (unhide HCC) _ (unhide H).mod
 have bl : b < W.heap.size := Nat.lt_of_lt_of_le hbl (unhide H).mod.size
 by_cases h16 : e' = 16
 ·subst h16
  obtain rfl : died = true := by simp [hd]
  have HCX := hide ((unhide H).toC rfl)
  clear H hx hd
  go_upto_if 159 with fail
  go_cut [5, 19] from 126 to 172 (fun s5 _ wx => s5 = .bool true ∧ wx = W)
  case first =>
   go_wp2
   go_meet
   exact ⟨rfl, rfl⟩
  case rest =>
   obtain ⟨rfl, rfl⟩ := hcut
   apply_assumption
   refine kept_c HCC hkl HK HKO hbl hin hn _ HCX _ _ _ _ _ _ _ _ _ _ _ _ _ _ _ _ _ _ _ _ _ _ _ _ _ _ _ _ _ _ _ _ _ _ _ _ _ _ _ _ _ _ _ _ _ _ _ _ _ _ _ _ _ _ _ _ _ _ _ _ _ _ _ _ _ _ _ _ _ _ _ _ _ _ _ _ _ _ _ _ _ _ _ _ _ _ _ _ _ _ _ _ _ _ _ _ _ _ _ _ _ _ _ _ _ _ _ _ _ _ _ _ _ _ _ _ _ _ _ _ _ _ _ _ _ _ _ _ _ _ _ _ _ _ _ _ _ _ _ _ _ _ _ _ _ _ _ _ _ _ _ _ _ _ _ _ _ _ _ _ _ _ _ _ _ _ _ _ _ _ _ _ _ _ _ _ _ _ _ _ _ _ _ _ _ _ _ _ _ _ _ _ _ _ _ _ _ _ _ _ _ _ _ _ _ _ _ _ _ _ _ _ _ _ _ _ _ _ _ _ _ _ _ _ _ _ _ _ _ _ _ _ _ _ _ _ _ _ _ _ _ _ _ ?_
   intros
   apply hno
   assumption
 ·obtain rfl : died = false := by simp [hd, h16]
  cases fall with
  | false =>
   have IX := hide ((unhide H).on h16)
   have HS := hide ((unhide H).same)
   have B0 := hide (unhide H).box0
   clear H hno hd
   by_cases h0 : e' = 0
   ·have h0' : (e' != 0) = false := by simp [h0]
    go_wp2_with fail
    apply hx
    exact IX
   ·have h0' : (e' != 0) = true := by simp [h0]
    obtain ⟨rfl, rfl⟩ := (unhide HS) h0 h16
    obtain ⟨cz, hz⟩ : ∃ cz, cz = allA n1 f1 := ⟨_, rfl⟩
    have HWN := hide (fun (x : Wd W) => ((unhide IX).still x.h).told)
    rw [show tab (allF n1 f1) 15457 = cz from hz.symm] at HWN
    rw [← hz] at B0
    have SZ := hide (show cz.size = 15457 by rw [hz]; exact allA_size _ _)
    have LA := hide (load_wd (unhide B0) (unhide SZ))
    have HEQ : ∀ W, (Op.equalIn 10000 85 (.agg cz) (.agg cz)).run Try.prog W = .ok true W := fun W => by
     rw [hz]
     exact eq_self _ W
    clear hz SZ B0 HS
    go_upto_region 35 with fail
    haveI := wd_ne W
    refine wp_region_wd (w0 := W) (by kernel_rfl) (by kernel_rfl) (Mod.refl _ _) ?_
    repeat (go_big_quiet_step ((go_at_call 30; exact Calls.wd _ ((unhide HWN) _))))
    go_big_quiet_want
    refine quiet_loadA 85 (.tmp 10) rfl bb 0 (by simp [Act.eval]) (.agg cz) (by rintro W ⟨x, rfl⟩; exact (unhide LA) x) ?_
    simp [Act.put]
    go_big_quiet_on
    repeat (go_big_quiet_step (fail))
    refine wpQuiet_nil ?_
    rintro w9 ⟨⟨_, hm9⟩, rfl⟩
    have I9 := hide ((unhide IX).still hm9)
    clear hm9 HWN LA HEQ IX
    go_wp2_with fail
    apply hx
    exact I9
  | true =>
   have HPK := hide (pick_any kind 2 hkind (by omega))
   have HP := hide ((unhide H).pack h16)
   have HL := hide ((unhide H).toL h16)
   clear H hx hd
   generalize hpk : pickN kind 2 = pk at *
   go_upto_if 159 with (refine ((unhide HPK) _).mono ?_; rintro e w10 ⟨rfl, rfl⟩)
   go_cut [5, 19] from 126 to 172 (fun s5 _ wx => s5 = .bool true ∧ Hid (KeC false w wx tb (i + 1 + 1) bb pb false now fl na fa))
   case first =>
    by_cases hp0 : pk = 0
    ·have hp0' : (pk == 0) = true := by simp [hp0]
     clear HL
     go_wp2_with fail
     refine (unhide HP).mono ?_
     rintro e w11 ⟨e2, rfl, he, hc, hs⟩
     have HC := hide hc
     have HS := hide hs
     clear hc hs HP
     rcases he with rfl | rfl
     ·go_wp2_with fail
      go_meet
      exact ⟨rfl, HC⟩
     ·have HS2 := hide ((unhide HS) rfl)
      clear HC HS
      go_wp2_with fail
      refine (unhide HS2).mono ?_
      rintro e w12 ⟨rfl, hc⟩
      have HC := hide hc
      clear hc HS2
      go_wp2_with fail
      go_meet
      exact ⟨rfl, HC⟩
    ·have hp0' : (pk == 0) = false := by simp [hp0]
     go_wp2
     go_meet
     exact ⟨rfl, HL⟩
   case rest =>
    obtain ⟨rfl, HCX⟩ := hcut
    apply_assumption
    refine kept_c HCC hkl HK HKO hbl hin hn _ HCX _ _ _ _ _ _ _ _ _ _ _ _ _ _ _ _ _ _ _ _ _ _ _ _ _ _ _ _ _ _ _ _ _ _ _ _ _ _ _ _ _ _ _ _ _ _ _ _ _ _ _ _ _ _ _ _ _ _ _ _ _ _ _ _ _ _ _ _ _ _ _ _ _ _ _ _ _ _ _ _ _ _ _ _ _ _ _ _ _ _ _ _ _ _ _ _ _ _ _ _ _ _ _ _ _ _ _ _ _ _ _ _ _ _ _ _ _ _ _ _ _ _ _ _ _ _ _ _ _ _ _ _ _ _ _ _ _ _ _ _ _ _ _ _ _ _ _ _ _ _ _ _ _ _ _ _ _ _ _ _ _ _ _ _ _ _ _ _ _ _ _ _ _ _ _ _ _ _ _ _ _ _ _ _ _ _ _ _ _ _ _ _ _ _ _ _ _ _ _ _ _ _ _ _ _ _ _ _ _ _ _ _ _ _ _ _ _ _ _ _ _ _ _ _ _ _ _ _ _ _ _ _ _ _ _ _ _ _ _ _ _ _ _ ?_
    intros
    apply hno
    assumption
end Go.Proofs.Ythhibagcpjeihaa
