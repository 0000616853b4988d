import Derived.Test.YthhibagcpjeihaaLKpt5ToKpt6
import Derived.Test.YthhibagcpjeihaaLKpt4ToRFacts3
import Derived.Deep.RegionHeld2
import Derived.Deep.CutRange
import Derived.Test.YthhibagcpjeihaaRows
namespace Go.Proofs.Ythhibagcpjeihaa
open Go.RowKit
open M
set_option linter.unusedVariables false
set_option linter.unusedSimpArgs false
set_option maxRecDepth 100000
set_option maxHeartbeats 8000000
attribute [local go_sem] guardA
structure NewP (w1 w' : World) (pb kb g N : Nat) (now : Int) (fl : Fls) : Prop where
 keep : ∃ ow, KpM w' ow kb now fl g N ∧ ∀ k, k < w1.heap.size → ow k = 0
 mod : Mod (fun k => k = pb) w1 w'
 lt : pb < w1.heap.size
theorem NewK.toP {w1 w' : World} {kb g N pb : Nat} {now : Int} {fl : Fls} (h : NewK w1 w' kb g N now fl) (hp : pb < w1.heap.size) : NewP w1 w' pb kb g N now fl :=
 ⟨h.keep, h.mod.mono (fun _ _ x => x.elim), hp⟩
theorem NewP.still {w1 w' w2 : World} {pb kb g N : Nat} {now : Int} {fl : Fls} (h : NewP w1 w' pb kb g N now fl) (hm : Mod No w' w2) : NewP w1 w2 pb kb g N now fl := by
 obtain ⟨ow, k1, k2⟩ := h.keep
 exact ⟨⟨ow, k1.mod hm (fun _ _ x => x), k2⟩, h.mod.trans (hm.mono (fun _ _ x => x.elim)), h.lt⟩
theorem NewP.put {w1 w' w2 : World} {pb kb g N : Nat} {now : Int} {fl : Fls} (h : NewP w1 w' pb kb g N now fl) (hm : Mod (fun k => k = pb) w' w2) : NewP w1 w2 pb kb g N now fl := by
 obtain ⟨ow, k1, k2⟩ := h.keep
 exact ⟨⟨ow, k1.mod hm (fun k hk e => by subst e; exact hk (k2 _ h.lt)), k2⟩, h.mod.trans hm, h.lt⟩
theorem NewP.whole {w1 w' : World} {pb kb g N : Nat} {now : Int} {fl : Fls} (h : NewP w1 w' pb kb g N now fl) : Calls Try.prog 30 #[.pointer (some ⟨kb, 0, none⟩)] w' fun e w2 => e = .returned (.agg (allA now fl)) ∧ Mod No w' w2 := by
 obtain ⟨ow, k1, _⟩ := h.keep
 exact whole_walk k1.toH k1.zero
theorem NewP.do {w1 w' : World} {pb kb g N : Nat} {now : Int} {fl : Fls} (h : NewP w1 w' pb kb g N now fl) (hN : N + 1 ≤ 1000000000) (c : Cmd) {cs : Array Value} (hb : Has w' pb cs 85) :
  Calls Try.prog 26 #[.pointer (some ⟨kb, 0, none⟩), .agg (cmdCells c)] w' fun e w2 => ∃ v, e = .returned (.int .i64 v) ∧ NewP w1 w2 pb kb g (N + 1) (doK now fl c).2.1 (doK now fl c).2.2 ∧ Has w2 pb cs 85 := by
 obtain ⟨ow, k1, k2⟩ := h.keep
 refine (kpm_do k1 hN c).mono ?_
 rintro e w2 ⟨rfl, ⟨ow', q1, q2⟩, hm⟩
 have := h.mod.size
 exact ⟨_, rfl, ⟨⟨ow', q1, fun k hk => by rw [q2 k (by omega)]; exact k2 k hk⟩, h.mod.trans' hm (fun j hj hl => absurd (k2 j hl) hj), h.lt⟩, hm.has hb (fun e => e (k2 _ h.lt))⟩
theorem rowCmdK : (Try.prog.underlying 37).map (·.isRow) = some true := by kernel_rfl
theorem sizeCmdK : (Try.prog.info? 37).map (·.size) = some 16 := by kernel_rfl
theorem KeE.other {P : Prop} {w W : World} {kb tb N bb pb cb : Nat} {c : Cmd} {now n1 na : Int} {fl f1 fa : Fls} (h : KeE P w W kb tb N bb pb cb c 16 now fl n1 f1 na fa) :
  Calls Try.prog 35 #[.pointer (some ⟨tb, 0, none⟩), .int .i64 3] W fun e w1 => e = .returned (.bool false) ∧ KeE P w w1 kb tb N bb pb cb c 16 now fl n1 f1 na fa ∧
   Calls Try.prog 32 #[.pointer (some ⟨tb, 0, none⟩)] w1 fun e2 w2 => ∃ g : Nat, e2 = .returned (.pointer (some ⟨g, 0, none⟩)) ∧
    Calls Try.prog 31 #[.pointer (some ⟨g, 0, none⟩), .slice none 0 0, .int .u8 0] w2 fun e3 w3 => e3 = .returned (.tuple #[]) ∧ ∃ nw fw, ((nw = now ∧ fw = fl) ∨ (nw = n1 ∧ fw = f1)) ∧
     Calls Try.prog 33 #[.pointer (some ⟨g, 0, none⟩)] w3 fun e4 w4 => ∃ kb, e4 = .returned (.tuple #[.pointer (some ⟨kb, 0, none⟩), .int .i64 0]) ∧ NewK w1 w4 kb g N nw fw := by
 obtain ⟨S, T, k1, k2, k3, k4, k5, k6⟩ := h.dead rfl
 refine (kp_sync k1 k6).mono ?_
 rintro e w1 ⟨rfl, p1, p2⟩
 have hin := k1.tape.inn
 refine ⟨rfl, ⟨p2.has h.box0 (fun e => k3 (e ▸ hin)), p2.has h.boxA (fun e => k4 (e ▸ hin)), p2.has h.boxC (fun e => k5 (e ▸ hin)), h.ne, h.told, h.may, fun x => absurd rfl x, fun _ => ⟨S, T, p1, k2, k3, k4, k5, k6⟩, h.same, h.step, h.mod.trans' p2 (fun j (hj : j = tb) hl => by have := k2 _ hin; omega), h.new⟩, ?_⟩
 refine (dead_other p1).mono ?_
 rintro e2 w2 ⟨g, rfl, _, hf⟩
 refine ⟨g, rfl, hf.mono ?_⟩
 rintro e3 w3 ⟨rfl, _, nw, fw, hw, ho⟩
 refine ⟨rfl, nw, fw, hw.imp id (fun e => ?_), ho⟩
 injection e with e
 injection e with e1 e2
 exact ⟨e1.symm, e2.symm⟩
theorem kept_d {w W : World} {tb bb pb i n cap b off kc : Nat} {kind fuse sp : Int} {fall : Bool} {keep : List Int} {ka : Option Addr} {kb cb : Nat} {c : Cmd} {now n1 : Int} {fl f1 : Fls} (HCC : Hid (∀ W, Mod No w W → W.cell? ⟨b, off + i * 21 + 16, none⟩ = some (.int .i64 kind) ∧ W.cell? ⟨b, off + i * 21 + 17, none⟩ = some (.int .i64 fuse) ∧ W.cell? ⟨b, off + i * 21 + 18, none⟩ = some (.slice ka keep.length kc) ∧ W.cell? ⟨b, off + i * 21 + 19, none⟩ = some (.int .u8 sp) ∧ W.cell? ⟨b, off + i * 21 + 20, none⟩ = some (.bool fall)))
  (hkl : keep.length ≤ 9223372036854775807) (HK : Hid (Reads w (.slice ka keep.length kc) keep.length (keep.map (Value.int .i64)))) (HKO : Hid (0 < keep.length → ∀ k, (Value.slice ka keep.length kc).ownBlock = some k → k < w.heap.size)) (hbl : b < w.heap.size) (hin : i < n) (hn : n ≤ 1048576) (hkind : -9223372036854775808 ≤ kind ∧ kind ≤ 9223372036854775807) (Q0 : Exit → Act → World → Prop)
  (H : Hid (KeE True w W kb tb (i + 1 + 1) bb pb cb c 16 now fl n1 f1 now fl)) (sl1 sl2 sl6 sl7 sl8 sl15 sl16 sl17 sl18 sl19 sl20 sl21 sl22 sl23 sl24 sl25 sl26 sl27 sl28 sl29 sl30 sl31 sl32 sl33 sl34 sl35 sl36 sl37 sl38 sl39 sl40 sl41 sl42 sl43 sl44 sl45 sl46 sl47 sl48 sl49 sl50 sl51 sl52 sl53 sl54 sl55 sl56 sl57 sl58 sl59 sl60 sl61 sl62 sl63 sl64 sl65 sl66 sl67 sl68 sl69 sl70 sl71 sl72 sl73 sl74 sl75 sl76 sl77 sl78 sl79 sl80 sl81 sl82 sl83 sl84 sl85 sl86 sl87 sl88 sl89 sl90 sl91 sl92 sl93 sl94 sl95 sl96 sl97 sl98 sl99 sl100 sl101 sl102 sl103 sl104 sl105 sl106 sl107 sl108 sl109 sl110 sl111 sl112 sl113 sl114 sl115 sl116 sl117 sl118 sl119 sl120 sl121 sl122 sl123 sl124 sl125 sl126 sl127 sl128 sl129 sl130 sl131 sl132 sl133 sl134 sl135 sl136 sl137 sl138 sl139 sl140 sl141 sl142 sl143 sl144 sl145 sl146 sl147 sl148 sl149 sl150 sl151 sl152 sl153 sl154 sl155 sl156 sl157 sl158 sl159 sl160 sl161 sl162 sl163 sl164 sl165 sl166 sl167 sl168 sl169 sl170 sl171 sl172 sl173 sl174 sl175 sl176 sl177 sl178 sl179 sl180 sl181 sl182 sl183 sl184 sl185 sl186 sl187 sl188 sl189 sl190 sl191 sl192 sl193 sl194 sl195 sl196 sl197 sl198 sl199 sl200 sl201 sl202 sl203 sl204 sl205 sl206 sl207 sl208 sl209 sl210 sl211 sl212 sl213 sl214 sl215 sl216 sl217 sl218 sl219 sl220 sl221 sl222 sl223 sl224 sl225 sl226 sl227 sl228 sl229 sl230 sl231 sl232 sl233 sl234 sl235 sl236 sl237 sl238 sl239 sl240 sl241 sl242 sl243 sl244 sl245 sl246 sl247 sl248 sl249 : Value)
  (hx : ∀ (x12 x15 x16 x17 x18 x19 x20 x21 x22 x95 x96 x97 x98 x99 x100 x101 x102 x103 x104 x105 x106 x107 x108 x109 x110 x111 x112 x113 x114 x115 x116 x117 x118 x119 x120 x121 x122 x123 x124 x125 x126 x127 x128 x129 x130 x131 x132 x133 x134 x135 x136 x137 x138 x139 x140 x141 x142 x143 x144 x145 x146 x147 x148 x149 x150 x151 x152 x153 x154 x155 x156 x157 x158 x159 x160 x161 x162 x163 x164 x165 x166 x167 x168 x169 x170 x171 x172 x173 x174 x175 x176 x177 x178 x179 x180 x181 x182 x183 x184 x185 x186 x187 x188 x189 x190 x191 x192 x193 x194 x195 x196 x197 x198 x199 x200 x201 x202 x203 x204 x205 x206 x207 x208 x209 x210 x211 x212 x213 x214 x215 x216 x217 x218 x219 x220 x221 x222 x223 x224 x225 x226 x227 x228 x229 x230 x231 x232 x233 x234 x235 x236 x237 x238 x239 x240 x241 x242 x243 x244 x245 x246 x247 x248 : Value) (tb' kb' : Nat) (now' : Int) (fl' : Fls) (wx : World), Hid (KeI w wx kb' tb' (i + 1) now' fl') → Q0 (.exit 1) ⟨#[.slice (some ⟨b, off, none⟩) n cap, sl1, sl2, .pointer (some ⟨tb', 0, none⟩), .pointer (some ⟨kb', 0, none⟩), .bool true, sl6, sl7, sl8, .int .i64 (i : Nat), .pointer (some ⟨bb, 0, none⟩), .pointer (some ⟨cb, 0, none⟩), x12, .bool true, .pointer (some ⟨pb, 0, none⟩), x15, x16, x17, x18, x19, x20, x21, x22, sl23, sl24, sl25, sl26, sl27, sl28, sl29, sl30, sl31, sl32, sl33, sl34, sl35, sl36, sl37, sl38, sl39, sl40, sl41, sl42, sl43, sl44, sl45, sl46, sl47, sl48, sl49, sl50, sl51, sl52, sl53, sl54, sl55, sl56, sl57, sl58, sl59, sl60, sl61, sl62, sl63, sl64, sl65, sl66, sl67, sl68, sl69, sl70, sl71, sl72, sl73, sl74, sl75, sl76, sl77, sl78, sl79, sl80, sl81, sl82, sl83, sl84, sl85, sl86, sl87, sl88, sl89, sl90, sl91, sl92, sl93, sl94, x95, x96, x97, x98, x99, x100, x101, x102, x103, x104, x105, x106, x107, x108, x109, x110, x111, x112, x113, x114, x115, x116, x117, x118, x119, x120, x121, x122, x123, x124, x125, x126, x127, x128, x129, x130, x131, x132, x133, x134, x135, x136, x137, x138, x139, x140, x141, x142, x143, x144, x145, x146, x147, x148, x149, x150, x151, x152, x153, x154, x155, x156, x157, x158, x159, x160, x161, x162, x163, x164, x165, x166, x167, x168, x169, x170, x171, x172, x173, x174, x175, x176, x177, x178, x179, x180, x181, x182, x183, x184, x185, x186, x187, x188, x189, x190, x191, x192, x193, x194, x195, x196, x197, x198, x199, x200, x201, x202, x203, x204, x205, x206, x207, x208, x209, x210, x211, x212, x213, x214, x215, x216, x217, x218, x219, x220, x221, x222, x223, x224, x225, x226, x227, x228, x229, x230, x231, x232, x233, x234, x235, x236, x237, x238, x239, x240, x241, x242, x243, x244, x245, x246, x247, x248, sl249], []⟩ wx)
  (hno : ∀ (x12 x15 x16 x17 x18 x19 x20 x21 x22 x95 x96 x97 x98 x99 x100 x101 x102 x103 x104 x105 x106 x107 x108 x109 x110 x111 x112 x113 x114 x115 x116 x117 x118 x119 x120 x121 x122 x123 x124 x125 x126 x127 x128 x129 x130 x131 x132 x133 x134 x135 x136 x137 x138 x139 x140 x141 x142 x143 x144 x145 x146 x147 x148 x149 x150 x151 x152 x153 x154 x155 x156 x157 x158 x159 x160 x161 x162 x163 x164 x165 x166 x167 x168 x169 x170 x171 x172 x173 x174 x175 x176 x177 x178 x179 x180 x181 x182 x183 x184 x185 x186 x187 x188 x189 x190 x191 x192 x193 x194 x195 x196 x197 x198 x199 x200 x201 x202 x203 x204 x205 x206 x207 x208 x209 x210 x211 x212 x213 x214 x215 x216 x217 x218 x219 x220 x221 x222 x223 x224 x225 x226 x227 x228 x229 x230 x231 x232 x233 x234 x235 x236 x237 x238 x239 x240 x241 x242 x243 x244 x245 x246 x247 x248 : Value) (tb' kb' : Nat) (now' : Int) (fl' : Fls) (wx : World), Hid (KeI w wx kb' tb' (i + 1) now' fl') → Q0 .normal ⟨#[.slice (some ⟨b, off, none⟩) n cap, sl1, sl2, .pointer (some ⟨tb', 0, none⟩), .pointer (some ⟨kb', 0, none⟩), .bool true, sl6, sl7, sl8, .int .i64 (i : Nat), .pointer (some ⟨bb, 0, none⟩), .pointer (some ⟨cb, 0, none⟩), x12, .bool true, .pointer (some ⟨pb, 0, none⟩), x15, x16, x17, x18, x19, x20, x21, x22, sl23, sl24, sl25, sl26, sl27, sl28, sl29, sl30, sl31, sl32, sl33, sl34, sl35, sl36, sl37, sl38, sl39, sl40, sl41, sl42, sl43, sl44, sl45, sl46, sl47, sl48, sl49, sl50, sl51, sl52, sl53, sl54, sl55, sl56, sl57, sl58, sl59, sl60, sl61, sl62, sl63, sl64, sl65, sl66, sl67, sl68, sl69, sl70, sl71, sl72, sl73, sl74, sl75, sl76, sl77, sl78, sl79, sl80, sl81, sl82, sl83, sl84, sl85, sl86, sl87, sl88, sl89, sl90, sl91, sl92, sl93, sl94, x95, x96, x97, x98, x99, x100, x101, x102, x103, x104, x105, x106, x107, x108, x109, x110, x111, x112, x113, x114, x115, x116, x117, x118, x119, x120, x121, x122, x123, x124, x125, x126, x127, x128, x129, x130, x131, x132, x133, x134, x135, x136, x137, x138, x139, x140, x141, x142, x143, x144, x145, x146, x147, x148, x149, x150, x151, x152, x153, x154, x155, x156, x157, x158, x159, x160, x161, x162, x163, x164, x165, x166, x167, x168, x169, x170, x171, x172, x173, x174, x175, x176, x177, x178, x179, x180, x181, x182, x183, x184, x185, x186, x187, x188, x189, x190, x191, x192, x193, x194, x195, x196, x197, x198, x199, x200, x201, x202, x203, x204, x205, x206, x207, x208, x209, x210, x211, x212, x213, x214, x215, x216, x217, x218, x219, x220, x221, x222, x223, x224, x225, x226, x227, x228, x229, x230, x231, x232, x233, x234, x235, x236, x237, x238, x239, x240, x241, x242, x243, x244, x245, x246, x247, x248, sl249], []⟩ wx) :
  Code.wp Try.prog (keptRest 7) Q0 ⟨#[.slice (some ⟨b, off, none⟩) n cap, sl1, sl2, .pointer (some ⟨tb, 0, none⟩), .pointer (some ⟨kb, 0, none⟩), .bool true, sl6, sl7, sl8, .int .i64 (i : Nat), .pointer (some ⟨bb, 0, none⟩), .pointer (some ⟨cb, 0, none⟩), .int .i64 16, .bool true, .pointer (some ⟨pb, 0, none⟩), sl15, sl16, sl17, sl18, sl19, sl20, sl21, sl22, sl23, sl24, sl25, sl26, sl27, sl28, sl29, sl30, sl31, sl32, sl33, sl34, sl35, sl36, sl37, sl38, sl39, sl40, sl41, sl42, sl43, sl44, sl45, sl46, sl47, sl48, sl49, sl50, sl51, sl52, sl53, sl54, sl55, sl56, sl57, sl58, sl59, sl60, sl61, sl62, sl63, sl64, sl65, sl66, sl67, sl68, sl69, sl70, sl71, sl72, sl73, sl74, sl75, sl76, sl77, sl78, sl79, sl80, sl81, sl82, sl83, sl84, sl85, sl86, sl87, sl88, sl89, sl90, sl91, sl92, sl93, sl94, sl95, sl96, sl97, sl98, sl99, sl100, sl101, sl102, sl103, sl104, sl105, sl106, sl107, sl108, sl109, sl110, sl111, sl112, sl113, sl114, sl115, sl116, sl117, sl118, sl119, sl120, sl121, sl122, sl123, sl124, sl125, sl126, sl127, sl128, sl129, sl130, sl131, sl132, sl133, sl134, sl135, sl136, sl137, sl138, sl139, sl140, sl141, sl142, sl143, sl144, sl145, sl146, sl147, sl148, sl149, sl150, sl151, sl152, sl153, sl154, sl155, sl156, sl157, sl158, sl159, sl160, sl161, sl162, sl163, sl164, sl165, sl166, sl167, sl168, sl169, sl170, sl171, sl172, sl173, sl174, sl175, sl176, sl177, sl178, sl179, sl180, sl181, sl182, sl183, sl184, sl185, sl186, sl187, sl188, sl189, sl190, sl191, sl192, sl193, sl194, sl195, sl196, sl197, sl198, sl199, sl200, sl201, sl202, sl203, sl204, sl205, sl206, sl207, sl208, sl209, sl210, sl211, sl212, sl213, sl214, sl215, sl216, sl217, sl218, sl219, sl220, sl221, sl222, sl223, sl224, sl225, sl226, sl227, sl228, sl229, sl230, sl231, sl232, sl233, sl234, sl235, sl236, sl237, sl238, sl239, sl240, sl241, sl242, sl243, sl244, sl245, sl246, sl247, sl248, sl249], []⟩ W := by
 conv => arg 4; dsimp only
 conv => arg 2; whnf
 go_upto_if 95 with fail
 go_cut [2, 15, 16, 17, 18] from 95 to 125 (fun s2 _ _ _ _ wx => s2 = sl2 ∧ Hid (∃ na fa, KeE (AfterOk (allA now fl) (allA n1 f1) (allA na fa)) w wx kb tb (i + 1 + 1) bb pb cb c 16 now fl n1 f1 na fa))
 case first =>
  have HO := hide (unhide H).other
  clear H
  go_wp2_with fail
  refine (unhide HO).mono ?_
  rintro e w1 ⟨rfl, h1, ho⟩
  have H1 := hide h1
  have HO := hide ho
  clear h1 ho
  go_wp2_with fail
  refine (unhide HO).mono ?_
  rintro e w2 ⟨g, rfl, ho⟩
  have HO := hide ho
  clear ho
  go_wp2_with fail
  refine (unhide HO).mono ?_
  rintro e w3 ⟨rfl, nw, fw, hw, ho⟩
  have HO := hide ho
  have HW := hide hw
  clear ho hw
  go_wp2_with fail
  refine (unhide HO).mono ?_
  rintro e w4 ⟨kb3, rfl, nk⟩
  have P4 := hide (nk.toP (unhide H1).boxA.lt)
  have M4 := hide nk.mod
  clear nk HO
  have HT := hide (unhide P4).whole
  obtain ⟨cz, hz⟩ : ∃ cz, cz = allA nw fw := ⟨_, rfl⟩
  obtain ⟨c0, h0⟩ : ∃ c0, c0 = allA now fl := ⟨_, rfl⟩
  rw [← hz] at HT
  obtain ⟨r, q1, p1⟩ := eq_allA nw now fw fl
  have PP := hide p1
  rw [← hz, ← h0] at q1
  have SZ := hide (show cz.size = 15457 by rw [hz]; exact allA_size _ _)
  have OZ := hide (show cz.all (·.oneCell') = true by rw [hz]; exact allA_one _ _)
  have S0 := hide (show c0.size = 15457 by rw [h0]; exact allA_size _ _)
  have HZ := hide hz
  have HZ0 := hide h0
  clear p1
  go_wp2_with fail
  refine (unhide HT).mono ?_
  rintro e w5 ⟨rfl, m5⟩
  have P5 := hide ((unhide P4).still m5)
  have M5 := hide ((unhide M4).trans m5)
  have B5 := hide ((unhide M5).has (unhide H1).box0 (fun x => x))
  have A5 := hide ((unhide M5).has (unhide H1).boxA (fun x => x))
  have C5 := hide ((unhide M5).has (unhide H1).boxC (fun x => x))
  rw [← h0] at B5 A5
  clear m5 M4 P4 HT h0 hz
  go_upto_region 30 with (refine wpList_store_has rfl 85 _ _ rfl pb cz rfl rfl c0 85 (unhide A5) ((unhide SZ).trans (unhide S0).symm) (by rw [unhide SZ]; exact sizeA) (unhide OZ) ?_; intro w6 h6 m6)
  have P6 := hide ((unhide P5).put m6)
  have A6 := hide h6
  have B6 := hide (m6.has (unhide B5) (unhide H1).ne.1)
  have C6 := hide (m6.has (unhide C5) (unhide H1).ne.2)
  clear h6 m6 P5 M5 A5 B5 C5
  cases r with
  | false =>
   have FIN := hide (show ∃ na fa, KeE (AfterOk (allA now fl) (allA n1 f1) (allA na fa)) w w6 kb tb (i + 1 + 1) bb pb cb c 16 now fl n1 f1 na fa from
    ⟨nw, fw, (unhide H1).set (unhide P6).mod (by have := unhide A6; rw [unhide HZ] at this; exact this) (fun x => absurd rfl x) (fun _ => AfterOk.other (by
     rcases unhide HW with ⟨rfl, rfl⟩ | ⟨rfl, rfl⟩
     ·exact .inl rfl
     ·exact .inr rfl) (fun e => by have := (unhide PP).2 e; cases this))⟩)
   clear H1 P6 HW PP C6
   go_wp2_with (first
    |(refine wpList_load_has rfl 85 _ rfl pb 0 rfl cz 85 (unhide A6) cz (fun j v h => by rw [Nat.zero_add]; simpa using h) rowA (by rw [unhide SZ]; exact sizeA) ?_)
    |(refine wpList_load_has rfl 85 _ rfl bb 0 rfl c0 85 (unhide B6) c0 (fun j v h => by rw [Nat.zero_add]; simpa using h) rowA (by rw [unhide S0]; exact sizeA) ?_))
   go_meet
   exact ⟨rfl, FIN⟩
  | true =>
   have he := (unhide PP).1 rfl
   have HD := hide ((unhide P6).do (by omega) c (unhide A6))
   go_wp2_with (first
    |(refine wpList_load_has rfl 85 _ rfl pb 0 rfl cz 85 (unhide A6) cz (fun j v h => by rw [Nat.zero_add]; simpa using h) rowA (by rw [unhide SZ]; exact sizeA) ?_)
    |(refine wpList_load_has rfl 85 _ rfl bb 0 rfl c0 85 (unhide B6) c0 (fun j v h => by rw [Nat.zero_add]; simpa using h) rowA (by rw [unhide S0]; exact sizeA) ?_)
    |(refine wpList_load_has rfl 37 _ rfl cb 0 rfl (cmdCells c) 37 (unhide C6) (cmdCells c) (fun j v h => by rw [Nat.zero_add]; simpa using h) rowCmdK sizeCmdK ?_))
   refine (unhide HD).mono ?_
   rintro e w7 ⟨v7, rfl, p7, h7⟩
   have P7 := hide p7
   have A7 := hide h7
   have HT := hide p7.whole
   obtain ⟨cy, hy⟩ : ∃ cy, cy = allA (doK nw fw c).2.1 (doK nw fw c).2.2 := ⟨_, rfl⟩
   rw [← hy] at HT
   have SY := hide (show cy.size = 15457 by rw [hy]; exact allA_size _ _)
   have OY := hide (show cy.all (·.oneCell') = true by rw [hy]; exact allA_one _ _)
   have HY := hide hy
   clear hy p7 h7 HD P6 A6 B6 C6 q1
   go_wp2_with fail
   refine (unhide HT).mono ?_
   rintro e w8 ⟨rfl, m8⟩
   have P8 := hide ((unhide P7).still m8)
   have A8 := hide (m8.has (unhide A7) (fun x => x))
   have FIN := hide (fun w9 (hb : Has w9 pb cy 85) (hm : Mod (fun k => k = pb) w8 w9) => (show ∃ na fa, KeE (AfterOk (allA now fl) (allA n1 f1) (allA na fa)) w w9 kb tb (i + 1 + 1) bb pb cb c 16 now fl n1 f1 na fa from
    ⟨_, _, (unhide H1).set ((unhide P8).put hm).mod (by have := hb; rw [unhide HY] at this; exact this) (fun x => absurd rfl x) (fun _ => AfterOk.again (by rw [(unhide H1).step rfl]) (unhide HW) he)⟩))
   clear m8 HT P7 A7 H1 HW PP he
   go_wp2_with (refine wpList_store_has rfl 85 _ _ rfl pb cy rfl rfl cz 85 (unhide A8) ((unhide SY).trans (unhide SZ).symm) (by rw [unhide SY]; exact sizeA) (unhide OY) ?_; intro w9 h9 m9; have FIN := hide ((unhide FIN) w9 h9 m9); clear h9 m9)
   go_meet
   exact ⟨rfl, FIN⟩
 case rest =>
  obtain ⟨rfl, hcut⟩ := hcut
  obtain ⟨na, fa, hE⟩ := unhide hcut
  have HE := hide hE
  clear hE hcut H
  apply_assumption
  refine kept_b (kb := kb) (cb := cb) (c := c) (e' := 16) (died := true) (by decide) HCC hkl HK HKO hbl hin hn hkind _ HE _ _ _ _ _ _ _ _ _ _ _ _ _ _ _ _ _ _ _ _ _ _ _ _ _ _ _ _ _ _ _ _ _ _ _ _ _ _ _ _ _ _ _ _ _ _ _ _ _ _ _ _ _ _ _ _ _ _ _ _ _ _ _ _ _ _ _ _ _ _ _ _ _ _ _ _ _ _ _ _ _ _ _ _ _ _ _ _ _ _ _ _ _ _ _ _ _ _ _ _ _ _ _ _ _ _ _ _ _ _ _ _ _ _ _ _ _ _ _ _ _ _ _ _ _ _ _ _ _ _ _ _ _ _ _ _ _ _ _ _ _ _ _ _ _ _ _ _ _ _ _ _ _ _ _ _ _ _ _ _ _ _ _ _ _ _ _ _ _ _ _ _ _ _ _ _ _ _ _ _ _ _ _ _ _ _ _ _ _ _ _ _ _ _ _ _ _ _ _ _ _ _ _ _ _ _ _ _ _ _ _ _ _ _ _ _ _ _ _ _ _ _ _ _ _ _ _ _ _ _ _ _ _ _ _ _ _ _ _ _ _ ?_ ?_
  all_goals intros
  ·apply hx
   assumption
  ·apply hno
   assumption
attribute [local go_sem] guardA
theorem KeB.toE {P : Prop} {w W0 W1 W2 : World} {ow : Nat → Nat} {kb tb i bb cb : Nat} {K : KS} {cz : Array Value} {c : Cmd} {e now na : Int} {fl fa : Fls} (hB : KeB w W0 ow kb tb (i + 1) bb K cz now fl) (hz : cz = tab (allF now fl) 15457) (hC : Has W0 cb (cmdCells c) 37) (hoc : ow cb = 0) (hK : KpD W0 W1 ow kb now fl K (i + 1) c e) (hm : Mod (fun k => k = W1.heap.size) W1 W2) (hA : Has W2 W1.heap.size (allA na fa) 85)
  (ht : e ≠ 16 → allA na fa = allA (doK now fl c).2.1 (doK now fl c).2.2) (hp : e = 16 → P) : KeE P w W2 kb tb (i + 1 + 1) bb W1.heap.size cb c e now fl (doK now fl c).2.1 (doK now fl c).2.2 na fa := by
 have lb := hB.box.lt
 have lc := hC.lt
 have s0 := hB.mod.size
 have s1 := hK.mod.size
 have hm1 : Mod No w W1 := hB.mod.trans' hK.mod (fun j hj hl => hj (hB.own j hl))
 have b1 := hK.mod.has hB.box (fun e => e hB.ob)
 have c1 := hK.mod.has hC (fun e => e hoc)
 have b2 := hm.has b1 (by omega)
 have c2 := hm.has c1 (by omega)
 rw [hz] at b2
 refine ⟨b2, hA, c2, ⟨by omega, by omega⟩, ht, hp, fun d => ?_, fun d => ?_, fun d0 d1 => ?_, fun d => ?_, hm1.trans' hm (fun j e hl => by omega), by omega⟩
 ·obtain ⟨_, ow', K', k1, k2, k3, _⟩ := hK.yes d
  have h0 := k1.old W1.heap.size (Nat.le_refl _)
  exact ⟨ow', K', k1.mod hm (fun k hk e => by subst e; exact hk h0), k3.trans hB.tape, fun k hk => by rw [k2 k (by omega)]; exact hB.own k hk, by rw [k2 bb lb]; exact hB.ob, h0⟩
 ·obtain ⟨_, h0, ow', T', k1, k2, k3⟩ := hK.no d
  have k1n : KpC W1 (fun k => ow' k = 30 ∧ k < W1.heap.size) tb T' now fl (some (doK now fl c).2) (i + 1 + 1) := ⟨hB.tape ▸ k1.tape.narrow, k1.disk, k1.ok, k1.may, k1.room, k1.few⟩
  refine ⟨_, T', k1n.mod hm (fun k hk e => by have := hk.2; omega), fun k hk => ?_, fun e => ?_, fun e => by have := e.2; omega, fun e => ?_, k3⟩
  ·by_cases q : k < w.heap.size
   ·have := hk.1
    rw [k2 k (by omega), hB.own k q] at this; omega
   ·omega
  ·have := e.1
   rw [k2 bb lb, hB.ob] at this; omega
  ·have := e.1
   rw [k2 cb lc, hoc] at this; omega
 ·obtain ⟨he, _⟩ := hK.yes d1
  have := doK_same (now := now) (fl := fl) (c := c) (by rw [← he]; exact d0)
  rw [this]
  exact ⟨rfl, rfl⟩
 ·obtain ⟨_, h0, _⟩ := hK.no d
  rw [← h0]
theorem KpD.told {w W1 W2 : World} {ow : Nat → Nat} {kb i : Nat} {K : KS} {c : Cmd} {e now : Int} {fl : Fls} (hK : KpD w W1 ow kb now fl K (i + 1) c e) (d : e ≠ 16) (hm : Mod (fun k => k = W1.heap.size) W1 W2) :
  Calls Try.prog 30 #[.pointer (some ⟨kb, 0, none⟩)] W2 fun e w2 => e = .returned (.agg (allA (doK now fl c).2.1 (doK now fl c).2.2)) ∧ Mod No W2 w2 := by
 obtain ⟨_, ow', K', k1, _⟩ := hK.yes d
 have h0 := k1.old W1.heap.size (Nat.le_refl _)
 have k2 := k1.mod hm (fun k hk e => by subst e; exact hk h0)
 exact whole_walk k2.toH (k2.ok.rng 0 (.inl rfl))
theorem kept_any (a : Option Addr) (n cap : Nat) (hn : n ≤ 1048576) (w : World) (hs : KScript w a n) :
  Calls Try.prog 8 #[.slice a n cap] w fun e w' => e = .returned (.bool true) ∧ Mod No w w' := by
 have HS := hide hs
 clear hs
 go_enter Try.func8, Try.ntmps8
 go_wp2_with fail
 refine (new_any _ _).mono ?_
 rintro e w1 ⟨rfl, rfl⟩
 have HG := hide (begunP_any w)
 unfold tape0 at HG
 obtain ⟨tb, htb⟩ : ∃ tb, tb = w.heap.size := ⟨_, rfl⟩
 generalize w.alloc (.cells (⟨⟨.slice none 0 0, [], 0⟩, ⟨.slice none 0 0, [], 0⟩, ⟨.slice none 0 0, [], 0⟩, ⟨.slice none 0 0, [], 0⟩, 1099511627776, -1⟩ : TTape).cells 103) = w1 at *
 go_wp2_with fail
 refine (unhide HG).mono ?_
 rintro e w2 ⟨kb, rfl, ⟨ow, k2, ho⟩, m2, nx⟩
 rw [← htb] at k2
 rw [← htb]
 clear nx
 have M2 := hide m2
 have K2 := hide k2
 have HO := hide ho
 have HW := hide (whole_walk k2.toH k2.zero)
 clear k2 ho m2 HG htb
 obtain ⟨cz, hz⟩ : ∃ cz, cz = tab (allF 0 fl0) 15457 := ⟨_, rfl⟩
 rw [← hz] at HW
 have SZ := hide (show cz.size = 15457 by rw [hz]; exact tab_size _ _)
 have OZ := hide (show cz.all (·.oneCell') = true by rw [hz]; exact tab_one _ _)
 have HZ := hide hz
 clear hz
 go_wp2_with fail
 refine (unhide HW).mono ?_
 rintro e w4 ⟨rfl, m4⟩
 have A1 := hide (Has.new w4 Try.zeroCells85 85)
 have M4 := hide m4
 clear m4 HW
 go_wp2_with (refine wpList_store_has rfl 85 _ _ rfl w4.heap.size cz rfl rfl Try.zeroCells85 85 (unhide A1) ((unhide SZ).trans Try.zeroCells85_size.symm) (by rw [unhide SZ]; exact sizeA) (unhide OZ) ?_; intro w5 h5 m5)
 have hK5 : ∃ ow K, KpL w5 ow kb 0 fl0 K 1 ∧ K.tb = tb ∧ (∀ k, k < w.heap.size → ow k = 0) ∧ ow w4.heap.size = 0 := by
  obtain ⟨K, k1, k3, k4⟩ := (unhide K2).mod (unhide M4) (fun _ _ x => x)
  have hz : ow w4.heap.size = 0 := fresh_zero ((unhide K2).mod (unhide M4) (fun _ _ x => x)) _ (Nat.le_refl _)
  exact ⟨ow, K, k1.mod (((Mod.refl (fun k => k = w4.heap.size) w4).alloc _).trans m5) (fun k hk e => by subst e; exact hk hz), k3, fun k hk => (unhide HO) k hk, hz⟩
 obtain ⟨ow5, K5, k51, rfl, k53, k54⟩ := hK5
 have M5 := hide (((unhide M2).trans (unhide M4)).trans' (((Mod.refl (fun k => k = w4.heap.size) w4).alloc _).trans m5) (fun j (e : j = w4.heap.size) hl => by have := ((unhide M2).trans (unhide M4)).size; omega))
 have HF := hide (fall_copy k51)
 have B5 := hide h5
 have O5 := hide (show (∀ k, k < w.heap.size → ow5 k = 0) ∧ ow5 w4.heap.size = 0 from ⟨k53, k54⟩)
 clear k51 k53 k54 h5 m5 A1 K2 HO M2 M4
 generalize w4.heap.size = ab at *
 clear w4
 refine (unhide HF).mono ?_
 rintro e w6 ⟨rfl, m6, hcp⟩
 have M6 := hide ((unhide M5).trans' m6 (fun j (e : ow5 j = 30) hl => by have := (unhide O5).1 j hl; omega))
 have B6 := hide (m6.has (unhide B5) (fun e => by have := (unhide O5).2; have e : ow5 ab = 30 := e; omega))
 have HC := hide (hcp w6 (Mod.refl _ _))
 clear m6 hcp HF B5 M5 O5
 go_wp2_with fail
 refine (unhide HC).mono ?_
 rintro e w7 ⟨g, rfl, m7, ho⟩
 have HO := hide ho
 clear ho HC
 have M7 := hide m7
 clear m7
 go_wp2_with fail
 refine (unhide HO).mono ?_
 rintro e w8 ⟨kb2, rfl, nk⟩
 have N8 := hide nk
 clear nk HO
 go_upto_region 8 with fail
 have HWN := hide (fun (x : Wd w8) => ((unhide N8).still x.h).whole)
 rw [← unhide HZ] at HWN
 have B8 := (unhide N8).mod.has (unhide B6) (fun x => x)
 have LA := hide (load_wd B8 (unhide SZ))
 have HEQ : ∀ W, (Op.equalIn 10000 85 (.agg cz) (.agg cz)).run Try.prog W = .ok true W := fun W => by
  rw [unhide HZ]
  exact eq_self _ W
 clear B8
 haveI := wd_ne w8
 refine wp_region_wd (w0 := w8) (by kernel_rfl) (by kernel_rfl) (Mod.refl _ _) ?_
 repeat (go_big_quiet_step ((go_at_call 30; exact Calls.wd _ ((unhide HWN) _))))
 go_big_quiet_want
 refine quiet_loadA 85 (.tmp 6) rfl ab 0 (by simp [Act.eval]) (.agg cz) (by rintro W ⟨x, rfl⟩; exact (unhide LA) x) ?_
 simp [Act.put]
 go_big_quiet_on
 repeat (go_big_quiet_step (fail))
 refine wpQuiet_nil ?_
 rintro w9 ⟨⟨_, hm9⟩, rfl⟩
 have I9 := hide (((unhide N8).still hm9).toE (unhide M6))
 clear hm9 HWN LA HEQ N8 B6 HZ SZ OZ
 clear M6 M7
 go_wp2_with fail
 go_loopw [3, 4, 5, 9] (fun s3 s4 s5 s9 wr => ∃ (i tb kb : Nat) (now : Int) (fl : Fls), s3 = .pointer (some ⟨tb, 0, none⟩) ∧ s4 = .pointer (some ⟨kb, 0, none⟩) ∧ s5 = .bool true ∧ s9 = .int .i64 i ∧ i ≤ n ∧ Hid (KeI w wr kb tb i now fl)) (fun _ _ _ i _ => n - (intOf i).toNat)
 case atStart => exact ⟨0, _, _, _, _, rfl, rfl, rfl, rfl, by omega, I9⟩
 case round =>
  obtain ⟨i, tb, kb, now, fl, rfl, rfl, rfl, rfl, hi, I⟩ := hrel
  clear I9
  by_cases hin : i < n
  case neg =>
   have hie : i = n := by omega
   subst hie
   have hcond : ¬ ((i : Int) < (i : Int)) := by omega
   have MF := hide (unhide I).mod
   clear I
   go_wp2
   go_ret
   exact ⟨rfl, unhide MF⟩
  have hini : (i : Int) < (n : Int) := by omega
  have hi0 : (0 : Int) ≤ i := by omega
  have hi1 : IntKind.i64.wrap ((i : Int) + 1) = ((i + 1 : Nat) : Int) := by rw [wrap_id _ (by omega) (by omega)]; rfl
  obtain ⟨b, off, S, rfl, hS, hr, hT, hst, hbl⟩ := (unhide HS) i hin
  obtain ⟨kind, fuse, sp, fall, keep, ka, kc, g16, hkind, g17, b17, g18, g19, g20, hkl, hkr, hko⟩ := hst
  have HT := hide hT
  have HR := hide hr
  have HK := hide hkr
  have HKO := hide hko
  have HCC := hide (fun (W : World) (hW : Mod No w W) => (show W.cell? ⟨b, off + i * 21 + 16, none⟩ = some (.int .i64 kind) ∧ W.cell? ⟨b, off + i * 21 + 17, none⟩ = some (.int .i64 fuse) ∧ W.cell? ⟨b, off + i * 21 + 18, none⟩ = some (.slice ka keep.length kc) ∧ W.cell? ⟨b, off + i * 21 + 19, none⟩ = some (.int .u8 sp) ∧ W.cell? ⟨b, off + i * 21 + 20, none⟩ = some (.bool fall) from
   ⟨hW.cell (hr 16 _ (by rw [Array.getElem?_toList]; exact g16)), hW.cell (hr 17 _ (by rw [Array.getElem?_toList]; exact g17)), hW.cell (hr 18 _ (by rw [Array.getElem?_toList]; exact g18)), hW.cell (hr 19 _ (by rw [Array.getElem?_toList]; exact g19)), hW.cell (hr 20 _ (by rw [Array.getElem?_toList]; exact g20))⟩))
  have c17 := ((unhide HCC) _ (unhide I).mod).2.1
  have HS21 := hide hS
  clear hT hr hkr hko g16 g17 g18 g19 g20 hS
  go_upto_if 68 with fail
  go_cut [] from 68 to 78 (fun wx => Hid (KeI w wx kb tb i now fl))
  case first =>
   by_cases hf : fuse > 0
   ·have HPK := hide (pick_any (fuse - 1) 8 (by omega) (by omega))
    have hw1 : IntKind.i64.wrap (fuse - 1) = fuse - 1 := by rw [IntKind.wrap_i64]; omega
    have hpr := pickN_range (fuse - 1) 8 (by omega)
    go_wp2_with fail
    refine ((unhide HPK) _).mono ?_
    rintro e w10 ⟨rfl, rfl⟩
    have HFU := hide (show Calls Try.prog 34 #[.pointer (some ⟨tb, 0, none⟩), .int .i64 (pickN (fuse - 1) 8)] w10 fun e w' => e = .returned (.tuple #[]) ∧ KeI w w' kb tb i now fl from by
     obtain ⟨ow, K, k1, rfl, k3⟩ := (unhide I).keep
     refine (kp_fuse k1 _ (by omega)).mono ?_
     rintro e w' ⟨rfl, hm, ow', K', q1, q2, q3⟩
     exact ⟨rfl, ⟨ow', K', q1, q3, fun k hk => by rw [q2 k (Nat.lt_of_lt_of_le hk (unhide I).mod.size)]; exact k3 k hk⟩, (unhide I).mod.trans' hm (fun j hj hl => hj (k3 j hl))⟩)
    go_wp2_with fail
    refine (unhide HFU).mono ?_
    rintro e w11 ⟨rfl, i11⟩
    have I11 := hide i11
    clear i11 HFU
    go_wp2
    go_meet
    exact I11
   ·go_wp2
    go_meet
    exact I
  case rest =>
   clear I c17
   have I := hcut
   clear hcut
   obtain ⟨cz, hz⟩ : ∃ cz, cz = tab (allF now fl) 15457 := ⟨_, rfl⟩
   have HW := hide (unhide I).told
   rw [← hz] at HW
   have SZ := hide (show cz.size = 15457 by rw [hz]; exact tab_size _ _)
   have OZ := hide (show cz.all (·.oneCell') = true by rw [hz]; exact tab_one _ _)
   have HZ := hide hz
   clear hz
   go_wp2_with fail
   refine (unhide HW).mono ?_
   rintro e w12 ⟨rfl, m12⟩
   have I12 := hide ((unhide I).still m12)
   have A12 := hide (Has.new w12 Try.zeroCells85 85)
   clear m12 HW I
   go_upto_region 16 with (refine wpList_store_has rfl 85 _ _ rfl w12.heap.size cz rfl rfl Try.zeroCells85 85 (unhide A12) ((unhide SZ).trans Try.zeroCells85_size.symm) (by rw [unhide SZ]; exact sizeA) (unhide OZ) ?_; intro w13 h13 m13)
   obtain ⟨ow, K, hkb⟩ := (unhide I12).boxed (((Mod.refl (fun k => k = w12.heap.size) w12).alloc _).trans m13) h13
   have B13 := hide hkb
   clear hkb h13 m13 A12 I12
   generalize w12.heap.size = bb at *
   clear w12
   have HR13 := hide (show w13.rangeAt b (off + i * 21) S.toList from fun j v hv => (unhide B13).mod.cell ((unhide HR) j v hv))
   go_wp2_with (refine wpList_load_mid rfl 41 _ rfl b (off + i * 21) rfl S.toList _ (unhide HR13) Try.underlying41 rfl (by rw [Array.length_toList, unhide HS21]; exact size47p) ?_)
   refine ((unhide HT) _).mono ?_
   rintro e w14 ⟨cc, rfl, m14⟩
   have B14 := hide ((unhide B13).still m14)
   have B15 := hide ((unhide B14).still ((Mod.refl No w14).alloc (.cells (cmdCells cc) 37)))
   have C15 := hide (Has.new w14 (cmdCells cc) 37)
   have D15 := hide (show ow w14.heap.size = 0 from (unhide B14).keep.old _ (Nat.le_refl _))
   have HD := hide (kp_do (unhide B15).keep (by omega) cc)
   clear m14 B13 B14 HR13
   clear HT
   unfold cmdCells at *
   go_wp2_with fail
   refine (unhide HD).mono ?_
   rintro e w16 ⟨e', rfl, hkd⟩
   have HKD := hide hkd
   have X16 := hide (hkd.mod.has (unhide B15).box (fun e => e (unhide B15).ob))
   have A16 := hide (Has.new w16 Try.zeroCells85 85)
   clear hkd HD
   go_upto_region 18 with fail
   generalize hW15 : w14.alloc _ = w15 at *
   have PB := hide (show w.heap.size ≤ w16.heap.size from Nat.le_trans (unhide B15).mod.size (unhide HKD).mod.size)
   generalize hcb : w14.heap.size = cb at *
   clear hW15 hcb
   by_cases h16 : e' = 16
   ·subst h16
    go_upto_if 92 with (first
     |(refine wpList_load_has rfl 85 _ rfl bb 0 rfl cz 85 (unhide X16) cz (fun j v h => by rw [Nat.zero_add]; simpa using h) rowA (by rw [unhide SZ]; exact sizeA) ?_)
     |(refine wpList_store_has rfl 85 _ _ rfl w16.heap.size cz rfl rfl Try.zeroCells85 85 (unhide A16) ((unhide SZ).trans Try.zeroCells85_size.symm) (by rw [unhide SZ]; exact sizeA) (unhide OZ) ?_; intro w17 h17 m17))
    have E17 := hide ((unhide B15).toE (unhide HZ) (unhide C15) (unhide D15) (unhide HKD) (P := True) (((Mod.refl (fun k => k = w16.heap.size) w16).alloc _).trans m17) (na := now) (fa := fl) (by have := h17; rw [unhide HZ] at this; exact this) (fun x => absurd rfl x) (fun _ => trivial))
    clear h17 m17 HKD X16 A16 B15
    generalize w16.heap.size = pb at *
    go_cut [] from 88 to 94 (fun wx => wx = w17)
    case first =>
     go_wp2
     go_meet
     rfl
    case rest =>
     subst hcut
     apply_assumption
     refine kept_d HCC hkl HK HKO hbl hin hn hkind _ E17 _ _ _ _ _ _ _ _ _ _ _ _ _ _ _ _ _ _ _ _ _ _ _ _ _ _ _ _ _ _ _ _ _ _ _ _ _ _ _ _ _ _ _ _ _ _ _ _ _ _ _ _ _ _ _ _ _ _ _ _ _ _ _ _ _ _ _ _ _ _ _ _ _ _ _ _ _ _ _ _ _ _ _ _ _ _ _ _ _ _ _ _ _ _ _ _ _ _ _ _ _ _ _ _ _ _ _ _ _ _ _ _ _ _ _ _ _ _ _ _ _ _ _ _ _ _ _ _ _ _ _ _ _ _ _ _ _ _ _ _ _ _ _ _ _ _ _ _ _ _ _ _ _ _ _ _ _ _ _ _ _ _ _ _ _ _ _ _ _ _ _ _ _ _ _ _ _ _ _ _ _ _ _ _ _ _ _ _ _ _ _ _ _ _ _ _ _ _ _ _ _ _ _ _ _ _ _ _ _ _ _ _ _ _ _ _ _ _ _ _ _ _ _ _ _ _ _ _ _ _ _ _ _ _ _ _ _ _ _ _ ?_ ?_
     all_goals
      intros
      rename_i wx IX
      go_wp2
     ·exact ⟨⟨i + 1, _, _, _, _, rfl, rfl, rfl, rfl, by omega, IX⟩, by simp [intOf]; omega⟩
     ·exact ⟨⟨i + 1, _, _, _, _, rfl, rfl, rfl, rfl, by omega, IX⟩, by simp [intOf]; omega⟩
   ·by_cases h0 : e' = 0
    ·subst h0
     go_upto_region 20 with (first
      |(refine wpList_load_has rfl 85 _ rfl bb 0 rfl cz 85 (unhide X16) cz (fun j v h => by rw [Nat.zero_add]; simpa using h) rowA (by rw [unhide SZ]; exact sizeA) ?_)
      |(refine wpList_store_has rfl 85 _ _ rfl w16.heap.size cz rfl rfl Try.zeroCells85 85 (unhide A16) ((unhide SZ).trans Try.zeroCells85_size.symm) (by rw [unhide SZ]; exact sizeA) (unhide OZ) ?_; intro w17 h17 m17))
     have M17 := hide (((Mod.refl (fun k => k = w16.heap.size) w16).alloc _).trans m17)
     have HW2 := hide ((unhide HKD).told h16 (unhide M17))
     obtain ⟨cy, hy⟩ : ∃ cy, cy = allA (doK now fl cc).2.1 (doK now fl cc).2.2 := ⟨_, rfl⟩
     rw [← hy] at HW2
     have SY := hide (show cy.size = 15457 by rw [hy]; exact allA_size _ _)
     have OY := hide (show cy.all (·.oneCell') = true by rw [hy]; exact allA_one _ _)
     have HY := hide hy
     have A17 := hide h17
     clear hy h17 m17 X16 A16
     go_wp2_with fail
     refine (unhide HW2).mono ?_
     rintro e w18 ⟨rfl, m18⟩
     have A18 := hide (m18.has (unhide A17) (fun x => x))
     have E19 := hide (fun (w19 : World) (h19 : Has w19 w16.heap.size cy 85) (m19 : Mod (fun k => k = w16.heap.size) w18 w19) => (unhide B15).toE (unhide HZ) (unhide C15) (unhide D15) (unhide HKD) (P := AfterOk (allA now fl) (allA (doK now fl cc).2.1 (doK now fl cc).2.2) (allA (doK now fl cc).2.1 (doK now fl cc).2.2)) (((unhide M17).trans (m18.mono (fun _ _ x => x.elim))).trans m19) (na := (doK now fl cc).2.1) (fa := (doK now fl cc).2.2) (by have := h19; rw [unhide HY] at this; exact this) (fun _ => rfl) (fun x => absurd x h16))
     clear m18 HW2 A17 HKD B15 M17
     generalize w16.heap.size = pb at *
     go_upto_if 95 with (refine wpList_store_has rfl 85 _ _ rfl pb cy rfl rfl cz 85 (unhide A18) ((unhide SY).trans (unhide SZ).symm) (by rw [unhide SY]; exact sizeA) (unhide OY) ?_; intro w19 h19 m19)
     have EE := hide ((unhide E19) w19 h19 m19)
     clear h19 m19 E19 A18
     go_cut [2, 15, 16, 17, 18] from 88 to 125 (fun _ _ _ _ _ wx => wx = w19)
     case first =>
      go_wp2
      go_meet
      rfl
     case rest =>
      subst hcut
      apply_assumption
      refine kept_b (by rfl) HCC hkl HK HKO hbl hin hn hkind _ EE _ _ _ _ _ _ _ _ _ _ _ _ _ _ _ _ _ _ _ _ _ _ _ _ _ _ _ _ _ _ _ _ _ _ _ _ _ _ _ _ _ _ _ _ _ _ _ _ _ _ _ _ _ _ _ _ _ _ _ _ _ _ _ _ _ _ _ _ _ _ _ _ _ _ _ _ _ _ _ _ _ _ _ _ _ _ _ _ _ _ _ _ _ _ _ _ _ _ _ _ _ _ _ _ _ _ _ _ _ _ _ _ _ _ _ _ _ _ _ _ _ _ _ _ _ _ _ _ _ _ _ _ _ _ _ _ _ _ _ _ _ _ _ _ _ _ _ _ _ _ _ _ _ _ _ _ _ _ _ _ _ _ _ _ _ _ _ _ _ _ _ _ _ _ _ _ _ _ _ _ _ _ _ _ _ _ _ _ _ _ _ _ _ _ _ _ _ _ _ _ _ _ _ _ _ _ _ _ _ _ _ _ _ _ _ _ _ _ _ _ _ _ _ _ _ _ _ _ _ _ _ _ _ _ _ _ _ _ _ _ _ ?_ ?_
      all_goals
       intros
       rename_i wx IX
       go_wp2
      ·exact ⟨⟨i + 1, _, _, _, _, rfl, rfl, rfl, rfl, by omega, IX⟩, by simp [intOf]; omega⟩
      ·exact ⟨⟨i + 1, _, _, _, _, rfl, rfl, rfl, rfl, by omega, IX⟩, by simp [intOf]; omega⟩
    ·have h0' : (e' == 0) = false := by simp [h0]
     have h16' : (e' == 16) = false := by simp [h16]
     go_upto_if 95 with (first
      |(refine wpList_load_has rfl 85 _ rfl bb 0 rfl cz 85 (unhide X16) cz (fun j v h => by rw [Nat.zero_add]; simpa using h) rowA (by rw [unhide SZ]; exact sizeA) ?_)
      |(refine wpList_store_has rfl 85 _ _ rfl w16.heap.size cz rfl rfl Try.zeroCells85 85 (unhide A16) ((unhide SZ).trans Try.zeroCells85_size.symm) (by rw [unhide SZ]; exact sizeA) (unhide OZ) ?_; intro w17 h17 m17))
     have EE := hide ((unhide B15).toE (unhide HZ) (unhide C15) (unhide D15) (unhide HKD) (P := AfterOk (allA now fl) (allA (doK now fl cc).2.1 (doK now fl cc).2.2) (allA now fl)) (((Mod.refl (fun k => k = w16.heap.size) w16).alloc _).trans m17) (na := now) (fa := fl) (by have := h17; rw [unhide HZ] at this; exact this) (fun x => by
      obtain ⟨he, _⟩ := (unhide HKD).yes x
      rw [doK_same (now := now) (fl := fl) (c := cc) (by rw [← he]; exact h0)]) (fun x => absurd x h16))
     clear h17 m17 HKD X16 A16 B15
     generalize w16.heap.size = pb at *
     go_cut [2, 15, 16, 17, 18] from 88 to 125 (fun _ _ _ _ _ wx => wx = w17)
     case first =>
      go_wp2
      go_meet
      rfl
     case rest =>
      subst hcut
      apply_assumption
      refine kept_b (by simp [h16]) HCC hkl HK HKO hbl hin hn hkind _ EE _ _ _ _ _ _ _ _ _ _ _ _ _ _ _ _ _ _ _ _ _ _ _ _ _ _ _ _ _ _ _ _ _ _ _ _ _ _ _ _ _ _ _ _ _ _ _ _ _ _ _ _ _ _ _ _ _ _ _ _ _ _ _ _ _ _ _ _ _ _ _ _ _ _ _ _ _ _ _ _ _ _ _ _ _ _ _ _ _ _ _ _ _ _ _ _ _ _ _ _ _ _ _ _ _ _ _ _ _ _ _ _ _ _ _ _ _ _ _ _ _ _ _ _ _ _ _ _ _ _ _ _ _ _ _ _ _ _ _ _ _ _ _ _ _ _ _ _ _ _ _ _ _ _ _ _ _ _ _ _ _ _ _ _ _ _ _ _ _ _ _ _ _ _ _ _ _ _ _ _ _ _ _ _ _ _ _ _ _ _ _ _ _ _ _ _ _ _ _ _ _ _ _ _ _ _ _ _ _ _ _ _ _ _ _ _ _ _ _ _ _ _ _ _ _ _ _ _ _ _ _ _ _ _ _ _ _ _ _ _ _ ?_ ?_
      all_goals
       intros
       rename_i wx IX
       go_wp2
      ·exact ⟨⟨i + 1, _, _, _, _, rfl, rfl, rfl, rfl, by omega, IX⟩, by simp [intOf]; omega⟩
      ·exact ⟨⟨i + 1, _, _, _, _, rfl, rfl, rfl, rfl, by omega, IX⟩, by simp [intOf]; omega⟩
theorem bulk_one {H : Type} (d : DataW H) : 1 ≤ Rows.uptoBulk d := by
 cases d with
 | lit l => cases l <;> simp [Rows.uptoBulk]
 | nil => simp [Rows.uptoBulk]
 | ptr d => simp [Rows.uptoBulk]
 | slice elems spare => simp [Rows.uptoBulk]
 | agg parts => simp [Rows.uptoBulk]
 | iface t d => simp [Rows.uptoBulk]
 | map entries => simp [Rows.uptoBulk]
 | held h => simp [Rows.uptoBulk]
theorem bulk_part {H : Type} {d : DataW H} {l : List (DataW H)} (h : d ∈ l) : Rows.uptoBulk d ≤ Rows.uptoBulkAll l := by
 induction l with
 | nil => cases h
 | cons x r ih =>
  simp only [Rows.uptoBulkAll]
  cases List.mem_cons.1 h with
  | inl e => subst e; omega
  | inr e => have := ih e; omega
theorem bulk_len {H : Type} (l : List (DataW H)) : l.length ≤ Rows.uptoBulkAll l := by
 induction l with
 | nil => simp [Rows.uptoBulkAll]
 | cons x r ih => have := bulk_one x; simp only [Rows.uptoBulkAll, List.length_cons]; omega
theorem bulk_slice {H : Type} {es sp : List (DataW H)} {l : List (DataW H)} (h : (DataW.slice es sp : DataW H) ∈ l) (hk : Rows.uptoSmall H l = true) : es.length ≤ 1048576 := by
 have h1 : Rows.uptoBulkAll l ≤ 1048576 := of_decide_eq_true hk
 have h2 := bulk_part h
 have h3 := bulk_len es
 simp only [Rows.uptoBulk] at h2
 omega
end Go.Proofs.Ythhibagcpjeihaa
