import Derived.Test.YtlcbemcamdafjaaCfoldedFld4
import Derived.Test.YtlcbemcamdafjaaCfoldedReckonPut
import Derived.Test.YtlcbemcamdafjaaCfoldedTame6Script
import Derived.Test.YtlcbemcamdafjaaCfoldedLook7Swap0
import Derived.ChangeSlices
import Derived.SizedLaws
import Derived.OpenShut
/- Who folds all bulletins: two tables are compared; numbers handed in; the tables are made. -/
namespace Go.Proofs.Ytlcbemcamdafjaa
open Go.RowKit
open M
open Go.ChangeShapes Go.WideShapes Go.ChangeAt
set_option linter.unusedVariables false
set_option linter.unusedSimpArgs false
set_option maxRecDepth 100000
set_option maxHeartbeats 2000000

theorem tab_part (f : Nat → Int) (i : Nat) (hi : i < 21) : (tab f 84).extract (i * 4) (i * 4 + 4) = #[.int .i64 (f (i * 4)), .int .i64 (f (i * 4 + 1)), .int .i64 (f (i * 4 + 2)), .int .i64 (f (i * 4 + 3))] := by
  apply Array.ext
  · simp [tab_size]; omega
  · intro j h1 h2
    have hj : j < 4 := by simpa using h2
    have hg : (tab f 84)[i * 4 + j]? = some (.int .i64 (f (i * 4 + j))) := tab_get _ _ _ (by omega)
    rw [Array.getElem_extract]
    have h3 : i * 4 + j < (tab f 84).size := by rw [tab_size]; omega
    rw [Array.getElem?_eq_getElem h3] at hg
    rw [Option.some.inj hg]
    have : j = 0 ∨ j = 1 ∨ j = 2 ∨ j = 3 := by omega
    rcases this with rfl | rfl | rfl | rfl <;> rfl

theorem run_part4 (f : Nat → Int) (i : Nat) (hi : i < 21) (w : World) : (part 33 (tab f 84) (i * 4)).run Try.prog w = .ok (.agg #[.int .i64 (f (i * 4)), .int .i64 (f (i * 4 + 1)), .int .i64 (f (i * 4 + 2)), .int .i64 (f (i * 4 + 3))]) w := by
  have hs : (Try.prog.info? 33).map (·.size) = some 4 := by kernel_rfl
  cases hq : Try.prog.info? 33 with
  | none => rw [hq] at hs; simp at hs
  | some info =>
    rw [hq] at hs
    have hz : info.size = 4 := by simpa using hs
    unfold part
    simp only [Sem.run_bind, isAgg, run_underlying Try.underlying33, Result.andThen_ok, Sem.run_pure]
    have c4 : Try.prog.cellsOf 33 = 4 := by kernel_rfl
    simp [Sem.run_bind, run_sizeOf w hq, hz, c4, tab_part f i hi]

theorem eqItems_tab (n : Nat) (f : Nat → Int) (w : World) : ∀ (is : List Nat), (∀ i ∈ is, i < 21) → (Op.eqItems (n + 2) 33 4 (tab f 84) (tab f 84) is).run Try.prog w = .ok true w
  | [], _ => by simp [Op.eqItems]
  | i :: is, h => by
    have hi := h i (by simp)
    simp only [Op.eqItems, Sem.run_bind, run_part4 f i hi, Result.andThen_ok]
    rw [eq4n]
    simp only [same4_self, Result.andThen_ok, Bool.not_true, Bool.false_eq_true, if_false]
    exact eqItems_tab n f w is (fun j hj => h j (by simp [hj]))

theorem eqT (n : Nat) (f : Nat → Int) (w : World) : (Op.equalIn (n + 3) 69 (.agg (tab f 84)) (.agg (tab f 84))).run Try.prog w = .ok true w := by
  have hi : (Try.prog.info? 33).isSome = true := by kernel_rfl
  obtain ⟨i4, hi⟩ := Option.isSome_iff_exists.1 hi
  have c4 : Try.prog.cellsOf 33 = 4 := by kernel_rfl
  rw [run_equalIn_array w (n + 2) _ _ Try.underlying69 hi, c4]
  exact eqItems_tab n f w _ (fun i hi => List.mem_range.1 hi)
theorem eqT0 (f : Nat → Int) (w : World) : (Op.equalIn 9999 69 (.agg (tab f 84)) (.agg (tab f 84))).run Try.prog w = .ok true w := eqT 9996 f w
theorem eqT1 (f : Nat → Int) (w : World) : (Op.equalIn 10000 69 (.agg (tab f 84)) (.agg (tab f 84))).run Try.prog w = .ok true w := eqT 9997 f w

/-- A load of a part of a block, in a walk that serves every order. -/
theorem quiet_load {P : Program} {C : World → Prop} {a : Act} {o : Oper} {K : Act → Prop} (ty : TypeId) (x : Operand) (ho : o.op = .load ty x) (b off : Nat) (hx : a.eval x = .pointer (some ⟨b, off, none⟩)) (v : Value)
    (hl : ∀ w, C w → (loadVar ty ⟨b, off, none⟩).run P w = .ok v w) (hk : K (a.put o.dst v)) : o.quiet P a C K :=
  ⟨v, fun w hw => by
    unfold Oper.quietAt execOp
    simp only [ho, hx, Instr.loadAt, Instr.sureAddr, Sem.run_bind, Sem.run_pure, Result.andThen_ok, hl w hw]
    exact ⟨rfl, rfl⟩, hk⟩

/-- Numbers that came in. -/
def Nums (w : World) (a : Option Addr) (m : Nat) : Prop := ∀ i, i < m → ∃ b off x, a = some ⟨b, off, none⟩ ∧ w.cell? ⟨b, off + i, none⟩ = some (.int .i64 x) ∧ -9223372036854775808 ≤ x ∧ x ≤ 9223372036854775807 ∧ b < w.heap.size
theorem Nums.mod {w w' : World} {a : Option Addr} {m : Nat} (h : Nums w a m) (hm : Mod No w w') : Nums w' a m := fun i hi => by
  obtain ⟨b, off, x, h1, h2, h3, h4, h5⟩ := h i hi
  exact ⟨b, off, x, h1, mod_cell hm h2, h3, h4, Nat.lt_of_lt_of_le h5 hm.size⟩

theorem wf_i64 {x : Int} (h : (Lit.int IntKind.i64 x).wf = true) : -9223372036854775808 ≤ x ∧ x ≤ 9223372036854775807 := bounds_i64 h

section
variable {H : Type} {enc : TypeId × Value → H} {w : World} {spare : Nat → Bool} {held : Bool}
theorem open_nums {v : Value} {d : DataW H} {ps : List MemPlace} (hs : ∃ a len cap, v = .slice a len cap) (h : DataW.Trod enc Try.prog w 0 spare held 39 v d ps) :
    ∃ a n cap, v = .slice a n cap ∧ Nums w a n ∧ (d = .nil ∧ n = 0 ∨ ∃ es sp, d = .slice es sp ∧ es.length = n) := by
  obtain ⟨fuel, h⟩ := h
  rcases open_ints Try.underlying39 Try.underlying3 (by kernel_rfl) h with ⟨hv, hx⟩ | ⟨a, len, cap, zs, hv, hb, hl, hm, hz, hx, hc, hw⟩
  · exact ⟨none, 0, 0, one_cell hv hs, fun i hi => absurd hi (Nat.not_lt_zero _), .inl ⟨congrArg Prod.fst hx, rfl⟩⟩
  · have hlz : len ≤ zs.length := by rw [hz]; split <;> omega
    refine ⟨some a, len, cap, one_cell hv hs, fun i hi => ?_, .inr ⟨_, _, congrArg Prod.fst hx, by simp [lits]; omega⟩⟩
    have key := hc i (by omega)
    obtain ⟨b, off, sp⟩ := a
    have hspot : sp = none := by
      have h0 := hc 0 (by omega)
      have e0 : (⟨b, off, sp⟩ : Addr).add 0 = ⟨b, off, sp⟩ := by simp [Addr.add]
      rw [e0] at h0
      unfold World.cell? at h0
      cases sp with
      | none => rfl
      | some q =>
        exfalso
        simp at h0
        split at h0 <;> simp at h0
    subst hspot
    rw [Addr.add_mid] at key
    have hr := wf_i64 (hw _ (show zs.getD i 0 ∈ zs by
      rw [List.getD_eq_getElem?_getD, List.getElem?_eq_getElem (by omega)]
      exact List.getElem_mem (by omega)))
    refine ⟨b, off, _, rfl, key, hr.1, hr.2, ?_⟩
    unfold World.cell? at key
    simp only at key
    cases hh : w.heap[b]? with
    | none => rw [hh] at key; simp at key
    | some o => exact (Array.getElem?_eq_some_iff.1 hh).1
end
end Go.Proofs.Ytlcbemcamdafjaa
/- Who folds all bulletins: nothing is known at first: the walk. -/
namespace Go.Proofs.Ytlcbemcamdafjaa
open Go.RowKit
open M
set_option linter.unusedVariables false
set_option linter.unusedSimpArgs false
set_option maxRecDepth 100000
set_option maxHeartbeats 20000000

/-- The table as far as it is laid. -/
def lay (m : Nat) : Array Value := tab (fun j => if j < m then -1 else 0) 672
structure LayI (w wr : World) (nb m : Nat) : Prop where
  has : Has wr nb (lay m) 70
  mod : Mod (fun k => k = nb) w wr
theorem LayI.step {w wr : World} {nb m : Nat} (h : LayI w wr nb m) (hm : m < 672) : LayI w (wr.setCell ⟨nb, m, none⟩ (.int .i64 (-1))) nb (m + 1) := by
  refine ⟨?_, h.mod.at m _⟩
  have hb := h.has.set m (.int .i64 (-1))
  unfold lay at hb ⊢
  rw [tab_set] at hb
  rw [tab_congr (f := fun j => if j < m + 1 then -1 else 0) (g := fun j => if j = m then -1 else if j < m then -1 else 0)]
  · exact hb
  · intro j hj
    by_cases e : j = m
    · rw [if_pos e, if_pos (by omega)]
    · rw [if_neg e]
      by_cases e2 : j < m
      · rw [if_pos e2, if_pos (by omega)]
      · rw [if_neg e2, if_neg (by omega)]
theorem LayI.cell {w wr : World} {nb m : Nat} (h : LayI w wr nb m) (o : Nat) (ho : o < 672) : wr.cell? ⟨nb, o, none⟩ = some (.int .i64 (if o < m then -1 else 0)) := by
  rw [h.has.cell]
  exact tab_get _ _ _ ho

theorem fld_init {w0 : World} {nb : Nat} (Q0 : Exit → Act → World → Prop) (hI : Hid (LayI w0 w0 nb 0)) (sl0 sl1 sl2 sl3 sl4 sl5 sl6 sl7 sl9 sl11 sl12 sl13 sl14 sl15 sl16 sl17 sl18 sl19 sl20 sl21 sl22 sl23 sl24 sl25 sl26 sl27 sl28 sl29 sl30 sl31 sl32 sl33 sl34 sl35 sl36 sl37 sl38 sl39 sl40 sl41 sl42 sl43 sl44 sl45 sl46 sl47 sl48 sl49 sl50 sl51 sl52 sl53 sl54 sl55 sl56 sl57 sl58 sl59 sl60 sl61 sl62 sl63 sl64 sl65 sl66 sl67 sl68 sl69 sl70 sl71 sl72 sl73 sl74 sl75 sl76 sl77 sl78 sl79 sl80 sl81 sl82 sl83 sl84 sl85 sl86 sl87 sl88 sl89 sl90 sl91 sl92 sl93 sl94 sl95 sl96 sl97 sl98 sl99 sl100 sl101 sl102 sl103 sl104 sl105 sl106 sl107 sl108 sl109 sl110 sl111 sl112 sl113 sl114 sl115 sl116 sl117 sl118 sl119 sl120 sl121 sl122 sl123 sl124 sl125 sl126 sl127 sl128 sl129 sl130 sl131 sl132 sl133 sl134 sl135 sl136 sl137 sl138 sl139 sl140 sl141 sl142 sl143 sl144 sl145 sl146 sl147 sl148 sl149 sl150 sl151 sl152 sl153 sl154 sl155 sl156 sl157 sl158 sl159 sl160 sl161 sl162 sl163 sl164 sl165 sl166 sl167 sl168 sl169 sl170 sl171 sl172 sl173 sl174 sl175 sl176 sl177 sl178 sl179 sl180 sl181 sl182 sl183 sl184 sl185 sl186 sl187 sl188 sl189 sl190 : Value)
    (hexit : ∀ (x10 x11 x12 x27 x28 x29 x30 x31 x32 x33 x34 x35 x36 x37 x38 x39 x40 x41 x42 x43 x44 : Value) (wx : World), Hid (LayI w0 wx nb 672) → Q0 (.exit 0) ⟨#[sl0, sl1, sl2, sl3, sl4, sl5, sl6, sl7, .pointer (some ⟨nb, 0, none⟩), sl9, x10, x11, x12, sl13, sl14, sl15, sl16, sl17, sl18, sl19, sl20, sl21, sl22, sl23, sl24, sl25, sl26, x27, x28, x29, x30, x31, x32, x33, x34, x35, x36, x37, x38, x39, x40, x41, x42, x43, x44, sl45, sl46, sl47, sl48, sl49, sl50, sl51, sl52, sl53, sl54, sl55, sl56, sl57, sl58, sl59, sl60, sl61, sl62, sl63, sl64, sl65, sl66, sl67, sl68, sl69, sl70, sl71, sl72, sl73, sl74, sl75, sl76, sl77, sl78, sl79, sl80, sl81, sl82, sl83, sl84, sl85, sl86, sl87, sl88, sl89, sl90, sl91, sl92, sl93, sl94, sl95, sl96, sl97, sl98, sl99, sl100, sl101, sl102, sl103, sl104, sl105, sl106, sl107, sl108, sl109, sl110, sl111, sl112, sl113, sl114, sl115, sl116, sl117, sl118, sl119, sl120, sl121, sl122, sl123, sl124, sl125, sl126, sl127, sl128, sl129, sl130, sl131, sl132, sl133, sl134, sl135, sl136, sl137, sl138, sl139, sl140, sl141, sl142, sl143, sl144, sl145, sl146, sl147, sl148, sl149, sl150, sl151, sl152, sl153, sl154, sl155, sl156, sl157, sl158, sl159, sl160, sl161, sl162, sl163, sl164, sl165, sl166, sl167, sl168, sl169, sl170, sl171, sl172, sl173, sl174, sl175, sl176, sl177, sl178, sl179, sl180, sl181, sl182, sl183, sl184, sl185, sl186, sl187, sl188, sl189, sl190], []⟩ wx) :
    Code.wp Try.prog (fldLoop 0) Q0 ⟨#[sl0, sl1, sl2, sl3, sl4, sl5, sl6, sl7, .pointer (some ⟨nb, 0, none⟩), sl9, .int .i64 0, sl11, sl12, sl13, sl14, sl15, sl16, sl17, sl18, sl19, sl20, sl21, sl22, sl23, sl24, sl25, sl26, sl27, sl28, sl29, sl30, sl31, sl32, sl33, sl34, sl35, sl36, sl37, sl38, sl39, sl40, sl41, sl42, sl43, sl44, sl45, sl46, sl47, sl48, sl49, sl50, sl51, sl52, sl53, sl54, sl55, sl56, sl57, sl58, sl59, sl60, sl61, sl62, sl63, sl64, sl65, sl66, sl67, sl68, sl69, sl70, sl71, sl72, sl73, sl74, sl75, sl76, sl77, sl78, sl79, sl80, sl81, sl82, sl83, sl84, sl85, sl86, sl87, sl88, sl89, sl90, sl91, sl92, sl93, sl94, sl95, sl96, sl97, sl98, sl99, sl100, sl101, sl102, sl103, sl104, sl105, sl106, sl107, sl108, sl109, sl110, sl111, sl112, sl113, sl114, sl115, sl116, sl117, sl118, sl119, sl120, sl121, sl122, sl123, sl124, sl125, sl126, sl127, sl128, sl129, sl130, sl131, sl132, sl133, sl134, sl135, sl136, sl137, sl138, sl139, sl140, sl141, sl142, sl143, sl144, sl145, sl146, sl147, sl148, sl149, sl150, sl151, sl152, sl153, sl154, sl155, sl156, sl157, sl158, sl159, sl160, sl161, sl162, sl163, sl164, sl165, sl166, sl167, sl168, sl169, sl170, sl171, sl172, sl173, sl174, sl175, sl176, sl177, sl178, sl179, sl180, sl181, sl182, sl183, sl184, sl185, sl186, sl187, sl188, sl189, sl190], []⟩ w0 := by
  conv => arg 4; dsimp only
  conv => arg 2; whnf
  go_loopw [10] (fun s10 wr => ∃ a : Nat, s10 = .int .i64 a ∧ a ≤ 8 ∧ Hid (LayI w0 wr nb (a * 84))) (fun s _ => 8 - (intOf s).toNat)
  case atStart => exact ⟨0, rfl, by omega, hI⟩
  case round =>
    obtain ⟨a, rfl, ha, I1⟩ := hrel
    clear hI
    by_cases h8 : a < 8
    · have c1 : (a : Int) < 8 := by omega
      have a0 : (0 : Int) ≤ a := by omega
      have a1 : IntKind.i64.wrap ((a : Int) + 1) = ((a + 1 : Nat) : Int) := by rw [wrap_id _ (by omega) (by omega)]; rfl
      clear hexit
      go_wp2_with fail
      go_loopw [11] (fun s11 wr => ∃ n : Nat, s11 = .int .i64 n ∧ n ≤ 21 ∧ Hid (LayI w0 wr nb (a * 84 + n * 4))) (fun s _ => 21 - (intOf s).toNat)
      case atStart => exact ⟨0, rfl, by omega, by simpa using I1⟩
      case round =>
        obtain ⟨n, rfl, hn, I2⟩ := hrel
        clear I1
        by_cases h21 : n < 21
        · have c2 : (n : Int) < 21 := by omega
          have n0 : (0 : Int) ≤ n := by omega
          have n1 : IntKind.i64.wrap ((n : Int) + 1) = ((n + 1 : Nat) : Int) := by rw [wrap_id _ (by omega) (by omega)]; rfl
          go_wp2_with fail
          go_loopw [12] (fun s12 wr => ∃ c : Nat, s12 = .int .i64 c ∧ c ≤ 4 ∧ Hid (LayI w0 wr nb (a * 84 + n * 4 + c))) (fun s _ => 4 - (intOf s).toNat)
          case atStart => exact ⟨0, rfl, by omega, I2⟩
          case round =>
            obtain ⟨c, rfl, hc, I3⟩ := hrel
            clear I2
            by_cases h4 : c < 4
            · have c3 : (c : Int) < 4 := by omega
              have k0 : (0 : Int) ≤ c := by omega
              have k1 : IntKind.i64.wrap ((c : Int) + 1) = ((c + 1 : Nat) : Int) := by rw [wrap_id _ (by omega) (by omega)]; rfl
              have cx := (unhide I3).cell (a * 84 + n * 4 + c) (by omega)
              have fx := (unhide I3).has.frozen
              have lx := (unhide I3).has.lt
              have NX := hide ((unhide I3).step (by omega))
              clear I3
              go_wp2
              exact ⟨⟨c + 1, rfl, by omega, NX⟩, by simp [intOf]; omega⟩
            · have c3 : ¬ (c : Int) < 4 := by omega
              have NX := hide (show LayI w0 wr nb (a * 84 + (n + 1) * 4) from by
                have h := unhide I3
                rw [show c = 4 by omega] at h
                rw [show a * 84 + (n + 1) * 4 = a * 84 + n * 4 + 4 by omega]
                exact h)
              clear I3
              go_wp2
              exact ⟨⟨n + 1, rfl, by omega, NX⟩, by simp [intOf]; omega⟩
        · have c2 : ¬ (n : Int) < 21 := by omega
          have NX := hide (show LayI w0 wr nb ((a + 1) * 84) from by
            have h := unhide I2
            rw [show n = 21 by omega] at h
            rw [show (a + 1) * 84 = a * 84 + 21 * 4 by omega]
            exact h)
          clear I2
          go_wp2
          exact ⟨⟨a + 1, rfl, by omega, NX⟩, by simp [intOf]; omega⟩
    · have c1 : ¬ (a : Int) < 8 := by omega
      have NX := hide (show LayI w0 wr nb 672 from by
        have h := unhide I1
        rw [show a = 8 by omega] at h
        exact h)
      clear I1
      go_wp2
end Go.Proofs.Ytlcbemcamdafjaa
