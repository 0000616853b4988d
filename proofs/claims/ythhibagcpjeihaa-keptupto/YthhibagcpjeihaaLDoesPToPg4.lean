import Derived.Test.YthhibagcpjeihaaLDsk4ToBegun
import Derived.Test.YthhibagcpjeihaaLRd3ToSeat
import Derived.Handy
import Derived.Test.YthhibagcpjeihaaLReckonToPut2
import Derived.Test.YthhibagcpjeihaaLBaseToAppend
import Derived.OwnWalk
import Derived.Deep.MidRow
import Derived.Test.YthhibagcpjeihaaLOpenToWw1
import Derived.Test.YthhibagcpjeihaaLSwap2ToWr2
import Derived.Deep.DeepCutAuto
namespace Go.Proofs.Ythhibagcpjeihaa
open Go.RowKit
open Go.ChangeMaps (setBlock)
open M
set_option linter.unusedVariables false
set_option linter.unusedSimpArgs false
set_option maxRecDepth 100000
set_option maxHeartbeats 20000000
structure KpM (w : World) (ow : Nat → Nat) (kb : Nat) (now : Int) (fl : Fls) (tb N : Nat) : Prop where
 ex : ∃ K, KpL w ow kb now fl K N ∧ K.tb = tb ∧ K.T.fuse < 0
theorem KpM.mod {w w' : World} {ow : Nat → Nat} {kb tb N : Nat} {now : Int} {fl : Fls} {S : Nat → Prop} (h : KpM w ow kb now fl tb N) (hm : Mod S w w') (hs : ∀ k, ow k ≠ 0 → ¬ S k) : KpM w' ow kb now fl tb N := by
 obtain ⟨K, h1, h2⟩ := h
 exact ⟨K, h1.mod hm hs, h2⟩
theorem KpM.toH {w : World} {ow : Nat → Nat} {kb tb N : Nat} {now : Int} {fl : Fls} (h : KpM w ow kb now fl tb N) : KeepH w ow kb now fl := by
 obtain ⟨K, h1, h2⟩ := h
 exact h1.toH
theorem KpM.old {w : World} {ow : Nat → Nat} {kb tb N : Nat} {now : Int} {fl : Fls} (h : KpM w ow kb now fl tb N) : ∀ k, ow k ≠ 0 → k < w.heap.size := by
 obtain ⟨K, h1, h2⟩ := h
 obtain ⟨pt, h3⟩ := h1.keep
 exact h3.keep.old
theorem KpM.zero {w : World} {ow : Nat → Nat} {kb tb N : Nat} {now : Int} {fl : Fls} (h : KpM w ow kb now fl tb N) : fl 0 = none := by
 obtain ⟨K, h1, h2⟩ := h
 exact h1.ok.rng 0 (.inl rfl)
theorem kpm_do {w : World} {ow : Nat → Nat} {kb tb N : Nat} {now : Int} {fl : Fls} (h : KpM w ow kb now fl tb N) (hN : N + 1 ≤ 1000000000) (c : Cmd) :
  Calls Try.prog 26 #[.pointer (some ⟨kb, 0, none⟩), .agg (cmdCells c)] w fun e w' => e = .returned (.int .i64 (doK now fl c).1) ∧ (∃ ow', KpM w' ow' kb (doK now fl c).2.1 (doK now fl c).2.2 tb (N + 1) ∧ ∀ k, k < w.heap.size → ow' k = ow k) ∧ Mod (fun k => ow k ≠ 0) w w' := by
 obtain ⟨K, h1, h2, h3⟩ := h
 refine (kp_do h1 hN c).mono ?_
 rintro e w' ⟨e', rfl, hm, hy, hn⟩
 by_cases h16 : e' = 16
 ·have := (hn h16).1; omega
 ·obtain ⟨rfl, ow', K', q1, q2, q3, q4⟩ := hy h16
  exact ⟨rfl, ⟨ow', ⟨K', q1, q3.trans h2, q4 h3⟩, q2⟩, hm⟩
theorem begunP_any (w : World) :
  Calls Try.prog 14 #[.pointer (some ⟨w.heap.size, 0, none⟩)] (w.alloc (.cells tape0 103)) fun e w' => ∃ kb, e = .returned (.tuple #[.pointer (some ⟨kb, 0, none⟩), .bool true]) ∧
   (∃ ow, KpM w' ow kb 0 fl0 w.heap.size 1 ∧ ∀ k, k < w.heap.size → ow k = 0) ∧ Mod No w w' ∧ w.heap.size ≤ kb := by
 have ht : TapeH (w.alloc (.cells tape0 103)) (fun k => k = w.heap.size) w.heap.size ⟨fun _ => [], fun _ => 0, 1099511627776, -1⟩ := tape_new w 1099511627776
 have hs0 : (w.alloc (.cells tape0 103)).heap.size = w.heap.size + 1 := by simp
 have HO := hide (open_nil ht (fun k e => by rw [hs0]; omega) rfl rfl (by show ¬ (1099511627776 : Int) < 200; omega))
 have M0 := hide ((Mod.refl No w).alloc (.cells tape0 103))
 have S0 := hide hs0
 clear ht hs0
 go_enter Try.func14, Try.ntmps14
 go_wp2_with fail
 refine (unhide HO).mono ?_
 rintro e w1 ⟨kb, rfl, hx⟩
 have hne : w.heap.size ≠ kb := by have := hx.new; have := unhide S0; omega
 have hk1 := hx.keep (fun k e => by have := unhide S0; omega) (fun k => if k = kb then 1 else if k = w.heap.size then 30 else 0) (if_pos rfl) (fun k e => by rw [if_neg (by rw [e]; exact hne), if_pos e]) (fun k hk => by
  by_cases e1 : k = kb
  ·exact .inl e1
  ·rw [if_neg e1] at hk
   by_cases e2 : k = w.heap.size
   ·exact .inr e2
   ·rw [if_neg e2] at hk; exact absurd rfl hk)
 have K0 := hide (show KpM w1 (fun k => if k = kb then 1 else if k = w.heap.size then 30 else 0) kb 0 noFl w.heap.size 0 from ⟨_, ⟨⟨_, hk1⟩, rfl, DiskL.zero _ _ (by omega), FlOk.zero, rfl, by omega⟩, rfl, by show (-1 : Int) < 0; decide⟩)
 have M1 := hide ((unhide M0).trans' hx.mod (fun k (e : k = w.heap.size) hl => by omega))
 have N1 := hide (show w.heap.size ≤ kb by have := hx.new; have := unhide S0; omega)
 have l0 := hx.has.lt
 clear hx hk1 HO hne
 go_wp2_with fail
 have HD : Calls Try.prog 26 #[.pointer (some ⟨kb, 0, none⟩), .agg #[.int .i64 1, .int .i64 1, .int .i64 0, .int .i64 0, .int .i64 0, .int .i64 0, .int .i64 0, .int .i64 0, .int .i64 0, .int .i64 4, .int .i64 3, .int .i64 2, .int .i64 10, .int .i64 8, .int .i64 5, .int .i64 1]] (w1.alloc (.cells #[.int .i64 4, .int .i64 3, .int .i64 2, .int .i64 10, .int .i64 8, .int .i64 5, .int .i64 1] 35)) fun e w' => e = .returned (.int .i64 0) ∧ (∃ ow', KpM w' ow' kb 0 fl0 w.heap.size 1 ∧ ∀ k, k < (w1.alloc (.cells #[.int .i64 4, .int .i64 3, .int .i64 2, .int .i64 10, .int .i64 8, .int .i64 5, .int .i64 1] 35)).heap.size → ow' k = (fun k => if k = kb then 1 else if k = w.heap.size then 30 else 0) k) ∧ Mod (fun k => (fun k => if k = kb then 1 else if k = w.heap.size then 30 else 0) k ≠ 0) (w1.alloc (.cells #[.int .i64 4, .int .i64 3, .int .i64 2, .int .i64 10, .int .i64 8, .int .i64 5, .int .i64 1] 35)) w' := by
  have := kpm_do ((unhide K0).mod ((Mod.refl No _).alloc (.cells #[.int .i64 4, .int .i64 3, .int .i64 2, .int .i64 10, .int .i64 8, .int .i64 5, .int .i64 1] 35)) (fun _ _ x => x)) (by omega) addC
  rw [doK_begun] at this
  exact this
 refine HD.mono ?_
 rintro e w2 ⟨rfl, ⟨ow, k2, ho⟩, m2⟩
 have H0 : ∀ W, Mod No w2 W → Calls Try.prog 25 #[.pointer (some ⟨kb, 0, none⟩), .int .i64 1, .int .i64 0] W fun e w' => e = .returned (.tuple #[.int .i64 9, .int .i64 0]) ∧ Mod No W w' := fun W hW => by
  have := left_any (k2.mod hW (fun _ _ x => x)).toH 1 0
  rw [left_begun0] at this
  exact this
 have H2 : ∀ W, Mod No w2 W → Calls Try.prog 25 #[.pointer (some ⟨kb, 0, none⟩), .int .i64 1, .int .i64 2] W fun e w' => e = .returned (.tuple #[.int .i64 5, .int .i64 0]) ∧ Mod No W w' := fun W hW => by
  have := left_any (k2.mod hW (fun _ _ x => x)).toH 1 2
  rw [left_begun2] at this
  exact this
 have K2 := hide k2
 have OW := hide ho
 have M2 := hide (((unhide M1).alloc (.cells #[.int .i64 4, .int .i64 3, .int .i64 2, .int .i64 10, .int .i64 8, .int .i64 5, .int .i64 1] 35)).trans' m2 (fun i hi hl => by
  have hi : (if i = kb then 1 else if i = w.heap.size then 30 else 0) ≠ 0 := hi
  have := unhide N1
  rw [if_neg (by omega), if_neg (by omega)] at hi
  exact absurd rfl hi))
 have HH0 := hide H0
 have HH2 := hide H2
 have SW := hide (unhide M1).size
 clear H0 H2 k2 ho m2 HD K0
 go_wp2_with fail
 refine ((unhide HH0) _ (Mod.refl _ _)).mono ?_
 rintro e w3 ⟨rfl, m3⟩
 have M3 := hide m3
 clear m3
 go_wp2_with fail
 refine ((unhide HH2) _ (unhide M3)).mono ?_
 rintro e w4 ⟨rfl, m4⟩
 have M4 := hide ((unhide M3).trans m4)
 clear m4
 go_wp2
 go_ret2
 refine ⟨kb, rfl, ⟨ow, (unhide K2).mod (unhide M4) (fun _ _ x => x), fun k hk => ?_⟩, (unhide M2).trans (unhide M4), unhide N1⟩
 rw [(unhide OW) k (by have := unhide SW; simp; omega)]
 have := unhide N1
 rw [if_neg (by omega), if_neg (by omega)]
open Go.RowKit Go.WideMaps
structure FEnt where
 born : Nat
 r : Int
 c : Int
 n : Int
def FEnt.is (r c : Int) (e : FEnt) : Bool := e.r == r && e.c == c
def lookF (l : List FEnt) (r c : Int) : Option Int := (l.find? (FEnt.is r c)).map FEnt.n
set_option maxHeartbeats 2000000
attribute [local go_sem] idx40_0 idx40_1 idx40_2 idx40_3
def tb (es : List FEnt) (n c : Int) : Int := (lookF es n c).getD (-1)
theorem meq_none (w : World) : (binOp .eql 110 (.map none) (.map none)).run Try.prog w = .ok (.bool true) w := by kernel_rfl
theorem meq_some (m : Nat) (w : World) : (binOp .eql 110 (.map (some m)) (.map none)).run Try.prog w = .ok (.bool false) w := by kernel_rfl
theorem run_makeMapF (w : World) : (Instr.makeMap 110 none).run Try.prog w = .ok (.map (some w.heap.size)) (w.alloc (.map #[] 0)) := by
 simp [Instr.makeMap, newObj, Sem.run]
attribute [local go_sem] meq_none meq_some run_makeMapF
def tab (f : Nat → Int) (n : Nat) : Array Value := ((List.range n).map fun j => Value.int .i64 (f j)).toArray
theorem tab_size (f : Nat → Int) (n : Nat) : (tab f n).size = n := by simp [tab]
theorem tab_get (f : Nat → Int) (n o : Nat) (ho : o < n) : (tab f n)[o]? = some (.int .i64 (f o)) := by simp [tab, ho]
theorem tab_out (f : Nat → Int) (n o : Nat) (ho : n ≤ o) : (tab f n)[o]? = none := by simp [tab, ho]
theorem tab_set (f : Nat → Int) (n o : Nat) (v : Int) : (tab f n).setIfInBounds o (.int .i64 v) = tab (fun j => if j = o then v else f j) n := by
 apply Array.ext_getElem?
 intro i
 rw [Array.getElem?_setIfInBounds, tab_size]
 by_cases h : i < n
 ·rw [tab_get _ _ _ h, tab_get _ _ _ h]
  by_cases e : o = i
  ·subst e; simp [h]
  ·have e' : ¬ i = o := fun x => e x.symm
   simp [e, e']
 ·rw [tab_out _ _ _ (by omega), tab_out _ _ _ (by omega)]
  by_cases e : o = i
  ·subst e; simp [h]
  ·simp [e]
theorem tab_congr {f g : Nat → Int} {n : Nat} (h : ∀ j, j < n → f j = g j) : tab f n = tab g n := by
 unfold tab
 congr 1
 exact List.map_congr_left fun j hj => by rw [h j (List.mem_range.1 hj)]
theorem tab_one (f : Nat → Int) (n : Nat) : (tab f n).all (·.oneCell') = true := by
 simp [tab, Value.oneCell']
theorem results_box {P : Program} {fn : Func} {a : Tmp} {t : TypeId} (h : fn.results = #[.cell a t]) {tmps : Array Value} {b : Nat} {cells : Array Value} {T : TypeId} {w : World} (ha : tmps[a]? = some (.pointer (some ⟨b, 0, none⟩))) (hb : Has w b cells T)
  (hu : (P.underlying t).map (·.isRow) = some true) (hi : (P.info? t).map (·.size) = some cells.size) : (results fn tmps).run P w = .ok (.agg cells) w := by
 cases hd : P.underlying t with
 | none => rw [hd] at hu; simp at hu
 | some d =>
  rw [hd] at hu
  have hl := run_loadVar_mid (P := P) w b 0 t cells.toList d (hb.range 0 _ (fun j v hv => by rw [Nat.zero_add]; simpa using hv)) hd (by simpa using hu) (by simpa using hi)
  rw [show cells.toList.toArray = cells from by simp] at hl
  simp [results, h, ha, asAddr, hl]
def leftT (fl : Nat → Option (Pla × List Sea)) (j : Nat) : Int := if (leftK fl (j / 4 : Nat) (j % 4 : Nat)).2 = 0 then (leftK fl (j / 4 : Nat) (j % 4 : Nat)).1 else -1
theorem sizeLT : (Try.prog.info? 69).map (·.size) = some 84 := by kernel_rfl
theorem rowLT : (Try.prog.underlying 69).map (·.isRow) = some true := by kernel_rfl
theorem zeroLT : Try.zeroCells69 = tab (fun _ => 0) 84 := by kernel_rfl
theorem leftT_walk {w : World} {ow : Nat → Nat} {kb : Nat} {now : Int} {fl : Nat → Option (Pla × List Sea)} (h : KeepH w ow kb now fl) :
  Calls Try.prog 29 #[.pointer (some ⟨kb, 0, none⟩)] w fun e w' => e = .returned (.agg (tab (leftT fl) 84)) ∧ Mod No w w' := by
 have HL := hide fun W (hW : Mod No w W) (n c : Int) => left_any (h.mod hW (fun _ _ x => x)) n c
 clear h
 go_enter Try.func29, Try.ntmps29
 go_wp2_with fail
 go_loopw [4] (fun x wr => ∃ n : Nat, x = .int .i64 n ∧ n ≤ 21 ∧ Hid (Mod No w wr) ∧ Hid (Has wr w.heap.size (tab (fun _ => 0) 84) 69) ∧ Hid (Has wr (w.heap.size + 1) (tab (fun j => if j < 4 * n then leftT fl j else 0) 84) 69)) (fun x _ => 21 - (intOf x).toNat)
 case atStart =>
  rw [zeroLT]
  refine ⟨0, rfl, by omega, ((Mod.refl No w).alloc _).alloc _, (Has.new w _ _).alloc _, hide ?_⟩
  have := Has.new (w.alloc (.cells (tab (fun _ => 0) 84) 69)) (tab (fun _ => 0) 84) 69
  rw [World.size_alloc] at this
  rw [tab_congr (f := fun j => if j < 4 * 0 then leftT fl j else 0) (g := fun _ => 0) (fun j _ => if_neg (by omega))]
  exact this
 case round =>
  obtain ⟨n, rfl, hn, hm, h0, h1⟩ := hrel
  by_cases h21 : n = 21
  ·subst h21
   have hcond : ¬ ((21 : Nat) : Int) ≤ 20 := by omega
   have e9 : tab (fun j => if j < 4 * 21 then leftT fl j else 0) 84 = tab (leftT fl) 84 := tab_congr (fun j hj => if_pos (by omega))
   rw [e9] at h1
   go_upto_region 12 with fail
   refine wp_region_list ?_
   refine (wpList_load_has rfl 69 _ rfl (w.heap.size + 1) 0 rfl (tab (leftT fl) 84) 69 (unhide h1) (tab (leftT fl) 84) (fun j v h => by rw [Nat.zero_add]; simpa using h) rowLT (by rw [tab_size]; exact sizeLT) ?_)
   refine (wpList_store_has rfl 69 _ _ rfl (w.heap.size) (tab (leftT fl) 84) rfl rfl (tab (fun _ => 0) 84) 69 (unhide h0) (by rw [tab_size, tab_size]) (by rw [tab_size]; exact sizeLT) (tab_one _ _) ?_)
   intro w5 h5 m5
   have H5 := hide h5
   have M5 := hide ((unhide hm).trans' (S := No) m5 (fun i e hl => by subst e; omega))
   clear m5 h5 h0 h1 hm
   go_wp2
   refine bodyPost_ret (results_box Try.results29 rfl (unhide H5) rowLT (by rw [tab_size]; exact sizeLT)) rfl ?_
   exact ⟨rfl, unhide M5⟩
  have hcond : (n : Int) ≤ 20 := by omega
  go_wp2_with fail
  go_loopw [5, 6, 7] (fun y _ _ wx => ∃ c : Nat, y = .int .i64 c ∧ c ≤ 4 ∧ Hid (Mod No w wx) ∧ Hid (Has wx w.heap.size (tab (fun _ => 0) 84) 69) ∧ Hid (Has wx (w.heap.size + 1) (tab (fun j => if j < 4 * n + c then leftT fl j else 0) 84) 69)) (fun y _ _ _ => 4 - (intOf y).toNat)
  case atStart => exact ⟨0, rfl, by omega, hm, h0, h1⟩
  case round =>
   obtain ⟨c, rfl, hc, hm2, h02, h12⟩ := hrel
   by_cases h4 : c = 4
   ·subst h4
    have hcond2 : ¬ ((4 : Nat) : Int) < 4 := by omega
    go_wp2
    exact ⟨⟨n + 1, by simp, by omega, hm2, h02, by rw [show 4 * (n + 1) = 4 * n + 4 by omega]; exact h12⟩, by simp [intOf]; omega⟩
   have hcond2 : (c : Int) < 4 := by omega
   go_wp2_with fail
   refine ((unhide HL) _ (unhide hm2) n c).mono ?_
   rintro e w3 ⟨rfl, m3⟩
   have H12 := m3.has (unhide h12) (fun x => x)
   have H02 := hide (m3.has (unhide h02) (fun x => x))
   have M3 := hide ((unhide hm2).trans m3)
   have EL : leftT fl (n * 4 + c) = if (leftK fl n c).2 = 0 then (leftK fl n c).1 else -1 := by
    unfold leftT
    rw [show (n * 4 + c) / 4 = n by omega, show (n * 4 + c) % 4 = c by omega]
   have cx : w3.cell? ⟨w.heap.size + 1, n * 4 + c, none⟩ = some (.int .i64 (if n * 4 + c < 4 * n + c then leftT fl (n * 4 + c) else 0)) := by rw [H12.cell]; exact tab_get _ _ _ (by omega)
   have f12 := H12.frozen
   have l12 := H12.lt
   have FIN := hide (fun v (hv : v = leftT fl (n * 4 + c)) => (show Has (w3.setCell ⟨w.heap.size + 1, n * 4 + c, none⟩ (.int .i64 v)) (w.heap.size + 1) (tab (fun j => if j < 4 * n + (c + 1) then leftT fl j else 0) 84) 69 from by
    have h := H12.set (n * 4 + c) (.int .i64 v)
    rw [tab_set] at h
    rw [tab_congr (f := fun j => if j < 4 * n + (c + 1) then leftT fl j else 0) (g := fun j => if j = n * 4 + c then v else if j < 4 * n + c then leftT fl j else 0)]
    ·exact h
    ·intro j hj
     by_cases e : j = n * 4 + c
     ·rw [if_pos e, if_pos (by omega), e, hv]
     ·rw [if_neg e]
      by_cases e2 : j < 4 * n + c
      ·rw [if_pos e2, if_pos (by omega)]
      ·rw [if_neg e2, if_neg (by omega)]))
   have FIN2 := hide (fun v1 v (hv : v = leftT fl (n * 4 + c)) => (show Has ((w3.setCell ⟨w.heap.size + 1, n * 4 + c, none⟩ (.int .i64 v1)).setCell ⟨w.heap.size + 1, n * 4 + c, none⟩ (.int .i64 v)) (w.heap.size + 1) (tab (fun j => if j < 4 * n + (c + 1) then leftT fl j else 0) 84) 69 from by
    have h := (H12.set (n * 4 + c) (.int .i64 v1)).set (n * 4 + c) (.int .i64 v)
    rw [tab_set, tab_set] at h
    rw [tab_congr (f := fun j => if j < 4 * n + (c + 1) then leftT fl j else 0) (g := fun j => if j = n * 4 + c then v else if j = n * 4 + c then v1 else if j < 4 * n + c then leftT fl j else 0)]
    ·exact h
    ·intro j hj
     by_cases e : j = n * 4 + c
     ·rw [if_pos e, if_pos (by omega), e, hv]
     ·rw [if_neg e, if_neg e]
      by_cases e2 : j < 4 * n + c
      ·rw [if_pos e2, if_pos (by omega)]
      ·rw [if_neg e2, if_neg (by omega)]))
   have HH12 := hide H12
   clear m3 h12 h02 hm2 H12
   generalize leftT fl (n * 4 + c) = lt at *
   generalize (if n * 4 + c < 4 * n + c then lt else 0) = old at *
   generalize (leftK fl n c).1 = vl at *
   generalize (leftK fl n c).2 = er at *
   have hEL := hide EL
   clear EL
   by_cases her : er = 0
   ·have her' : (er != 0) = false := by simp [her]
    go_wp2
    exact ⟨⟨c + 1, by simp, by omega, (unhide M3).setCell (.inr (Nat.le_succ _)) _, (unhide H02).set_ne (by simp) _, (unhide FIN) _ (by rw [unhide hEL, if_pos her])⟩, by simp [intOf]; omega⟩
   ·have her' : (er != 0) = true := by simp [her]
    go_wp2
    refine ⟨⟨c + 1, by simp, by omega, ((unhide M3).setCell (.inr (Nat.le_succ _)) _).setCell (.inr (Nat.le_succ _)) _, ((unhide H02).set_ne (by simp) _).set_ne (by simp) _, ?_⟩, by simp [intOf]; omega⟩
    exact (unhide FIN2) _ _ (by rw [unhide hEL, if_neg her])
set_option maxHeartbeats 4000000
def lastAt (r c : Int) (L : List Sea) : Int × Int := match L.getLast? with
 | none => (r, c)
 | some s => (s.row, s.col)
structure PageR where
 seats : List Sea
 r : Int
 c : Int
 ep : Int
 more : Bool
 err : Int
def pageK (p : Pla) (l : List Sea) (r c e size : Int) : PageR :=
 if size < 1 ∨ size > 30 then ⟨[], 0, 0, 0, false, 12⟩
 else if (behindK p r c e).2 ≠ 0 then ⟨[], 0, 0, 0, false, (behindK p r c e).2⟩
 else ⟨(l.drop (behindK p r c e).1.toNat).take size.toNat, (lastAt r c ((l.drop (behindK p r c e).1.toNat).take size.toNat)).1, (lastAt r c ((l.drop (behindK p r c e).1.toNat).take size.toNat)).2, p.ep,
  decide ((behindK p r c e).1.toNat + ((l.drop (behindK p r c e).1.toNat).take size.toNat).length < l.length), 0⟩
structure Told (w w' : World) (e : Ending) (R : PageR) : Prop where
 ex : ∃ v, e = .returned (.tuple #[.agg #[v, .int .i64 R.r, .int .i64 R.c, .int .i64 R.ep, .bool R.more], .int .i64 R.err]) ∧ w'.ownsRow 0 61 6 v R.seats.length (R.seats.flatMap seaL) ∧ ∀ k, v.ownBlock = some k → w.heap.size ≤ k
 mod : Mod No w w'
theorem page_size (b : Nat) (r c e size : Int) (hs : size < 1 ∨ size > 30) (w : World) :
  Calls Try.prog 51 #[.pointer (some ⟨b, 0, none⟩), .agg #[.int .i64 r, .int .i64 c, .int .i64 e], .int .i64 size] w fun e w' => Told w w' e ⟨[], 0, 0, 0, false, 12⟩ := by
 have fin : ∀ o1 o2, Told w ((w.alloc o1).alloc o2) (.returned (.tuple #[.agg #[.slice none 0 0, .int .i64 0, .int .i64 0, .int .i64 0, .bool false], .int .i64 12])) ⟨[], 0, 0, 0, false, 12⟩ := fun o1 o2 =>
  ⟨⟨.slice none 0 0, rfl, World.ownsRow_nil _ _ _ _, fun k hk => by simp [Value.ownBlock] at hk⟩, ((Mod.refl _ w).alloc _).alloc _⟩
 rcases Int.lt_or_le size 1 with h1 | h1
 ·clear hs
  go_enter Try.func51, Try.ntmps51
  go_wp2
  refine bodyPost_ret (by simp [results, Try.results51, go_sem]; try rfl) rfl ?_
  exact fin _ _
 ·have h2 : size > 30 := by omega
  have h1' : ¬ size < 1 := by omega
  clear hs h1
  go_enter Try.func51, Try.ntmps51
  go_wp2
  refine bodyPost_ret (by simp [results, Try.results51, go_sem]; try rfl) rfl ?_
  exact fin _ _
theorem page_stale (b : Nat) (r c e size x : Int) (hs : 1 ≤ size ∧ size ≤ 30) (hx : x ≠ 0) (w : World)
  (hB : ∀ W, Mod No w W → Calls Try.prog 66 #[.pointer (some ⟨b, 0, none⟩), .agg #[.int .i64 r, .int .i64 c, .int .i64 e]] W fun e' w' => e' = .returned (.tuple #[.int .i64 0, .int .i64 x]) ∧ Mod No W w') :
  Calls Try.prog 51 #[.pointer (some ⟨b, 0, none⟩), .agg #[.int .i64 r, .int .i64 c, .int .i64 e], .int .i64 size] w fun e w' => Told w w' e ⟨[], 0, 0, 0, false, x⟩ := by
 have HB := hide hB
 have hne : (x != 0) = true := by simpa using hx
 have h1 : ¬ size < 1 := by omega
 have h2 : ¬ size > 30 := by omega
 have mA : Mod No w ((w.alloc (.cells #[.int .i64 r, .int .i64 c, .int .i64 e] 63)).alloc (.cells #[.slice none 0 0, .int .i64 0, .int .i64 0, .int .i64 0, .bool false] 65)) := ((Mod.refl _ w).alloc _).alloc _
 have MA := hide mA
 have nR := Has.new (w.alloc (.cells #[.int .i64 r, .int .i64 c, .int .i64 e] 63)) #[.slice none 0 0, .int .i64 0, .int .i64 0, .int .i64 0, .bool false] 65
 rw [World.size_alloc] at nR
 have NR := hide nR
 clear hB hs hx mA nR
 go_enter Try.func51, Try.ntmps51
 go_wp2_with fail
 refine ((unhide HB) _ (unhide MA)).mono ?_
 rintro e1 w1 ⟨rfl, m1⟩
 have R1 := m1.has (unhide NR) (fun x => x)
 have M1 := hide ((unhide MA).trans m1)
 have d0 : w1.cell? ⟨w.heap.size + 1, 0, none⟩ = some (.slice none 0 0) := R1.cell 0
 have d1 : w1.cell? ⟨w.heap.size + 1, 1, none⟩ = some (.int .i64 0) := R1.cell 1
 have d2 : w1.cell? ⟨w.heap.size + 1, 2, none⟩ = some (.int .i64 0) := R1.cell 2
 have d3 : w1.cell? ⟨w.heap.size + 1, 3, none⟩ = some (.int .i64 0) := R1.cell 3
 have d4 : w1.cell? ⟨w.heap.size + 1, 4, none⟩ = some (.bool false) := R1.cell 4
 have f1 := R1.frozen
 have l1 := R1.lt
 clear m1 R1
 go_wp2
 refine bodyPost_ret (by simp [results, Try.results51, go_sem, d0, d1, d2, d3, d4]; try rfl) rfl ?_
 refine ⟨⟨.slice none 0 0, rfl, World.ownsRow_nil _ _ _ _, fun k hk => by simp [Value.ownBlock] at hk⟩, ?_⟩
 have hp : ∀ o, No (⟨w.heap.size + 1, o, none⟩ : Addr).block ∨ w.heap.size ≤ (⟨w.heap.size + 1, o, none⟩ : Addr).block := fun o => .inr (by simp)
 exact (((((unhide M1).setCell (hp 0) _).setCell (hp 1) _).setCell (hp 2) _).setCell (hp 3) _).setCell (hp 4) _
attribute [local go_sem ↓] run_min2 run_max2
theorem size_draws (b : Nat) (cs : Array Value) (T : TypeId) (R C : Int) (w : World) (h : Has w b cs T) (h0 : cs[0]? = some (.int .i64 R)) (h1 : cs[1]? = some (.int .i64 C)) (hw : IntKind.i64.wrap (R * C) = R * C) :
  Calls Try.prog 67 #[.pointer (some ⟨b, 0, none⟩)] w fun e w' => e = .returned (.int .i64 (R * C)) ∧ ∃ n, w' = w.drewN n := by
 have c0 := h.cell 0
 have c1 := h.cell 1
 rw [h0] at c0
 rw [h1] at c1
 have hlt := h.lt
 clear h h0 h1
 go_enter Try.func67, Try.ntmps67
 go_wp2
 go_quiet (fail)
 go_wp2
 go_ret
 exact ⟨rfl, _, rfl⟩
structure PgI (w wr : World) (b m clock pb : Nat) (p : Pla) (l : List Sea) (es : List MEnt) (D : List Sea) (r c : Int) (more : Bool) (v : Value) (i : Nat) (j : Nat) : Prop where
 fl : FlX wr b p l m es clock
 page : Has wr pb #[v, .int .i64 (lastAt r c (D.take j)).1, .int .i64 (lastAt r c (D.take j)).2, .int .i64 p.ep, .bool more] 65
 row : wr.ownsRow 0 61 6 v i ((D.take i).flatMap seaL)
 new : ∀ k, v.ownBlock = some k → w.heap.size ≤ k ∧ k ≠ pb ∧ k ≠ w.heap.size + 1
 res : Has wr (w.heap.size + 1) #[.slice none 0 0, .int .i64 0, .int .i64 0, .int .i64 0, .bool false] 65
 pbn : w.heap.size ≤ pb ∧ pb ≠ w.heap.size + 1
 mod : Mod No w wr
theorem PgI.still {w wr w2 : World} {b m clock pb : Nat} {p : Pla} {l : List Sea} {es : List MEnt} {D : List Sea} {r c : Int} {more : Bool} {v : Value} {i j : Nat} (h : PgI w wr b m clock pb p l es D r c more v i j) (hm : Mod No wr w2) : PgI w w2 b m clock pb p l es D r c more v i j :=
 ⟨⟨hm.has h.fl.has (fun x => x), hm.map h.fl.map (fun x => x), h.fl.ok, h.fl.rel⟩, hm.has h.page (fun x => x), hm.owns h.row (fun _ _ x => x), h.new, hm.has h.res (fun x => x), h.pbn, h.mod.trans hm⟩
theorem lastAt_succ (r c : Int) (D : List Sea) (i : Nat) (hi : i < D.length) : lastAt r c (D.take (i + 1)) = (D[i].row, D[i].col) := by
 rw [take_succ D i hi]
 unfold lastAt
 rw [List.getLast?_append]
 simp
theorem PgI.put {w wr w3 : World} {b m clock pb : Nat} {p : Pla} {l : List Sea} {es : List MEnt} {D : List Sea} {r c : Int} {more : Bool} {v v' : Value} {i : Nat} (h : PgI w wr b m clock pb p l es D r c more v i i) (hi : i < D.length) (o : Obj)
  (ho : w3.ownsRow 0 61 6 v' (i + 1) (((D.take i).flatMap seaL) ++ seaL D[i])) (hg : (wr.alloc o).grownBy w3 v.ownBlock) (hs : Stays (wr.alloc o) v v') (hb : b < w.heap.size) (hm' : m < w.heap.size) :
  PgI w (w3.setCell ⟨pb, 0, none⟩ v') b m clock pb p l es D r c more v' (i + 1) i := by
 have hm1 : Mod (fun k => v.ownBlock = some k) wr w3 := ((Mod.refl _ wr).alloc o).grown hg (fun k hk => .inl hk)
 have hpb := h.page.lt
 have hres := h.res.lt
 have hm2 : Mod (fun k => v.ownBlock = some k ∨ k = pb) wr (w3.setCell ⟨pb, 0, none⟩ v') := (hm1.mono (fun _ _ x => .inl x)).setCell (p := ⟨pb, 0, none⟩) (.inl (.inr rfl)) _
 have hn : ∀ k, k < w.heap.size → ¬ (v.ownBlock = some k ∨ k = pb) := fun k hk => by
  rintro (e | e)
  ·have := (h.new k e).1; omega
  ·have := h.pbn.1; omega
 have hnew : ∀ k, v'.ownBlock = some k → w.heap.size ≤ k ∧ k ≠ pb ∧ k ≠ w.heap.size + 1 := fun k hk => by
  rcases hs k hk with h1 | h1
  ·exact h.new k h1
  ·have := h.mod.size
   simp at h1
   omega
 refine ⟨⟨hm2.has h.fl.has (hn b hb), hm2.map h.fl.map (hn m hm'), h.fl.ok, h.fl.rel⟩, ?_, ?_, hnew, hm2.has h.res ?_, h.pbn, h.mod.trans' hm2 (fun k hk hl => hn k hl hk)⟩
 ·have hp3 : Has w3 pb _ 65 := hm1.has h.page (fun e => (h.new pb e).2.1 rfl)
  exact hp3.set 0 v'
 ·have : (D.take (i + 1)).flatMap seaL = (D.take i).flatMap seaL ++ seaL D[i] := by rw [take_succ D i hi, List.flatMap_append]; simp
  rw [this]
  exact owns_setCell_ne ho (by
   intro e
   exact (hnew pb (by simpa using e)).2.1 rfl) _
 ·rintro (e | e)
  ·exact (h.new _ e).2.2 rfl
  ·exact h.pbn.2 e.symm
theorem PgI.end_ {w wr : World} {b m clock pb : Nat} {p : Pla} {l : List Sea} {es : List MEnt} {D : List Sea} {r c : Int} {more : Bool} {v : Value} {i : Nat} (h : PgI w wr b m clock pb p l es D r c more v (i + 1) i) (hi : i < D.length) (hb : b < w.heap.size) (hm' : m < w.heap.size) :
  PgI w ((wr.setCell ⟨pb, 1, none⟩ (.int .i64 D[i].row)).setCell ⟨pb, 2, none⟩ (.int .i64 D[i].col)) b m clock pb p l es D r c more v (i + 1) (i + 1) := by
 have hm2 : Mod (fun k => k = pb) wr ((wr.setCell ⟨pb, 1, none⟩ (.int .i64 D[i].row)).setCell ⟨pb, 2, none⟩ (.int .i64 D[i].col)) := ((Mod.refl _ wr).at 1 _).at 2 _
 have hn : ∀ k, k < w.heap.size → ¬ k = pb := fun k hk e => by have := h.pbn.1; omega
 refine ⟨⟨hm2.has h.fl.has (hn b hb), hm2.map h.fl.map (hn m hm'), h.fl.ok, h.fl.rel⟩, ?_, hm2.owns h.row (fun k hk e => (h.new k hk).2.1 e), h.new, hm2.has h.res (fun e => h.pbn.2 e.symm), h.pbn, h.mod.trans' hm2 (fun k hk hl => hn k hl hk)⟩
 rw [lastAt_succ r c D i hi]
 exact (h.page.set 1 _).set 2 _
end Go.Proofs.Ythhibagcpjeihaa
