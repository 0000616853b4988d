import Derived.Test.YthhibagcpjeihaaGreatHBaseToMaps
import Derived.Test.YthhibagcpjeihaaGreatHOpArgsToPg4
import Derived.Test.YthhibagcpjeihaaGreatHRef31ToRef34
import Derived.Test.YthhibagcpjeihaaGreatHPg5ToLaw8
import Derived.Test.YthhibagcpjeihaaGreatHKeepDToRef17
import Derived.Test.YthhibagcpjeihaaGreatHRef18ToRef22
import Derived.Test.YthhibagcpjeihaaGreatHLaw13ToRFacts2
namespace Go.Proofs.YthhibagcpjeihaaGreat
open Go.RowKit
open M
set_option linter.unusedVariables false
set_option linter.unusedSimpArgs false
set_option maxRecDepth 100000
set_option maxHeartbeats 8000000
theorem same_pages {w : World} {D : List Sea} {v1 v2 : Value} {r c e : Int} {more : Bool} (h1 : w.ownsRow 0 63 6 v1 D.length (D.flatMap seaL)) (h2 : w.ownsRow 0 63 6 v2 D.length (D.flatMap seaL)) (hl : D.length ≤ 120) :
  Calls Tryz.prog 65 #[.agg #[v1, .int .i64 r, .int .i64 c, .int .i64 e, .bool more], .agg #[v2, .int .i64 r, .int .i64 c, .int .i64 e, .bool more]] w fun e w' => e = .returned (.bool true) ∧ Mod No w w' := by
 obtain ⟨a1, c1, rfl⟩ := slice_of_owns h1
 obtain ⟨a2, c2, rfl⟩ := slice_of_owns h2
 have m2 : Mod No w ((w.alloc (.cells #[.slice a1 D.length c1, .int .i64 r, .int .i64 c, .int .i64 e, .bool more] 146)).alloc (.cells #[.slice a2 D.length c2, .int .i64 r, .int .i64 c, .int .i64 e, .bool more] 146)) := ((Mod.refl No w).alloc _).alloc _
 have M2 := hide m2
 have X1 := hide ((Has.new w #[.slice a1 D.length c1, .int .i64 r, .int .i64 c, .int .i64 e, .bool more] 146).alloc (.cells #[.slice a2 D.length c2, .int .i64 r, .int .i64 c, .int .i64 e, .bool more] 146))
 have X2 := hide (Has.new (w.alloc (.cells #[.slice a1 D.length c1, .int .i64 r, .int .i64 c, .int .i64 e, .bool more] 146)) #[.slice a2 D.length c2, .int .i64 r, .int .i64 c, .int .i64 e, .bool more] 146)
 have H1 := hide h1
 have H2 := hide h2
 have HL := hide hl
 clear h1 h2 hl m2
 go_enter Tryz.func65, Tryz.ntmps65
 rw [World.size_alloc] at X2
 go_upto_region 1 with fail
 generalize (w.alloc (.cells #[.slice a1 D.length c1, .int .i64 r, .int .i64 c, .int .i64 e, .bool more] 146)).alloc (.cells #[.slice a2 D.length c2, .int .i64 r, .int .i64 c, .int .i64 e, .bool more] 146) = w2 at *
 generalize w.heap.size + 1 = b2 at *
 generalize w.heap.size = b1 at *
 have x0 : w2.cell? ⟨b1, 0, none⟩ = some (.slice a1 D.length c1) := (unhide X1).cell 0
 have x1 : w2.cell? ⟨b1, 1, none⟩ = some (.int .i64 r) := (unhide X1).cell 1
 have x2 : w2.cell? ⟨b1, 2, none⟩ = some (.int .i64 c) := (unhide X1).cell 2
 have x3 : w2.cell? ⟨b1, 3, none⟩ = some (.int .i64 e) := (unhide X1).cell 3
 have x4 : w2.cell? ⟨b1, 4, none⟩ = some (.bool more) := (unhide X1).cell 4
 have xl := (unhide X1).lt
 have y0 : w2.cell? ⟨b2, 0, none⟩ = some (.slice a2 D.length c2) := (unhide X2).cell 0
 have y1 : w2.cell? ⟨b2, 1, none⟩ = some (.int .i64 r) := (unhide X2).cell 1
 have y2 : w2.cell? ⟨b2, 2, none⟩ = some (.int .i64 c) := (unhide X2).cell 2
 have y3 : w2.cell? ⟨b2, 3, none⟩ = some (.int .i64 e) := (unhide X2).cell 3
 have y4 : w2.cell? ⟨b2, 4, none⟩ = some (.bool more) := (unhide X2).cell 4
 have yl := (unhide X2).lt
 have hbm : (more != more) = false := by cases more <;> rfl
 go_upto_region 3 with fail
 clear x0 x1 x2 x3 x4 xl y0 y1 y2 y3 y4 yl
 go_wp2_with fail
 go_loopw [5] (fun s wx => ∃ j : Nat, s = .int .i64 (j : Int) ∧ j ≤ D.length ∧ Hid (Mod No w2 wx)) (fun s _ => D.length - (intOf s).toNat)
 case atStart => exact ⟨0, rfl, by omega, Mod.refl _ _⟩
 case round =>
  obtain ⟨j, rfl, hj, M1⟩ := hrel
  have hl := unhide HL
  have x0 : wr.cell? ⟨b1, 0, none⟩ = some (.slice a1 D.length c1) := ((unhide M1).has (unhide X1) (fun x => x)).cell 0
  have xl := ((unhide M1).has (unhide X1) (fun x => x)).lt
  have y0 : wr.cell? ⟨b2, 0, none⟩ = some (.slice a2 D.length c2) := ((unhide M1).has (unhide X2) (fun x => x)).cell 0
  have yl := ((unhide M1).has (unhide X2) (fun x => x)).lt
  by_cases hjl : j < D.length
  ·have hji : (j : Int) < (D.length : Int) := by omega
   have hj0 : (0 : Int) ≤ j := by omega
   have hj1 : IntKind.i64.wrap ((j : Int) + 1) = ((j + 1 : Nat) : Int) := by rw [wrap_id _ (by omega) (by omega)]; rfl
   obtain ⟨g1, e1, R1⟩ := rowS_some (unhide H1) (by omega)
   obtain ⟨g2, e2, R2⟩ := rowS_some (unhide H2) (by omega)
   subst e1
   subst e2
   have Q1 := R1.mod ((unhide M2).trans (unhide M1)) (fun x => x)
   have Q2 := R2.mod ((unhide M2).trans (unhide M1)) (fun x => x)
   have p0 := Q1.row j hjl
   have p1 := Q1.col j hjl
   have p2 := Q1.st j hjl
   have p3 := Q1.pa j hjl
   have p4 := Q1.cl j hjl
   have p5 := Q1.un j hjl
   have q0 := Q2.row j hjl
   have q1 := Q2.col j hjl
   have q2 := Q2.st j hjl
   have q3 := Q2.pa j hjl
   have q4 := Q2.cl j hjl
   have q5 := Q2.un j hjl
   have gl1 := Q1.lt
   have gl2 := Q2.lt
   clear R1 R2 Q1 Q2
   generalize D[j] = s at *
   have MN := hide (((unhide M1).alloc (.cells #[.int .i64 s.row, .int .i64 s.col, .int .i64 s.st, .int .i64 s.pa, .int .i64 s.cl, .int .i64 s.un] 63)).alloc (.cells #[.int .i64 s.row, .int .i64 s.col, .int .i64 s.st, .int .i64 s.pa, .int .i64 s.cl, .int .i64 s.un] 63))
   go_wp2
   exact ⟨⟨j + 1, rfl, by omega, MN⟩, by simp [intOf]; omega⟩
  ·have hji : ¬ (j : Int) < (D.length : Int) := by omega
   have FIN := hide ((unhide M2).trans (unhide M1))
   go_wp2
   go_ret
   exact ⟨rfl, unhide FIN⟩
set_option maxHeartbeats 2000000
theorem behindK_err {p : Pla} {r c e : Int} (h : (behindK p r c e).2 ≠ 0) : (behindK p r c e).1 = 0 := by
 unfold behindK at *
 split
 ·rfl
 ·split
  ·rfl
  ·split
   ·rfl
   ·rename_i h1 h2 h3
    rw [if_neg h1, if_neg h2, if_neg h3] at h
    exact absurd rfl h
theorem behindK_le {p : Pla} {l : List Sea} (hwf : Wf p l) (r c e : Int) : 0 ≤ (behindK p r c e).1 ∧ (behindK p r c e).1.toNat ≤ l.length := by
 unfold behindK
 split
 ·simp
 ·split
  ·simp
  ·split
   ·simp
   ·rename_i h1 h2 h3
    have := Fli.wf.idx_lt hwf (r := r) (c := c) (by simpa using h3)
    simp only at this ⊢
    omega
theorem page_any {w : World} {b m clock : Nat} {p : Pla} {l : List Sea} {es : List MEnt} (h : FlX w b p l m es clock) (hwf : Wf p l) (r c e size : Int) :
  Calls Tryz.prog 92 #[.pointer (some ⟨b, 0, none⟩), .agg #[.int .i64 r, .int .i64 c, .int .i64 e], .int .i64 size] w fun e' w' => Told w w' e' (pageK p l r c e size) := by
 unfold pageK
 by_cases hs : size < 1 ∨ size > 30
 ·rw [if_pos hs]
  exact page_size b r c e size hs w
 rw [if_neg hs]
 have hB : ∀ W, Mod No w W → Calls Tryz.prog 114 #[.pointer (some ⟨b, 0, none⟩), .agg #[.int .i64 r, .int .i64 c, .int .i64 e]] W fun e' w' => e' = .returned (.tuple #[.int .i64 (behindK p r c e).1, .int .i64 (behindK p r c e).2]) ∧ Mod No W w' :=
  fun W hW => behind_any (⟨hW.has h.has (fun x => x), hW.map h.map (fun x => x), h.ok, h.rel⟩ : FlX W b p l m es clock) hwf r c e
 by_cases hx : (behindK p r c e).2 ≠ 0
 ·rw [if_pos hx]
  refine page_stale b r c e size _ (by omega) hx w (fun W hW => ?_)
  have := hB W hW
  rw [behindK_err hx] at this
  exact this
 rw [if_neg hx]
 obtain ⟨h0, h1⟩ := behindK_le hwf r c e
 have hx0 : (behindK p r c e).2 = 0 := by omega
 refine page_walk h hwf r c e size (by omega) (behindK p r c e).1.toNat h1 (fun W hW => ?_) _ rfl
 have := hB W hW
 rw [hx0] at this
 rw [Int.toNat_of_nonneg h0]
 exact this
def seatsK (fl : Nat → Option (Pla × List Sea)) (n r c e size : Int) : PageR :=
 if ¬ (1 ≤ n ∧ n ≤ 20) then ⟨[], 0, 0, 0, false, 2⟩
 else match fl n.toNat with
  | none => ⟨[], 0, 0, 0, false, 2⟩
  | some x => pageK x.1 x.2 r c e size
theorem seats_none (kb : Nat) (n r c e size : Int) (w : World) (hF : ∀ W, Mod No w W → Calls Tryz.prog 59 #[.pointer (some ⟨kb, 0, none⟩), .int .i64 n] W fun e w' => e = .returned (.pointer none) ∧ w' = W) :
  Calls Tryz.prog 63 #[.pointer (some ⟨kb, 0, none⟩), .int .i64 n, .agg #[.int .i64 r, .int .i64 c, .int .i64 e], .int .i64 size] w fun e' w' => Told w w' e' ⟨[], 0, 0, 0, false, 2⟩ := by
 have HF := hide hF
 have mA : Mod No w ((w.alloc (.cells #[.int .i64 r, .int .i64 c, .int .i64 e] 43)).alloc (.cells #[.slice none 0 0, .int .i64 0, .int .i64 0, .int .i64 0, .bool false] 146)) := ((Mod.refl _ w).alloc _).alloc _
 have MA := hide mA
 clear hF mA
 go_enter Tryz.func63, Tryz.ntmps63
 go_wp2_with fail
 refine ((unhide HF) _ (unhide MA)).mono ?_
 rintro e1 w1 ⟨rfl, rfl⟩
 go_wp2
 refine bodyPost_ret (by simp [results, Tryz.results63, go_sem]; try rfl) rfl ?_
 exact ⟨⟨.slice none 0 0, rfl, World.ownsRow_nil _ _ _ _, fun k hk => by simp [Value.ownBlock] at hk⟩, unhide MA⟩
theorem seats_walk (kb b : Nat) (n r c e size : Int) (R : PageR) (w : World) (hF : ∀ W, Mod No w W → Calls Tryz.prog 59 #[.pointer (some ⟨kb, 0, none⟩), .int .i64 n] W fun e w' => e = .returned (.pointer (some ⟨b, 0, none⟩)) ∧ w' = W)
  (hP : ∀ W, Mod No w W → Calls Tryz.prog 92 #[.pointer (some ⟨b, 0, none⟩), .agg #[.int .i64 r, .int .i64 c, .int .i64 e], .int .i64 size] W fun e' w' => Told W w' e' R) :
  Calls Tryz.prog 63 #[.pointer (some ⟨kb, 0, none⟩), .int .i64 n, .agg #[.int .i64 r, .int .i64 c, .int .i64 e], .int .i64 size] w fun e' w' => Told w w' e' R := by
 have HF := hide hF
 have HP := hide hP
 have mA : Mod No w ((w.alloc (.cells #[.int .i64 r, .int .i64 c, .int .i64 e] 43)).alloc (.cells #[.slice none 0 0, .int .i64 0, .int .i64 0, .int .i64 0, .bool false] 146)) := ((Mod.refl _ w).alloc _).alloc _
 have MA := hide mA
 have nR := Has.new (w.alloc (.cells #[.int .i64 r, .int .i64 c, .int .i64 e] 43)) #[.slice none 0 0, .int .i64 0, .int .i64 0, .int .i64 0, .bool false] 146
 rw [World.size_alloc] at nR
 have NR := hide nR
 clear hF hP mA nR
 go_enter Tryz.func63, Tryz.ntmps63
 go_wp2_with fail
 refine ((unhide HF) _ (unhide MA)).mono ?_
 rintro e1 w1 ⟨rfl, rfl⟩
 go_wp2_with fail
 refine ((unhide HP) _ (unhide MA)).mono ?_
 rintro e2 w2 ⟨⟨v, rfl, ho, hn⟩, m2⟩
 obtain ⟨a2, c2, rfl⟩ := slice_of_owns ho
 have R2 := m2.has (unhide NR) (fun x => x)
 have M2 := hide ((unhide MA).trans m2)
 have HO := hide ho
 have HN := hide (fun k hk => (show w.heap.size + 2 ≤ k from by have := hn k hk; simpa using this))
 have d0 : w2.cell? ⟨w.heap.size + 1, 0, none⟩ = some (.slice none 0 0) := R2.cell 0
 have d1 : w2.cell? ⟨w.heap.size + 1, 1, none⟩ = some (.int .i64 0) := R2.cell 1
 have d2 : w2.cell? ⟨w.heap.size + 1, 2, none⟩ = some (.int .i64 0) := R2.cell 2
 have d3 : w2.cell? ⟨w.heap.size + 1, 3, none⟩ = some (.int .i64 0) := R2.cell 3
 have d4 : w2.cell? ⟨w.heap.size + 1, 4, none⟩ = some (.bool false) := R2.cell 4
 have f1 := R2.frozen
 have l1 := R2.lt
 clear m2 R2 ho hn HF HP MA NR
 go_wp2
 refine bodyPost_ret (by simp [results, Tryz.results63, go_sem, d0, d1, d2, d3, d4]; try rfl) rfl ?_
 have hp : ∀ o, No (⟨w.heap.size + 1, o, none⟩ : Addr).block ∨ w.heap.size ≤ (⟨w.heap.size + 1, o, none⟩ : Addr).block := fun o => .inr (by simp)
 refine ⟨⟨_, rfl, ?_, fun k hk => by have := (unhide HN) k hk; omega⟩, (((((unhide M2).setCell (hp 0) _).setCell (hp 1) _).setCell (hp 2) _).setCell (hp 3) _).setCell (hp 4) _⟩
 exact ((((Mod.refl (fun k => k = w.heap.size + 1) w2).at 0 _).at 1 _).at 2 _ |>.at 3 _ |>.at 4 _).owns (unhide HO) (fun k hk e => by have := (unhide HN) k hk; omega)
theorem seats_any {w : World} {ow : Nat → Nat} {kb : Nat} {now : Int} {fl : Nat → Option (Pla × List Sea)} (h : KeepH w ow kb now fl) (n r c e size : Int) :
  Calls Tryz.prog 63 #[.pointer (some ⟨kb, 0, none⟩), .int .i64 n, .agg #[.int .i64 r, .int .i64 c, .int .i64 e], .int .i64 size] w fun e' w' => Told w w' e' (seatsK fl n r c e size) := by
 obtain ⟨pt, h⟩ := h
 unfold seatsK
 by_cases hn : 1 ≤ n ∧ n ≤ 20
 case neg =>
  rw [if_pos hn]
  exact seats_none kb n r c e size w (fun W _ => find_no kb n hn W)
 rw [if_neg (by simpa using hn)]
 have hfn : ((n.toNat : Nat) : Int) = n := by omega
 have hF : ∀ W, Mod No w W → Calls Tryz.prog 59 #[.pointer (some ⟨kb, 0, none⟩), .int .i64 n] W fun e w' => e = .returned (pv (pt n.toNat)) ∧ w' = W := fun W hW => by
  have := find_any (h.mod hW (fun _ _ x => x)) n.toNat (by omega)
  rw [hfn] at this
  exact this
 cases hfl : fl n.toNat with
 | none =>
  rw [h.gone _ (by omega) hfl] at hF
  exact seats_none kb n r c e size w hF
 | some x =>
  obtain ⟨p, l⟩ := x
  obtain ⟨b, hp, hwf, hfh⟩ := h.here _ p l (by omega) hfl
  rw [hp] at hF
  simp only
  exact seats_walk kb b n r c e size _ w hF (fun W hW => by
   obtain ⟨m, es, clock, q1, q2, q3, q4, _⟩ := hfh.mod0 hW
   exact page_any ⟨q1, q2, q3, q4⟩ hwf r c e size)
set_option maxHeartbeats 8000000
def zeroPg : Array Value := #[.slice none 0 0, .int .i64 0, .int .i64 0, .int .i64 0, .bool false]
theorem wseats_no {w : World} {ow : Nat → Nat} {wb : Nat} {v : Value} {xs : List FR} {now : Int} (h : WorR w ow wb v xs now) (n r c e size : Int) (hn : findN xs n = -1) :
  Calls Tryz.prog 64 #[.pointer (some ⟨wb, 0, none⟩), .int .i64 n, .agg #[.int .i64 r, .int .i64 c, .int .i64 e], .int .i64 size] w fun e' w' => Told w w' e' ⟨[], 0, 0, 0, false, 2⟩ := by
 have M0 : Mod No w ((w.alloc (.cells #[.int .i64 r, .int .i64 c, .int .i64 e] 43)).alloc (.cells #[.slice none 0 0, .int .i64 0, .int .i64 0, .int .i64 0, .bool false] 146)) := ((Mod.refl _ w).alloc _).alloc _
 have HF := (h.mod M0 (fun _ _ x => x)).find n
 rw [hn] at HF
 have HF := hide HF
 have R0 := Has.new (w.alloc (.cells #[.int .i64 r, .int .i64 c, .int .i64 e] 43)) #[.slice none 0 0, .int .i64 0, .int .i64 0, .int .i64 0, .bool false] 146
 rw [World.size_alloc] at R0
 have FIN := hide (show Told w (((w.alloc (.cells #[.int .i64 r, .int .i64 c, .int .i64 e] 43)).alloc (.cells #[.slice none 0 0, .int .i64 0, .int .i64 0, .int .i64 0, .bool false] 146))) (.returned (.tuple #[.agg #[.slice none 0 0, .int .i64 0, .int .i64 0, .int .i64 0, .bool false], .int .i64 2])) ⟨[], 0, 0, 0, false, 2⟩ from
  ⟨⟨.slice none 0 0, rfl, World.ownsRow_nil _ _ _ _, fun k hk => by simp [Value.ownBlock] at hk⟩, M0⟩)
 clear h hn M0 R0
 go_enter Tryz.func64, Tryz.ntmps64
 go_wp2_with fail
 refine (unhide HF).mono ?_
 rintro e w1 ⟨rfl, rfl⟩
 go_wp2
 refine bodyPost_ret (by simp [results, Tryz.results64, go_sem]; try rfl) rfl ?_
 exact unhide FIN
theorem owns_prefix {w : World} {e : TypeId} {size n m cap g : Nat} {xs news : List Value} (h : w.ownsRow 0 e size (.slice (some ⟨g, 0, none⟩) (n + m) cap) (n + m) (xs ++ news)) (hl : xs.length = n * size) : w.ownsRow 0 e size (.slice (some ⟨g, 0, none⟩) n cap) n xs := by
 rcases h.2 with ⟨h1, _⟩ | ⟨g', cap', cur, hv, hb, hg, hn, hm, hsz, ht⟩
 ·cases h1
 ·injection hv with e1 e2 e3
  injection e1 with e1
  injection e1 with e1
  subst e1 e3
  refine ⟨hl, .inr ⟨g, cap, cur, rfl, Nat.zero_le _, hg, by omega, hm, hsz, ?_⟩⟩
  have : (cur.toList.take ((n + m) * size)).take (n * size) = (xs ++ news).take (n * size) := by rw [ht]
  rw [List.take_take, Nat.min_eq_left (Nat.mul_le_mul_right _ (by omega)), ← hl, List.take_left' rfl] at this
  rw [← hl]
  exact this
theorem run_append_row2 {P : Program} (w : World) (t ty e : TypeId) (i : TypeInfo) (z : Value) (size bytes : Nat) (ht : P.underlying t = some (.slice e)) (hi : P.info? e = some i) (hz : i.zero = some z)
  (hsize : i.size = size) (hby : i.bytes = bytes) (hzs : z.cells.size = size) (hsz : 0 < size)
  (v : Value) (n : Nat) (xs : List Value) (hown : w.ownsRow 0 e size v n xs)
  (x : Value) (m : Nat) (news : List Value) (hx : Reads w x m news) (hl : news.length = m * size) (h1 : ∀ u ∈ news, u.oneCell' = true)
  (h63 : n + m ≤ maxLen) (hbytes : (n + m) * bytes ≤ 140737488355328) :
  ∃ v' w', (Builtin.append_ #[t, t] ty #[v, x]).run P w = .ok v' w' ∧ w'.ownsRow 0 e size v' (n + m) (xs ++ news) ∧ w.grownBy w' v.ownBlock ∧ Stays w v v' ∧ w'.ownsRow 0 e size v n xs ∧ (v'.ownBlock = v.ownBlock ∨ Mod No w w') := by
 have hsame : w.grownBy w v.ownBlock := ⟨rfl, rfl, rfl, Nat.le_refl _, fun _ _ _ => rfl⟩
 rcases hx with ⟨rfl, rfl⟩ | ⟨ad, c, rfl, hc⟩
 ·obtain rfl : news = [] := List.eq_nil_of_length_eq_zero (by simpa using hl)
  refine ⟨v, w, ?_, by simpa using hown, hsame, fun k hk => .inl hk, hown, .inl rfl⟩
  rcases hown.2 with ⟨rfl, rfl⟩ | ⟨g, cap, cur, rfl, _, _, hnc, _⟩
  ·simp [Builtin.append_, run_underlying ht, sizeOf, typeInfo, hi, Builtin.lenOf, Builtin.firstCells, loadCells, loadCellsFrom]
  ·simp [Builtin.append_, run_underlying ht, sizeOf, typeInfo, hi, Builtin.lenOf, Builtin.firstCells, loadCells, loadCellsFrom, hnc, storeCells]
 ·have hown' := hown
  rcases hown.2 with ⟨rfl, rfl⟩ | ⟨g, cap, cur, rfl, _, hg, hnc, hcm, hcs, htake⟩
  ·obtain rfl : xs = [] := List.eq_nil_of_length_eq_zero (by simpa using hown.1)
   obtain ⟨v', w', hr, h2, h3, h4⟩ := run_append_own (P := P) w w.heap.size t ty e i z size bytes ht hi hz hsize hby hzs hsz (.slice none 0 0) 0 [] (World.ownsRow_nil _ _ _ _) ad m c news hl hc h1 h63 hbytes (Nat.le_refl _)
   refine ⟨v', w', hr, ⟨h2.1, ?_⟩, h3, fun k hk => .inr (h2.lt k hk).1, World.ownsRow_nil _ _ _ _, .inr ⟨h3.os, h3.tape, h3.output, h3.size, fun k hk _ => h3.block k hk (by simp [Value.ownBlock])⟩⟩
   rcases h2.2 with h | ⟨g, cap, cur, hv, _, r⟩
   ·exact .inl h
   ·exact .inr ⟨g, cap, cur, hv, Nat.zero_le _, r⟩
  ·by_cases hroom : n + m ≤ cap
   ·subst hsize
    have hfit : n * i.size + news.length ≤ cur.size := by rw [hl, hcs, ← Nat.add_mul]; exact Nat.mul_le_mul_right _ hroom
    have hr := run_append_room (P := P) w t ty e i ht hi g n cap cur hg ad m c news hl hc h1 hroom hfit
    obtain ⟨v', w', hr2, h2, h3, _⟩ := run_append_own (P := P) w 0 t ty e i z i.size bytes ht hi hz rfl hby hzs hsz _ n xs hown ad m c news hl hc h1 h63 hbytes (Nat.zero_le _)
    rw [hr] at hr2
    injection hr2 with e1 e2
    subst e1
    subst e2
    exact ⟨_, _, hr, h2, h3, fun k hk => .inl hk, owns_prefix h2 hown.1, .inl rfl⟩
   ·obtain ⟨v', w', hr, h2, h3⟩ := run_append_arg_grows (P := P) w t ty e i z size bytes ht hi hz hsize hby hzs hsz ⟨g, 0, none⟩ n cap xs hown.1 (hown.cells rfl) ad m c news hl hc (by omega) h63 hbytes
    refine ⟨v', w', hr, ⟨h2.1, ?_⟩, ⟨h3.os, h3.tape, h3.output, h3.size, fun k hk _ => h3.block k hk (by simp)⟩, fun k hk => .inr (h2.lt k hk).1, ?_, .inr ⟨h3.os, h3.tape, h3.output, h3.size, fun k hk _ => h3.block k hk (by simp)⟩⟩
    ·rcases h2.2 with h | ⟨g, cap, cur, hv, _, r⟩
     ·exact .inl h
     ·exact .inr ⟨g, cap, cur, hv, Nat.zero_le _, r⟩
    ·refine ⟨hown.1, .inr ⟨g, cap, cur, rfl, Nat.zero_le _, ?_, hnc, hcm, hcs, htake⟩⟩
     rw [h3.block g (Array.getElem?_eq_some_iff.1 hg).1 (by simp)]
     exact hg
theorem wp_append_row2 {P : Program} {w : World} {o : Oper} {a : Act} {K : Act → World → Prop} {Q : Exit → Act → World → Prop} (s y : Operand) (t : TypeId)
  (ho : o.op = .call { callee := .builtin .append, args := #[s, y], argTypes := #[t, t] })
  (e : TypeId) (i : TypeInfo) (z : Value) (size bytes : Nat) (ht : P.underlying t = some (.slice e)) (hi : P.info? e = some i) (hz : i.zero = some z)
  (hsize : i.size = size) (hby : i.bytes = bytes) (hzs : z.cells.size = size) (hsz : 0 < size)
  (v : Value) (n : Nat) (xs : List Value) (hs : a.eval s = v) (hown : w.ownsRow 0 e size v n xs)
  (x : Value) (m : Nat) (news : List Value) (hx : a.eval y = x) (hr : Reads w x m news) (hl : news.length = m * size) (h1 : ∀ u ∈ news, u.oneCell' = true)
  (h63 : n + m ≤ maxLen) (hbytes : (n + m) * bytes ≤ 140737488355328)
  (h : ∀ v' w', w'.ownsRow 0 e size v' (n + m) (xs ++ news) → w.grownBy w' v.ownBlock → Stays w v v' → w'.ownsRow 0 e size v n xs → (v'.ownBlock = v.ownBlock ∨ Mod No w w') → K (a.put o.dst v') w') : o.wp P a w K Q := by
 obtain ⟨v', w', hr, h2, h3, h4, h5, h6⟩ := run_append_row2 (P := P) w t o.type e i z size bytes ht hi hz hsize hby hzs hsz v n xs hown x m news hr hl h1 h63 hbytes
 unfold Oper.wp execOp
 simp only [ho, resolve, invoke, builtin, Sem.run_bind, Sem.run_pure, Result.andThen_ok, List.map_toArray, List.map_cons, List.map_nil, hs, hx, hr]
 exact h v' w' h2 h3 h4 h5 h6
theorem owns_again {w w' : World} {e : TypeId} {size n m : Nat} {v v' u : Value} {xs news : List Value} (hsz : 0 < size) (hnm : 0 < n + m) (hown : w.ownsRow 0 e size v n xs) (ho : w'.ownsRow 0 e size v' (n + m) (xs ++ news)) (hg : w.grownBy w' v.ownBlock) (hin : v'.ownBlock = v.ownBlock ∨ Mod No w w') (hst : w'.ownsRow 0 e size v n xs)
  (hu : w.ownsRow 0 e size u (n + m) (xs ++ news)) : w'.ownsRow 0 e size u (n + m) (xs ++ news) := by
 rcases hin with hin | hin
 ·by_cases huv : u.ownBlock = v.ownBlock
  ·obtain ⟨h0, h1 | ⟨g, cap, cur, rfl, _, hh, q1, q2, q3, q4⟩⟩ := hu
   ·omega
   ·obtain ⟨k0, k1 | ⟨g2, cap2, cur2, rfl, _, hh2, p1, p2, p3, p4⟩⟩ := ho
    ·omega
    ·have e1 : g2 = g := by
      have := hin.trans huv.symm
      simpa [Value.ownBlock] using this
     subst e1
     have hv : v.ownBlock = some g2 := huv.symm.trans rfl
     obtain ⟨r0, r1 | ⟨g3, cap3, cur3, rfl, _, hh3, _, _, s3, _⟩⟩ := hown
     ·rw [r1.1] at hv; simp [Value.ownBlock] at hv
     ·obtain ⟨t0, t1 | ⟨g4, cap4, cur4, el, _, hh4, _, _, u3, _⟩⟩ := hst
      ·simp at t1
      ·injection el with el1 _ el3
       injection el1 with el1
       injection el1 with el1
       subst el1 el3
       simp [Value.ownBlock] at hv
       subst hv
       rw [hh] at hh3
       injection hh3 with hh3
       injection hh3 with hh3
       subst hh3
       rw [hh2] at hh4
       injection hh4 with hh4
       injection hh4 with hh4
       subst hh4
       have ec : cap2 = cap := Nat.eq_of_mul_eq_mul_right hsz (by omega)
       subst ec
       exact ⟨k0, .inr ⟨g3, cap2, cur2, rfl, Nat.zero_le _, hh2, p1, p2, p3, p4⟩⟩
  ·obtain ⟨h0, h1 | ⟨g, cap, cur, rfl, _, hh, q⟩⟩ := hu
   ·exact ⟨h0, .inl h1⟩
   ·refine ⟨h0, .inr ⟨g, cap, cur, rfl, Nat.zero_le _, ?_, q⟩⟩
    rw [hg.block g (Array.getElem?_eq_some_iff.1 hh).1 huv]
    exact hh
 ·exact hin.owns hu (fun _ _ x => x)
def Sl (T : TypeId) (k : Nat) (W : World) (v : Value) (m : Nat) : Prop := ∃ xs, W.ownsRow 0 T k v m xs
theorem Sl.mod {T : TypeId} {k m : Nat} {W W' : World} {v : Value} {S : Nat → Prop} (h : Sl T k W v m) (hm : Mod S W W') (hs : ∀ g, v.ownBlock = some g → ¬ S g) : Sl T k W' v m := by
 obtain ⟨xs, h⟩ := h
 exact ⟨xs, hm.owns h hs⟩
theorem Sl.slice {T : TypeId} {k m : Nat} {W : World} {v : Value} (h : Sl T k W v m) : ∃ a c, v = .slice a m c := by
 obtain ⟨xs, h⟩ := h
 exact slice_of_owns h
theorem Sl.lt {T : TypeId} {k m : Nat} {W : World} {v : Value} (h : Sl T k W v m) (g : Nat) (hg : v.ownBlock = some g) : g < W.heap.size := by
 obtain ⟨xs, _, h1 | ⟨g', cap, cur, rfl, hb, hh, _⟩⟩ := h
 ·rw [h1.1] at hg; simp [Value.ownBlock] at hg
 ·simp [Value.ownBlock] at hg
  subst hg
  exact Has.lt hh
theorem Sl.block {T : TypeId} {k m : Nat} {W : World} {v : Value} (h : Sl T k W v m) (hm : 0 < m) : ∃ g cap cur, v = .slice (some ⟨g, 0, none⟩) m cap ∧ Has W g cur T ∧ cur.size = cap * k ∧ m ≤ cap := by
 obtain ⟨xs, _, h1 | ⟨g', cap, cur, rfl, hb, hh, h2, h3, h4, _⟩⟩ := h
 ·omega
 ·exact ⟨g', cap, cur, rfl, hh, h4, h2⟩
theorem Sl.owns {T : TypeId} {k m : Nat} {W : World} {v : Value} {g : Nat} (h : Sl T k W v m) (hg : v.ownBlock = some g) : ∃ cap cur, v = .slice (some ⟨g, 0, none⟩) m cap ∧ Has W g cur T ∧ cur.size = cap * k ∧ m ≤ cap ∧ cap ≤ maxLen := by
 obtain ⟨xs, _, h1 | ⟨g', cap, cur, rfl, hb, hh, h2, h3, h4, _⟩⟩ := h
 ·rw [h1.1] at hg; simp [Value.ownBlock] at hg
 ·simp [Value.ownBlock] at hg
  subst hg
  exact ⟨cap, cur, rfl, hh, h4, h2, h3⟩
theorem Sl.mk {T : TypeId} {k m g cap : Nat} {W : World} {cur : Array Value} (hh : Has W g cur T) (h1 : cur.size = cap * k) (h2 : m ≤ cap) (h3 : cap ≤ maxLen) : Sl T k W (.slice (some ⟨g, 0, none⟩) m cap) m := by
 refine ⟨cur.toList.take (m * k), ?_, .inr ⟨g, cap, cur, rfl, Nat.zero_le _, hh, h2, h3, h1, rfl⟩⟩
 rw [List.length_take, Array.length_toList, h1, Nat.min_eq_left (Nat.mul_le_mul_right k h2)]
structure StpB (T : TypeId) (k : Nat) (lg : Option Nat) (W W' : World) : Prop where
 size : W.heap.size ≤ W'.heap.size
 has : ∀ b cs T', Has W b cs T' → some b ≠ lg → Has W' b cs T'
 sl : ∀ v m, Sl T k W v m → Sl T k W' v m
theorem StpB.refl (T : TypeId) (k : Nat) (lg : Option Nat) (W : World) : StpB T k lg W W := ⟨Nat.le_refl _, fun _ _ _ h _ => h, fun _ _ h => h⟩
theorem StpB.alloc (T : TypeId) (k : Nat) (lg : Option Nat) (W : World) (o : Obj) : StpB T k lg W (W.alloc o) :=
 ⟨by simp, fun _ _ _ h _ => h.alloc o, fun v m h => h.mod ((Mod.refl No W).alloc o) (fun _ _ x => x)⟩
theorem StpB.app {T : TypeId} {k n : Nat} {W W' : World} {l : Value} {xs : List Value} (hown : W.ownsRow 0 T k l n xs) (hg : W.grownBy W' l.ownBlock) (hstill : W'.ownsRow 0 T k l n xs) : StpB T k l.ownBlock W W' := by
 refine ⟨hg.size, fun b cs T' h hb => h.grown hg hb, fun v m' h => ?_⟩
 by_cases hv : v.ownBlock = l.ownBlock
 ·cases hl : l.ownBlock with
  | none =>
   obtain ⟨ys, q, h1 | ⟨g', cap, cur, rfl, _⟩⟩ := h
   ·exact ⟨ys, q, .inl h1⟩
   ·rw [hl] at hv; cases hv
  | some g =>
   obtain ⟨cap, cur, rfl, hh, e1, e2, e3⟩ := h.owns (hv.trans hl)
   obtain ⟨cap2, cur2, el, hh2, f1, f2, f3⟩ := Sl.owns ⟨xs, hown⟩ hl
   obtain ⟨cap3, cur3, el3, hh3, g1, g2, g3⟩ := Sl.owns ⟨xs, hstill⟩ hl
   rw [el] at el3
   injection el3 with _ _ e
   subst e
   unfold Has at hh hh2
   rw [hh] at hh2
   injection hh2 with hh2
   injection hh2 with hh2
   subst hh2
   exact Sl.mk hh3 (by omega) e2 e3
 ·obtain ⟨ys, q, h1 | ⟨g', cap, cur, rfl, q1, q2, q3, q4, q5, q6⟩⟩ := h
  ·exact ⟨ys, q, .inl h1⟩
  ·exact ⟨ys, q, .inr ⟨g', cap, cur, rfl, q1, Has.grown q2 hg hv, q3, q4, q5, q6⟩⟩
def Zd (k : Nat) (z : List Value) (W : World) (v : Value) (t : Nat) : Prop := ∀ g, v.ownBlock = some g → ∀ p, p < t → W.rangeAt g (p * k) z
theorem Zd.zero {k : Nat} {z : List Value} {W : World} {v : Value} : Zd k z W v 0 := fun _ _ p hp => absurd hp (Nat.not_lt_zero _)
theorem Zd.store {k : Nat} {z : List Value} {W : World} {v : Value} {t g i : Nat} (h : Zd k z W v t) (hz : z.length = k) (ht : W.there g (i * k) k) : Zd k z (W.setCells g (i * k) z) v t := by
 intro g' hg' p hp
 by_cases hpi : g' = g ∧ p = i
 ·obtain ⟨rfl, rfl⟩ := hpi
  exact World.rangeAt_setCells_same W g' (p * k) z (by rw [hz]; exact ht)
 ·refine World.rangeAt_setCells_apart (h g' hg' p hp) g (i * k) z ?_
  by_cases hgg : g' = g
  ·right
   have hne : p ≠ i := fun e => hpi ⟨hgg, e⟩
   rw [hz]
   rcases Nat.lt_or_gt_of_ne hne with hlt | hlt
   ·left
    have := Nat.mul_le_mul_right k (show p + 1 ≤ i from hlt)
    rw [Nat.add_mul, Nat.one_mul] at this
    exact this
   ·right
    have := Nat.mul_le_mul_right k (show i + 1 ≤ p from hlt)
    rw [Nat.add_mul, Nat.one_mul] at this
    exact this
  ·exact .inl hgg
theorem Zd.more {k : Nat} {z : List Value} {W : World} {v : Value} {g i : Nat} (h : Zd k z W v i) (hz : z.length = k) (hv : v.ownBlock = some g) (ht : W.there g (i * k) k) : Zd k z (W.setCells g (i * k) z) v (i + 1) := by
 intro g' hg' p hp
 by_cases hpi : p < i
 ·exact h.store hz ht g' hg' p hpi
 ·obtain rfl : p = i := by omega
  rw [hv] at hg'
  injection hg' with hg'
  subst hg'
  exact World.rangeAt_setCells_same W g (p * k) z (by rw [hz]; exact ht)
theorem Zd.mod {k t : Nat} {z : List Value} {W W' : World} {v : Value} {S : Nat → Prop} (h : Zd k z W v t) (hm : Mod S W W') (hl : ∀ g, v.ownBlock = some g → g < W.heap.size ∧ ¬ S g) : Zd k z W' v t := fun g hg p hp j u hu => by
 obtain ⟨h1, h2⟩ := hl g hg
 rw [World.cell?_of_block (w := W) (hm.block g h1 h2)]
 exact h g hg p hp j u hu
theorem Has.there {w : World} {b : Nat} {cs : Array Value} {T : TypeId} (h : Has w b cs T) (o n : Nat) (hn : o + n ≤ cs.size) : w.there b o n := fun j hj => by
 refine ⟨?_, h.frozen _⟩
 rw [h.cell, Array.getElem?_eq_getElem (by omega)]
 rfl
structure BkI (T sT zT : TypeId) (k : Nat) (z : List Value) (S : Nat → Prop) (w0 W : World) (zb rb : Nat) (hs : Array Value) (ms : Array Nat) (q i : Nat) : Prop where
 mod : Mod S w0 W
 zbox : Has W zb z.toArray zT
 rbox : Has W rb hs sT
 sl : ∀ (j : Nat) (v : Value) (m : Nat), hs[j]? = some v → ms[j]? = some m → Sl T k W v m ∧ ∀ g, v.ownBlock = some g → g ≠ zb ∧ g ≠ rb ∧ (S g ∨ w0.heap.size ≤ g)
 full : ∀ (j : Nat) (v : Value) (m : Nat), j < q → hs[j]? = some v → ms[j]? = some m → Zd k z W v m
 cur : ∀ v, hs[q]? = some v → Zd k z W v i
theorem BkI.next {T sT zT : TypeId} {k : Nat} {z : List Value} {S : Nat → Prop} {w0 W : World} {zb rb : Nat} {hs : Array Value} {ms : Array Nat} {q i : Nat} (h : BkI T sT zT k z S w0 W zb rb hs ms q i) (hm : ms[q]? = some i) : BkI T sT zT k z S w0 W zb rb hs ms (q + 1) 0 :=
 ⟨h.mod, h.zbox, h.rbox, h.sl, fun j v m hj hv hm' => by
  by_cases e : j < q
  ·exact h.full j v m e hv hm'
  ·obtain rfl : j = q := by omega
   rw [hm] at hm'
   injection hm' with hm'
   subst hm'
   exact h.cur v hv, fun v _ => Zd.zero⟩
theorem BkI.drewN {T sT zT : TypeId} {k : Nat} {z : List Value} {S : Nat → Prop} {w0 W : World} {zb rb : Nat} {hs : Array Value} {ms : Array Nat} {q i : Nat} (h : BkI T sT zT k z S w0 W zb rb hs ms q i) (n : Nat) : BkI T sT zT k z S w0 (W.drewN n) zb rb hs ms q i :=
 ⟨h.mod.drewN n, h.zbox.drewN n, h.rbox.drewN n, fun j v m hv hm => ⟨(h.sl j v m hv hm).1.mod ((Mod.refl No W).drewN n) (fun _ _ x => x), (h.sl j v m hv hm).2⟩, fun j v m hj hv hm g hg p hp => h.full j v m hj hv hm g hg p hp, fun v hv g hg p hp => h.cur v hv g hg p hp⟩
theorem BkI.put {T sT zT : TypeId} {k : Nat} {z : List Value} {S : Nat → Prop} {w0 W : World} {zb rb : Nat} {hs : Array Value} {ms : Array Nat} {q i m g cap : Nat} (h : BkI T sT zT k z S w0 W zb rb hs ms q i) (hz : z.length = k) (hv : hs[q]? = some (.slice (some ⟨g, 0, none⟩) m cap)) (hm : ms[q]? = some m) (hi : i < m) :
  W.there g (i * k) k ∧ BkI T sT zT k z S w0 (W.setCells g (i * k) z) zb rb hs ms q (i + 1) := by
 obtain ⟨s1, s2⟩ := h.sl q _ m hv hm
 obtain ⟨c1, c2, c3⟩ := s2 g rfl
 obtain ⟨cap', cur, e, hh, e1, e2, e3⟩ := s1.owns (g := g) rfl
 have hik : i * k + k ≤ cur.size := by
  have := Nat.mul_le_mul_right k (show i + 1 ≤ cap' by omega)
  rw [Nat.add_mul, Nat.one_mul] at this
  omega
 have ht : W.there g (i * k) k := hh.there _ _ hik
 refine ⟨ht, ⟨Mod.setCells (b := g) c3 z (i * k) W h.mod, ?_, ?_, fun j v m' hv' hm' => ?_, fun j v m' hj hv' hm' => (h.full j v m' hj hv' hm').store hz ht, fun v hv' => ?_⟩⟩
 ·exact (Mod.setCells (S := fun k => k = g) (a := W) (b := g) (.inl rfl) z (i * k) W (Mod.refl _ _)).has h.zbox (fun e => c1 e.symm)
 ·exact (Mod.setCells (S := fun k => k = g) (a := W) (b := g) (.inl rfl) z (i * k) W (Mod.refl _ _)).has h.rbox (fun e => c2 e.symm)
 ·obtain ⟨r1, r2⟩ := h.sl j v m' hv' hm'
  refine ⟨?_, r2⟩
  by_cases hg : v.ownBlock = some g
  ·obtain ⟨cap2, cur2, rfl, hh2, f1, f2, f3⟩ := r1.owns hg
   have := Has.setCells z (i * k) W _ hh2
   exact Sl.mk this (by rw [setAll_size]; exact f1) f2 f3
  ·exact r1.mod (Mod.setCells (S := fun k => k = g) (a := W) (b := g) (.inl rfl) z (i * k) W (Mod.refl _ _)) (fun g' hg' e => hg (by rw [hg', e]))
 ·rw [hv] at hv'
  injection hv' with hv'
  subst hv'
  exact (h.cur _ hv).more hz rfl ht
theorem BkI.weak {T sT zT : TypeId} {k : Nat} {z : List Value} {S : Nat → Prop} {w0 W : World} {zb rb : Nat} {hs : Array Value} {ms : Array Nat} {q i : Nat} (h : BkI T sT zT k z S w0 W zb rb hs ms q (i + 1)) : BkI T sT zT k z S w0 W zb rb hs ms q i :=
 ⟨h.mod, h.zbox, h.rbox, h.sl, h.full, fun v hv g hg p hp => h.cur v hv g hg p (by omega)⟩
end Go.Proofs.YthhibagcpjeihaaGreat
