import Derived.Test.YthhibagcpjeihaaGPg5ToLook6
import Derived.Test.YthhibagcpjeihaaGSav1ToOpen
/- Pages of seats: any page; a keeper's pages. -/
namespace Go.Proofs.Ythhibagcpjeihaa
open Go.RowKit
open M
set_option linter.unusedVariables false
set_option linter.unusedSimpArgs false
set_option maxRecDepth 100000
set_option maxHeartbeats 2000000

theorem behindK_err {p : Pla} {r c e : Int} (h : (behindK p r c e).2 ≠ 0) : (behindK p r c e).1 = 0 := by
  unfold behindK at *
  split
  · rfl
  · split
    · rfl
    · split
      · rfl
      · rename_i h1 h2 h3
        rw [if_neg h1, if_neg h2, if_neg h3] at h
        exact absurd rfl h

theorem behindK_le {p : Pla} {l : List Sea} (hwf : Wf p l) (r c e : Int) : 0 ≤ (behindK p r c e).1 ∧ (behindK p r c e).1.toNat ≤ l.length := by
  unfold behindK
  split
  · simp
  · split
    · simp
    · split
      · simp
      · rename_i h1 h2 h3
        have := Fli.wf.idx_lt hwf (r := r) (c := c) (by simpa using h3)
        simp only at this ⊢
        omega

theorem page_any {w : World} {b m clock : Nat} {p : Pla} {l : List Sea} {es : List MEnt} (h : FlX w b p l m es clock) (hwf : Wf p l) (r c e size : Int) :
    Calls Try.prog 51 #[.pointer (some ⟨b, 0, none⟩), .agg #[.int .i64 r, .int .i64 c, .int .i64 e], .int .i64 size] w fun e' w' => Told w w' e' (pageK p l r c e size) := by
  unfold pageK
  by_cases hs : size < 1 ∨ size > 30
  · rw [if_pos hs]
    exact page_size b r c e size hs w
  rw [if_neg hs]
  have hB : ∀ W, Mod No w W → Calls Try.prog 66 #[.pointer (some ⟨b, 0, none⟩), .agg #[.int .i64 r, .int .i64 c, .int .i64 e]] W fun e' w' => e' = .returned (.tuple #[.int .i64 (behindK p r c e).1, .int .i64 (behindK p r c e).2]) ∧ Mod No W w' :=
    fun W hW => behind_any (⟨hW.has h.has (fun x => x), hW.map h.map (fun x => x), h.ok, h.rel⟩ : FlX W b p l m es clock) hwf r c e
  by_cases hx : (behindK p r c e).2 ≠ 0
  · rw [if_pos hx]
    refine page_stale b r c e size _ (by omega) hx w (fun W hW => ?_)
    have := hB W hW
    rw [behindK_err hx] at this
    exact this
  rw [if_neg hx]
  obtain ⟨h0, h1⟩ := behindK_le hwf r c e
  have hx0 : (behindK p r c e).2 = 0 := by omega
  refine page_walk h hwf r c e size (by omega) (behindK p r c e).1.toNat h1 (fun W hW => ?_) _ rfl
  have := hB W hW
  rw [hx0] at this
  rw [Int.toNat_of_nonneg h0]
  exact this

/-- What is told of a page. -/
def seatsK (fl : Nat → Option (Pla × List Sea)) (n r c e size : Int) : PageR :=
  if ¬ (1 ≤ n ∧ n ≤ 20) then ⟨[], 0, 0, 0, false, 2⟩
  else match fl n.toNat with
    | none => ⟨[], 0, 0, 0, false, 2⟩
    | some x => pageK x.1 x.2 r c e size

theorem seats_none (kb : Nat) (n r c e size : Int) (w : World) (hF : ∀ W, Mod No w W → Calls Try.prog 44 #[.pointer (some ⟨kb, 0, none⟩), .int .i64 n] W fun e w' => e = .returned (.pointer none) ∧ w' = W) :
    Calls Try.prog 27 #[.pointer (some ⟨kb, 0, none⟩), .int .i64 n, .agg #[.int .i64 r, .int .i64 c, .int .i64 e], .int .i64 size] w fun e' w' => Told w w' e' ⟨[], 0, 0, 0, false, 2⟩ := by
  have HF := hide hF
  have mA : Mod No w ((w.alloc (.cells #[.int .i64 r, .int .i64 c, .int .i64 e] 63)).alloc (.cells #[.slice none 0 0, .int .i64 0, .int .i64 0, .int .i64 0, .bool false] 65)) := ((Mod.refl _ w).alloc _).alloc _
  have MA := hide mA
  clear hF mA
  go_enter Try.func27, Try.ntmps27
  go_wp2_with fail
  refine ((unhide HF) _ (unhide MA)).mono ?_
  rintro e1 w1 ⟨rfl, rfl⟩
  go_wp2
  refine bodyPost_ret (by simp [results, Try.results27, go_sem]; try rfl) rfl ?_
  exact ⟨⟨.slice none 0 0, rfl, World.ownsRow_nil _ _ _ _, fun k hk => by simp [Value.ownBlock] at hk⟩, unhide MA⟩

theorem seats_walk (kb b : Nat) (n r c e size : Int) (R : PageR) (w : World) (hF : ∀ W, Mod No w W → Calls Try.prog 44 #[.pointer (some ⟨kb, 0, none⟩), .int .i64 n] W fun e w' => e = .returned (.pointer (some ⟨b, 0, none⟩)) ∧ w' = W)
    (hP : ∀ W, Mod No w W → Calls Try.prog 51 #[.pointer (some ⟨b, 0, none⟩), .agg #[.int .i64 r, .int .i64 c, .int .i64 e], .int .i64 size] W fun e' w' => Told W w' e' R) :
    Calls Try.prog 27 #[.pointer (some ⟨kb, 0, none⟩), .int .i64 n, .agg #[.int .i64 r, .int .i64 c, .int .i64 e], .int .i64 size] w fun e' w' => Told w w' e' R := by
  have HF := hide hF
  have HP := hide hP
  have mA : Mod No w ((w.alloc (.cells #[.int .i64 r, .int .i64 c, .int .i64 e] 63)).alloc (.cells #[.slice none 0 0, .int .i64 0, .int .i64 0, .int .i64 0, .bool false] 65)) := ((Mod.refl _ w).alloc _).alloc _
  have MA := hide mA
  have nR := Has.new (w.alloc (.cells #[.int .i64 r, .int .i64 c, .int .i64 e] 63)) #[.slice none 0 0, .int .i64 0, .int .i64 0, .int .i64 0, .bool false] 65
  rw [World.size_alloc] at nR
  have NR := hide nR
  clear hF hP mA nR
  go_enter Try.func27, Try.ntmps27
  go_wp2_with fail
  refine ((unhide HF) _ (unhide MA)).mono ?_
  rintro e1 w1 ⟨rfl, rfl⟩
  go_wp2_with fail
  refine ((unhide HP) _ (unhide MA)).mono ?_
  rintro e2 w2 ⟨⟨v, rfl, ho, hn⟩, m2⟩
  obtain ⟨a2, c2, rfl⟩ := slice_of_owns ho
  have R2 := m2.has (unhide NR) (fun x => x)
  have M2 := hide ((unhide MA).trans m2)
  have HO := hide ho
  have HN := hide (fun k hk => (show w.heap.size + 2 ≤ k from by have := hn k hk; simpa using this))
  have d0 : w2.cell? ⟨w.heap.size + 1, 0, none⟩ = some (.slice none 0 0) := R2.cell 0
  have d1 : w2.cell? ⟨w.heap.size + 1, 1, none⟩ = some (.int .i64 0) := R2.cell 1
  have d2 : w2.cell? ⟨w.heap.size + 1, 2, none⟩ = some (.int .i64 0) := R2.cell 2
  have d3 : w2.cell? ⟨w.heap.size + 1, 3, none⟩ = some (.int .i64 0) := R2.cell 3
  have d4 : w2.cell? ⟨w.heap.size + 1, 4, none⟩ = some (.bool false) := R2.cell 4
  have f1 := R2.frozen
  have l1 := R2.lt
  clear m2 R2 ho hn HF HP MA NR
  go_wp2
  refine bodyPost_ret (by simp [results, Try.results27, go_sem, d0, d1, d2, d3, d4]; try rfl) rfl ?_
  have hp : ∀ o, No (⟨w.heap.size + 1, o, none⟩ : Addr).block ∨ w.heap.size ≤ (⟨w.heap.size + 1, o, none⟩ : Addr).block := fun o => .inr (by simp)
  refine ⟨⟨_, rfl, ?_, fun k hk => by have := (unhide HN) k hk; omega⟩, (((((unhide M2).setCell (hp 0) _).setCell (hp 1) _).setCell (hp 2) _).setCell (hp 3) _).setCell (hp 4) _⟩
  exact ((((Mod.refl (fun k => k = w.heap.size + 1) w2).at 0 _).at 1 _).at 2 _ |>.at 3 _ |>.at 4 _).owns (unhide HO) (fun k hk e => by have := (unhide HN) k hk; omega)

theorem seats_any {w : World} {ow : Nat → Nat} {kb : Nat} {now : Int} {fl : Nat → Option (Pla × List Sea)} (h : KeepH w ow kb now fl) (n r c e size : Int) :
    Calls Try.prog 27 #[.pointer (some ⟨kb, 0, none⟩), .int .i64 n, .agg #[.int .i64 r, .int .i64 c, .int .i64 e], .int .i64 size] w fun e' w' => Told w w' e' (seatsK fl n r c e size) := by
  obtain ⟨pt, h⟩ := h
  unfold seatsK
  by_cases hn : 1 ≤ n ∧ n ≤ 20
  case neg =>
    rw [if_pos hn]
    exact seats_none kb n r c e size w (fun W _ => find_no kb n hn W)
  rw [if_neg (by simpa using hn)]
  have hfn : ((n.toNat : Nat) : Int) = n := by omega
  have hF : ∀ W, Mod No w W → Calls Try.prog 44 #[.pointer (some ⟨kb, 0, none⟩), .int .i64 n] W fun e w' => e = .returned (pv (pt n.toNat)) ∧ w' = W := fun W hW => by
    have := find_any (h.mod hW (fun _ _ x => x)) n.toNat (by omega)
    rw [hfn] at this
    exact this
  cases hfl : fl n.toNat with
  | none =>
    rw [h.gone _ (by omega) hfl] at hF
    exact seats_none kb n r c e size w hF
  | some x =>
    obtain ⟨p, l⟩ := x
    obtain ⟨b, hp, hwf, hfh⟩ := h.here _ p l (by omega) hfl
    rw [hp] at hF
    simp only
    exact seats_walk kb b n r c e size _ w hF (fun W hW => by
      obtain ⟨m, es, clock, q1, q2, q3, q4, _⟩ := hfh.mod0 hW
      exact page_any ⟨q1, q2, q3, q4⟩ hwf r c e size)
end Go.Proofs.Ythhibagcpjeihaa
/- All seats of a flight, page by page. -/
namespace Go.Proofs.Ythhibagcpjeihaa
open Go.RowKit
open M
set_option linter.unusedVariables false
set_option linter.unusedSimpArgs false
set_option maxRecDepth 100000
set_option maxHeartbeats 4000000

/-- The cursor behind k seats. -/
def curAt (p : Pla) (l : List Sea) (k : Nat) : Int × Int × Int := if k = 0 then (0, 0, 0) else match l[k - 1]? with
  | some s => (s.row, s.col, p.ep)
  | none => (0, 0, 0)

theorem curAt_succ (p : Pla) (l : List Sea) (k : Nat) (hk : k < l.length) : curAt p l (k + 1) = (l[k].row, l[k].col, p.ep) := by
  unfold curAt
  rw [if_neg (by omega), Nat.add_sub_cancel, List.getElem?_eq_getElem hk]

theorem behind_cur {p : Pla} {l : List Sea} (hwf : Wf p l) (k : Nat) (hk : k ≤ l.length) : behindK p (curAt p l k).1 (curAt p l k).2.1 (curAt p l k).2.2 = ((k : Int), 0) := by
  cases k with
  | zero => rfl
  | succ k =>
    rw [curAt_succ p l k hk]
    obtain ⟨h1, h2⟩ := Fli.wf.place_has hwf (i := k) hk
    simp only at h1 h2
    have h3 := h1
    simp only [Pla.has, decide_eq_true_eq] at h3
    unfold behindK
    rw [if_neg (by omega), if_neg (by simp), if_neg (by simp [h1]), h2]
    simp

/-- A page from a cursor on. -/
theorem pageK_cur {p : Pla} {l : List Sea} (hwf : Wf p l) (k S : Nat) (hk : k ≤ l.length) (hS : 1 ≤ S ∧ S ≤ 30) :
    pageK p l (curAt p l k).1 (curAt p l k).2.1 (curAt p l k).2.2 (S : Int) = ⟨(l.drop k).take S, (lastAt (curAt p l k).1 (curAt p l k).2.1 ((l.drop k).take S)).1, (lastAt (curAt p l k).1 (curAt p l k).2.1 ((l.drop k).take S)).2, p.ep, decide (k + ((l.drop k).take S).length < l.length), 0⟩ := by
  unfold pageK
  rw [if_neg (by omega), behind_cur hwf k hk]
  simp

theorem pageK_more {p : Pla} {l : List Sea} (hwf : Wf p l) (k S : Nat) (hS : 1 ≤ S ∧ S ≤ 30) (hm : k + S < l.length) :
    pageK p l (curAt p l k).1 (curAt p l k).2.1 (curAt p l k).2.2 (S : Int) = ⟨(l.drop k).take S, (curAt p l (k + S)).1, (curAt p l (k + S)).2.1, p.ep, true, 0⟩ ∧ (curAt p l (k + S)).2.2 = p.ep ∧ ((l.drop k).take S).length = S ∧ l.take k ++ (l.drop k).take S = l.take (k + S) := by
  have hlen : ((l.drop k).take S).length = S := by rw [List.length_take, List.length_drop]; omega
  obtain ⟨T, rfl⟩ : ∃ T, S = T + 1 := ⟨S - 1, by omega⟩
  have hlast : ((l.drop k).take (T + 1)).getLast? = some l[k + T] := by
    rw [List.getLast?_eq_getElem?, hlen, Nat.add_sub_cancel, List.getElem?_take, if_pos (by omega), List.getElem?_drop, List.getElem?_eq_getElem (by omega)]
  rw [pageK_cur hwf k (T + 1) (by omega) hS, hlen, show k + (T + 1) = (k + T) + 1 by omega, curAt_succ p l (k + T) (by omega)]
  refine ⟨?_, rfl, rfl, ?_⟩
  · unfold lastAt
    rw [hlast]
    simp
    omega
  · exact List.take_add.symm

theorem pageK_last {p : Pla} {l : List Sea} (hwf : Wf p l) (k S : Nat) (hS : 1 ≤ S ∧ S ≤ 30) (hk : k ≤ l.length) (hm : l.length ≤ k + S) : ∃ r c,
    pageK p l (curAt p l k).1 (curAt p l k).2.1 (curAt p l k).2.2 (S : Int) = ⟨l.drop k, r, c, p.ep, false, 0⟩ := by
  have hD : (l.drop k).take S = l.drop k := List.take_of_length_le (by rw [List.length_drop]; omega)
  rw [pageK_cur hwf k S hk hS, hD]
  have : decide (k + (l.drop k).length < l.length) = false := by simp; omega
  rw [this]
  exact ⟨_, _, rfl⟩

structure SeI (w wr : World) (p : Pla) (l : List Sea) (k : Nat) (v : Value) : Prop where
  row : wr.ownsRow 0 61 6 v k ((l.take k).flatMap seaL)
  cur : Has wr w.heap.size #[.int .i64 (curAt p l k).1, .int .i64 (curAt p l k).2.1, .int .i64 (curAt p l k).2.2] 63
  new : ∀ j, v.ownBlock = some j → w.heap.size < j
  mod : Mod No w wr

/-- A row of seats, told. -/
structure SeatsTold (w w' : World) (e : Ending) (l : List Sea) : Prop where
  ex : ∃ a c, e = .returned (.tuple #[.slice a l.length c, .bool true]) ∧ w'.ownsRow 0 61 6 (.slice a l.length c) l.length (l.flatMap seaL) ∧ ∀ k, (Value.slice a l.length c).ownBlock = some k → w.heap.size ≤ k
  mod : Mod No w w'

theorem SeI.put {w w2 w3 : World} {p : Pla} {l : List Sea} {k : Nat} {v v' : Value} {o : Obj} (h : SeI w w2 p l k v) (hg : (w2.alloc o).grownBy w3 v.ownBlock) (hs : Stays (w2.alloc o) v v') :
    Mod (fun j => v.ownBlock = some j) w2 w3 ∧ (∀ j, v'.ownBlock = some j → w.heap.size < j) := by
  refine ⟨((Mod.refl _ w2).alloc o).grown hg (fun k hk => .inl hk), fun j hj => ?_⟩
  have := h.cur.lt
  rcases hs j hj with h1 | h1
  · exact h.new j h1
  · simp at h1; omega

theorem SeI.next {w w2 w3 : World} {p : Pla} {l D : List Sea} {k S : Nat} {v v' : Value} {o : Obj} (h : SeI w w2 p l k v) (hg : (w2.alloc o).grownBy w3 v.ownBlock) (hs : Stays (w2.alloc o) v v') (ho : w3.ownsRow 0 61 6 v' (k + S) ((l.take k).flatMap seaL ++ D.flatMap seaL))
    (e4 : l.take k ++ D = l.take (k + S)) (e2 : (curAt p l (k + S)).2.2 = p.ep) :
    SeI w (((w3.setCell ⟨w.heap.size, 0, none⟩ (.int .i64 (curAt p l (k + S)).1)).setCell ⟨w.heap.size, 1, none⟩ (.int .i64 (curAt p l (k + S)).2.1)).setCell ⟨w.heap.size, 2, none⟩ (.int .i64 p.ep)) p l (k + S) v' := by
  obtain ⟨hm, hn⟩ := h.put hg hs
  have m2 : Mod (fun j => j = w.heap.size) w3 (((w3.setCell ⟨w.heap.size, 0, none⟩ (.int .i64 (curAt p l (k + S)).1)).setCell ⟨w.heap.size, 1, none⟩ (.int .i64 (curAt p l (k + S)).2.1)).setCell ⟨w.heap.size, 2, none⟩ (.int .i64 p.ep)) := (((Mod.refl _ w3).at 0 _).at 1 _).at 2 _
  have hc := hm.has h.cur (fun e => by have := h.new _ e; omega)
  refine ⟨?_, ?_, hn, ?_⟩
  · rw [← e4, List.flatMap_append]
    exact m2.owns ho (fun j hj e => by have := hn j hj; omega)
  · rw [e2]
    exact ((hc.set 0 _).set 1 _).set 2 _
  · exact (h.mod.trans' hm (fun i hi hl => (show False from by have := h.new i hi; omega))).trans' m2 (fun i hi hl => (show False from by omega))

theorem seatsAll_walk {w : World} {p : Pla} {l : List Sea} (hwf : Wf p l) (kb : Nat) (n : Int) (S : Nat) (hS : 1 ≤ S ∧ S ≤ 30)
    (hSt : ∀ W, Mod No w W → ∀ r c e, Calls Try.prog 27 #[.pointer (some ⟨kb, 0, none⟩), .int .i64 n, .agg #[.int .i64 r, .int .i64 c, .int .i64 e], .int .i64 (S : Int)] W fun e' w' => Told W w' e' (pageK p l r c e S)) :
    Calls Try.prog 20 #[.pointer (some ⟨kb, 0, none⟩), .int .i64 n, .int .i64 (S : Int)] w fun e w' => SeatsTold w w' e l := by
  have hl120 : l.length ≤ 120 := Fli.wf.len_le hwf
  have hBd := hwf.bounds
  simp only at hBd
  have hlen := hwf.len
  simp only at hlen
  have hpos : 0 < l.length := by
    have : 0 < p.rows * p.cols := Int.mul_pos (by omega) (by omega)
    omega
  have HST := hide hSt
  have HWF := hide hwf
  have I0 := hide (⟨World.ownsRow_nil _ _ _ _, Has.new w _ _, fun j hj => by simp [Value.ownBlock] at hj, (Mod.refl _ w).alloc _⟩ : SeI w (w.alloc (.cells #[.int .i64 0, .int .i64 0, .int .i64 0] 63)) p l 0 (.slice none 0 0))
  obtain ⟨i114, q0, q1, q2, q3⟩ := info_parts info114
  have HONE : Hid (∀ D : List Sea, ∀ u ∈ D.flatMap seaL, u.oneCell' = true) := hide fun D u hu => by
    rw [List.mem_flatMap] at hu
    obtain ⟨s, _, hu⟩ := hu
    simp [seaL, seaV] at hu
    rcases hu with rfl | rfl | rfl | rfl | rfl | rfl <;> rfl
  clear hSt hwf hBd hlen
  go_enter Try.func20, Try.ntmps20
  go_wp2_with fail
  go_loopw [8, 10] (fun s8 s10 wr => ∃ (i k : Nat), s10 = .int .i64 (i : Int) ∧ i ≤ k ∧ k < l.length ∧ Hid (SeI w wr p l k s8)) (fun _ s10 _ => 200 - (intOf s10).toNat)
  case atStart => exact ⟨0, 0, rfl, Nat.le_refl _, hpos, I0⟩
  case round =>
    obtain ⟨i, k, rfl, hik, hkl, I⟩ := hrel
    obtain ⟨a1, c1, rfl⟩ := slice_of_owns (unhide I).row
    have hi200 : (i : Int) < 200 := by omega
    have hw1 : IntKind.i64.wrap ((i : Int) + 1) = ((i + 1 : Nat) : Int) := by rw [wrap_id _ (by omega) (by omega)]; rfl
    have cc := (unhide I).cur.cell
    have lc := (unhide I).cur.lt
    have fc := (unhide I).cur.frozen
    by_cases hm : k + S < l.length
    · obtain ⟨e1, e2, e3, e4⟩ := pageK_more (unhide HWF) k S hS hm
      have HP := hide (show Calls Try.prog 27 #[.pointer (some ⟨kb, 0, none⟩), .int .i64 n, .agg #[.int .i64 (curAt p l k).1, .int .i64 (curAt p l k).2.1, .int .i64 (curAt p l k).2.2], .int .i64 (S : Int)] wr fun e' w' => Told wr w' e' ⟨(l.drop k).take S, (curAt p l (k + S)).1, (curAt p l (k + S)).2.1, p.ep, true, 0⟩ from by
        rw [← e1]
        exact (unhide HST) wr (unhide I).mod _ _ _)
      generalize (l.drop k).take S = D at *
      have E2 := hide e2
      have E4 := hide e4
      have g1 : ¬ ((S : Int) > (S : Int)) := by omega
      have g2 : ¬ ((S : Int) < (S : Int)) := by omega
      clear e1 e2 e4
      go_wp2_with fail
      refine (unhide HP).mono ?_
      rintro e5 w5 ⟨⟨v5, rfl, ho5, hn5⟩, m5⟩
      simp only [e3] at ho5
      obtain ⟨a5, c5, rfl⟩ := slice_of_owns ho5
      have I5 := hide (show SeI w w5 p l k (.slice a1 k c1) from ⟨m5.owns (unhide I).row (fun _ _ x => x), m5.has (unhide I).cur (fun x => x), (unhide I).new, (unhide I).mod.trans m5⟩)
      have cc5 := (unhide I5).cur.cell
      have lc5 := (unhide I5).cur.lt
      have fc5 := (unhide I5).cur.frozen
      have mA : Mod No w5 (w5.alloc (.cells #[.slice a5 S c5, .int .i64 (curAt p l (k + S)).1, .int .i64 (curAt p l (k + S)).2.1, .int .i64 p.ep, .bool true] 65)) := (Mod.refl _ w5).alloc _
      have HROW := hide (mA.owns (unhide I5).row (fun _ _ x => x))
      have HREAD := hide (reads_of_owns (mA.owns ho5 (fun _ _ x => x)))
      have HO5 := hide ho5
      have PG := Has.new w5 #[.slice a5 S c5, .int .i64 (curAt p l (k + S)).1, .int .i64 (curAt p l (k + S)).2.1, .int .i64 p.ep, .bool true] 65
      have HPG := hide PG
      have HCC := hide (mA.has (unhide I5).cur (fun x => x))
      have HLEN := hide (show (D.flatMap seaL).length = S * 6 from by rw [flat_len 6 seaL seaL_len D, e3])
      have HNE := hide (show Option.some w.heap.size ≠ (Value.slice a1 k c1).ownBlock from fun e => by have := (unhide I).new _ e.symm; omega)
      have HNE2 := hide (show Option.some w5.heap.size ≠ (Value.slice a1 k c1).ownBlock from fun e => by have := owns_lt (unhide I5).row _ e.symm; omega)
      clear mA ho5 hn5 m5 HP HST I0 PG
      go_wp2_with (first | (at_builtin; refine wpList_append_row rfl (.tmp 45) (.tmp 47) 48 rfl 61 i114 _ 6 48 Try.underlying48 q0 q1 q2 q3 rfl (by decide) (.slice a1 k c1) k _ (by simp [Act.eval]) (by exact unhide HROW) (.slice a5 S c5) S (D.flatMap seaL) (by simp [Act.eval]) (by exact unhide HREAD) (unhide HLEN) ((unhide HONE) D) (by unfold maxLen; omega) (by omega) ?_; intro v6 w6 ho6 hg6 hs6; obtain ⟨a6, c6, rfl⟩ := slice_of_owns ho6; have cc6 := (Has.grown (unhide HCC) hg6 (unhide HNE)).cell; have fc6 := (Has.grown (unhide HCC) hg6 (unhide HNE)).frozen; have lc6 := (Has.grown (unhide HCC) hg6 (unhide HNE)).lt; have pc6 := (Has.grown (unhide HPG) hg6 (unhide HNE2)).cell; have pl6 := (Has.grown (unhide HPG) hg6 (unhide HNE2)).lt))
      have hS6 := (unhide I5).next hg6 hs6 ho6 (unhide E4) (unhide E2)
      exact ⟨⟨i + 1, k + S, rfl, by omega, by omega, hide hS6⟩, by simp [intOf]; omega⟩
    · obtain ⟨r1, r2, e1⟩ := pageK_last (unhide HWF) k S hS (by omega) (by omega)
      have HP := hide (show Calls Try.prog 27 #[.pointer (some ⟨kb, 0, none⟩), .int .i64 n, .agg #[.int .i64 (curAt p l k).1, .int .i64 (curAt p l k).2.1, .int .i64 (curAt p l k).2.2], .int .i64 (S : Int)] wr fun e' w' => Told wr w' e' ⟨l.drop k, r1, r2, p.ep, false, 0⟩ from by
        rw [← e1]
        exact (unhide HST) wr (unhide I).mod _ _ _)
      obtain ⟨L, hL⟩ : ∃ L, L = (l.drop k).length := ⟨_, rfl⟩
      have hL2 := hL
      rw [List.length_drop] at hL2
      have g1 : ¬ ((L : Int) > (S : Int)) := by omega
      have g2 : ¬ (S < L) := by omega
      have HL2 := hide hL2
      have HKL := hide (show k + L = l.length ∧ L ≤ 120 from by omega)
      clear e1 hL2
      go_wp2_with fail
      refine (unhide HP).mono ?_
      rintro e5 w5 ⟨⟨v5, rfl, ho5, hn5⟩, m5⟩
      simp only [← hL] at ho5
      obtain ⟨a5, c5, rfl⟩ := slice_of_owns ho5
      have I5 := hide (show SeI w w5 p l k (.slice a1 k c1) from ⟨m5.owns (unhide I).row (fun _ _ x => x), m5.has (unhide I).cur (fun x => x), (unhide I).new, (unhide I).mod.trans m5⟩)
      have mA : Mod No w5 (w5.alloc (.cells #[.slice a5 L c5, .int .i64 r1, .int .i64 r2, .int .i64 p.ep, .bool false] 65)) := (Mod.refl _ w5).alloc _
      have HROW := hide (mA.owns (unhide I5).row (fun _ _ x => x))
      have HREAD := hide (reads_of_owns (mA.owns ho5 (fun _ _ x => x)))
      have PG := Has.new w5 #[.slice a5 L c5, .int .i64 r1, .int .i64 r2, .int .i64 p.ep, .bool false] 65
      have HPG := hide PG
      have HCC := hide (mA.has (unhide I5).cur (fun x => x))
      have HLEN := hide (show ((l.drop k).flatMap seaL).length = L * 6 from by rw [flat_len 6 seaL seaL_len (l.drop k), hL])
      have HNE := hide (show Option.some w.heap.size ≠ (Value.slice a1 k c1).ownBlock from fun e => by have := (unhide I).new _ e.symm; omega)
      have HNE2 := hide (show Option.some w5.heap.size ≠ (Value.slice a1 k c1).ownBlock from fun e => by have := owns_lt (unhide I5).row _ e.symm; omega)
      clear mA ho5 hn5 m5 HP HST I0 PG hL
      go_wp2_with (first | (at_builtin; refine wpList_append_row rfl (.tmp 45) (.tmp 47) 48 rfl 61 i114 _ 6 48 Try.underlying48 q0 q1 q2 q3 rfl (by decide) (.slice a1 k c1) k _ (by simp [Act.eval]) (by exact unhide HROW) (.slice a5 L c5) L ((l.drop k).flatMap seaL) (by simp [Act.eval]) (by exact unhide HREAD) (unhide HLEN) ((unhide HONE) _) (by unfold maxLen; have := unhide HKL; omega) (by have := unhide HKL; omega) ?_; intro v6 w6 ho6 hg6 hs6; obtain ⟨a6, c6, rfl⟩ := slice_of_owns ho6; have cc6 := (Has.grown (unhide HCC) hg6 (unhide HNE)).cell; have fc6 := (Has.grown (unhide HCC) hg6 (unhide HNE)).frozen; have lc6 := (Has.grown (unhide HCC) hg6 (unhide HNE)).lt; have pc6 := (Has.grown (unhide HPG) hg6 (unhide HNE2)).cell; have pl6 := (Has.grown (unhide HPG) hg6 (unhide HNE2)).lt))
      go_ret2
      obtain ⟨hm6, hn6⟩ := (unhide I5).put hg6 hs6
      rw [← List.flatMap_append, List.take_append_drop, (unhide HKL).1] at ho6
      rw [(unhide HKL).1] at hn6 ⊢
      have m2 : Mod (fun j => j = w.heap.size) w6 (((w6.setCell ⟨w.heap.size, 0, none⟩ (.int .i64 r1)).setCell ⟨w.heap.size, 1, none⟩ (.int .i64 r2)).setCell ⟨w.heap.size, 2, none⟩ (.int .i64 p.ep)) := (((Mod.refl _ w6).at 0 _).at 1 _).at 2 _
      refine ⟨⟨a6, c6, rfl, m2.owns ho6 (fun j hj e => by have := hn6 j hj; omega), fun j hj => Nat.le_of_lt (hn6 j hj)⟩, ?_⟩
      exact ((unhide I5).mod.trans' hm6 (fun i hi hl => (show False from by have := (unhide I5).new i hi; omega))).trans' m2 (fun i hi hl => (show False from by omega))
end Go.Proofs.Ythhibagcpjeihaa
/- Rows of seats: none is over its limits, each is behind the other. -/
namespace Go.Proofs.Ythhibagcpjeihaa
open Go.RowKit
open M
set_option linter.unusedVariables false
set_option linter.unusedSimpArgs false
set_option maxRecDepth 100000
set_option maxHeartbeats 4000000

/-- Taken, in this class or a dearer one. -/
def takenIn (k : Int) (s : Sea) : Bool := (s.st == 1 || s.st == 2) && decide (k ≤ s.cl)

theorem taken_step (k : Int) (l : List Sea) (i : Nat) (hi : i < l.length) : (((l.take (i + 1)).countP (takenIn k) : Nat) : Int) = ((l.take i).countP (takenIn k) : Nat) + (if takenIn k l[i] then 1 else 0) := by
  rw [take_succ l i hi, List.countP_append]
  cases h : takenIn k l[i] <;> simp [h]

theorem over_no (g cap : Nat) (l : List Sea) (L0 L1 L2 L3 : Int) (w : World) (hr : RowS w g cap l) (hl : l.length ≤ 1000)
    (hL : ∀ k : Nat, k < 4 → ((l.countP (takenIn (k : Int)) : Nat) : Int) ≤ (match k with | 0 => L0 | 1 => L1 | 2 => L2 | _ => L3))
    (hS : ∀ i (h : i + 1 < l.length), l[i].row < l[i + 1].row ∨ (l[i].row = l[i + 1].row ∧ l[i].col < l[i + 1].col)) :
    Calls Try.prog 22 #[.slice (some ⟨g, 0, none⟩) l.length cap, .agg #[.int .i64 L0, .int .i64 L1, .int .i64 L2, .int .i64 L3]] w fun e w' => e = .returned (.bool false) ∧ Mod No w w' := by
  have mA : Mod No w (w.alloc (.cells #[.int .i64 L0, .int .i64 L1, .int .i64 L2, .int .i64 L3] 33)) := (Mod.refl _ w).alloc _
  have HR := hide (hr.mod mA (fun x => x))
  have HB := hide (Has.new w #[.int .i64 L0, .int .i64 L1, .int .i64 L2, .int .i64 L3] 33)
  have MA := hide mA
  have HL := hide hL
  have HS := hide hS
  clear hr hL hS mA
  go_enter Try.func22, Try.ntmps22
  go_wp2_with fail
  generalize w.alloc (.cells #[.int .i64 L0, .int .i64 L1, .int .i64 L2, .int .i64 L3] 33) = w1 at *
  generalize hbb : w.heap.size = bb at *
  clear hbb
  go_loopw [5] (fun s5 wx => ∃ k : Nat, s5 = .int .i64 (k : Int) ∧ k ≤ 4 ∧ wx = w1) (fun s5 _ => 4 - (intOf s5).toNat)
  case atStart => exact ⟨0, rfl, by omega, rfl⟩
  case round =>
    obtain ⟨k, rfl, hk, rfl⟩ := hrel
    by_cases hk4 : k < 4
    · have hk1 : (k : Int) < 4 := by omega
      have hw1 : IntKind.i64.wrap ((k : Int) + 1) = ((k + 1 : Nat) : Int) := by rw [wrap_id _ (by omega) (by omega)]; rfl
      go_wp2_with fail
      go_loopw [6, 7] (fun s6 s7 wx => ∃ i : Nat, s7 = .int .i64 (i : Int) ∧ i ≤ l.length ∧ s6 = .int .i64 (((l.take i).countP (takenIn (k : Int)) : Nat) : Int) ∧ wx = wr) (fun _ s7 _ => l.length - (intOf s7).toNat)
      case atStart => exact ⟨0, rfl, by omega, rfl, rfl⟩
      case round =>
        obtain ⟨i, rfl, hi, rfl, rfl⟩ := hrel
        by_cases hil : i < l.length
        · have hi1 : (i : Int) < (l.length : Int) := by omega
          have hi0 : (0 : Int) ≤ (i : Int) := by omega
          have hw2 : IntKind.i64.wrap ((i : Int) + 1) = ((i + 1 : Nat) : Int) := by rw [wrap_id _ (by omega) (by omega)]; rfl
          have hcp : (l.take i).countP (takenIn (k : Int)) ≤ 1000 := Nat.le_trans List.countP_le_length (by rw [List.length_take]; omega)
          have hw3 : IntKind.i64.wrap ((((l.take i).countP (takenIn (k : Int)) : Nat) : Int) + 1) = (((l.take i).countP (takenIn (k : Int)) : Nat) : Int) + 1 := wrap_id _ (by omega) (by omega)
          have hst := (unhide HR).st i hil
          have hcl := (unhide HR).cl i hil
          have hlt := (unhide HR).lt
          have HT := hide (taken_step (k : Int) l i hil)
          have HTK := hide (show takenIn (k : Int) l[i] = ((l[i].st == 1 || l[i].st == 2) && decide ((k : Int) ≤ l[i].cl)) from rfl)
          generalize l[i].st = st at *
          generalize l[i].cl = cl at *
          generalize takenIn (k : Int) l[i] = tk at *
          generalize (l.take i).countP (takenIn (k : Int)) = cnt at *
          have HI := hide hil
          have fin0 : tk = false → (((l.take (i + 1)).countP (takenIn (k : Int)) : Nat) : Int) = (cnt : Int) := fun h => by rw [unhide HT, h]; simp
          have fin1 : tk = true → (((l.take (i + 1)).countP (takenIn (k : Int)) : Nat) : Int) = (cnt : Int) + 1 := fun h => by rw [unhide HT, h]; simp
          have F0 := hide fin0
          have F1 := hide fin1
          clear fin0 fin1
          by_cases h1 : st = 1
          · subst h1
            by_cases h3 : (k : Int) ≤ cl
            · go_wp2
              exact ⟨⟨i + 1, rfl, unhide HI, by rw [(unhide F1) (by rw [unhide HTK]; simp [h3])], by trivial⟩, by simp [intOf]; have := unhide HI; omega⟩
            · go_wp2
              exact ⟨⟨i + 1, rfl, unhide HI, by rw [(unhide F0) (by rw [unhide HTK]; simp [h3])], by trivial⟩, by simp [intOf]; have := unhide HI; omega⟩
          · have b1 : (st == 1) = false := by simpa using h1
            by_cases h2 : st = 2
            · subst h2
              by_cases h3 : (k : Int) ≤ cl
              · go_wp2
                exact ⟨⟨i + 1, rfl, unhide HI, by rw [(unhide F1) (by rw [unhide HTK]; simp [h3])], by trivial⟩, by simp [intOf]; have := unhide HI; omega⟩
              · go_wp2
                exact ⟨⟨i + 1, rfl, unhide HI, by rw [(unhide F0) (by rw [unhide HTK]; simp [h3])], by trivial⟩, by simp [intOf]; have := unhide HI; omega⟩
            · have b2 : (st == 2) = false := by simpa using h2
              go_wp2
              exact ⟨⟨i + 1, rfl, unhide HI, by rw [(unhide F0) (by rw [unhide HTK, b1, b2]; rfl)], by trivial⟩, by simp [intOf]; have := unhide HI; omega⟩
        · have hi1 : ¬ (i : Int) < (l.length : Int) := by omega
          have e : i = l.length := by omega
          subst e
          rw [List.take_length]
          have hlim := (unhide HL) k hk4
          have HK4 := hide hk4
          have HW1 := hide hw1
          have bc := (unhide HB).cell
          have bl := (unhide HB).lt
          have : k = 0 ∨ k = 1 ∨ k = 2 ∨ k = 3 := by omega
          clear hk hw1
          rcases this with rfl | rfl | rfl | rfl <;> simp only at hlim
          · have hno : ¬ ((l.countP (takenIn ((0 : Nat) : Int)) : Nat) : Int) > L0 := by omega
            generalize ((l.countP (takenIn ((0 : Nat) : Int)) : Nat) : Int) = ct at *
            go_wp2
            exact ⟨⟨1, rfl, by omega, by trivial⟩, by simp [intOf]⟩
          · have hno : ¬ ((l.countP (takenIn ((1 : Nat) : Int)) : Nat) : Int) > L1 := by omega
            generalize ((l.countP (takenIn ((1 : Nat) : Int)) : Nat) : Int) = ct at *
            go_wp2
            exact ⟨⟨2, rfl, by omega, by trivial⟩, by simp [intOf]⟩
          · have hno : ¬ ((l.countP (takenIn ((2 : Nat) : Int)) : Nat) : Int) > L2 := by omega
            generalize ((l.countP (takenIn ((2 : Nat) : Int)) : Nat) : Int) = ct at *
            go_wp2
            exact ⟨⟨3, rfl, by omega, by trivial⟩, by simp [intOf]⟩
          · have hno : ¬ ((l.countP (takenIn ((3 : Nat) : Int)) : Nat) : Int) > L3 := by omega
            generalize ((l.countP (takenIn ((3 : Nat) : Int)) : Nat) : Int) = ct at *
            go_wp2
            exact ⟨⟨4, rfl, by omega, by trivial⟩, by simp [intOf]⟩
    · have hk1 : ¬ (k : Int) < 4 := by omega
      clear hk
      go_wp2_with fail
      go_loopw [8] (fun s8 wx => ∃ j : Nat, s8 = .int .i64 ((j : Int) + 1) ∧ j ≤ l.length ∧ Hid (Mod No wr wx)) (fun s8 _ => l.length + 1 - (intOf s8).toNat)
      case atStart => exact ⟨0, rfl, by omega, hide (Mod.refl _ _)⟩
      case round =>
        obtain ⟨j, rfl, hj, M⟩ := hrel
        have HR2 := hide ((unhide HR).mod (unhide M) (fun x => x))
        by_cases hjl : j + 1 < l.length
        · have hj1 : (j : Int) + 1 < (l.length : Int) := by omega
          have hj2 : (j : Int) < (l.length : Int) := by omega
          have t1 : ((j : Int) + 1).toNat = j + 1 := by omega
          have hwa : IntKind.i64.wrap ((j : Int) + 1 - 1) = (j : Int) := wrap_id _ (by omega) (by omega) |>.trans (by omega)
          have hwb : IntKind.i64.wrap (j : Int) = (j : Int) := wrap_id _ (by omega) (by omega)
          have hwc : IntKind.i64.wrap ((j : Int) + 1 + 1) = ((j + 1 : Nat) : Int) + 1 := by rw [wrap_id _ (by omega) (by omega)]; rfl
          have hr0 := (unhide HR2).row j (by omega)
          have hc0 := (unhide HR2).col j (by omega)
          have hr1 := (unhide HR2).row (j + 1) hjl
          have hc1 := (unhide HR2).col (j + 1) hjl
          have hlt := (unhide HR2).lt
          have hso := (unhide HS) j hjl
          generalize l[j].row = r0 at *
          generalize l[j].col = c0 at *
          generalize l[j + 1].row = r1 at *
          generalize l[j + 1].col = c1 at *
          have HJ := hide hjl
          rcases hso with hso | ⟨rfl, hso⟩
          · have g1 : ¬ r0 > r1 := by omega
            have g2 : (r0 == r1) = false := by simp; omega
            go_wp2
            exact ⟨⟨j + 1, rfl, by have := unhide HJ; omega, hide (((unhide M).alloc _).alloc _)⟩, by simp [intOf]; have := unhide HJ; omega⟩
          · have g1 : ¬ r0 > r0 := by omega
            have g2 : ¬ c0 ≥ c1 := by omega
            go_wp2
            exact ⟨⟨j + 1, rfl, by have := unhide HJ; omega, hide (((unhide M).alloc _).alloc _)⟩, by simp [intOf]; have := unhide HJ; omega⟩
        · have hj1 : ¬ (j : Int) + 1 < (l.length : Int) := by omega
          go_wp2
          go_ret
          exact ⟨rfl, (unhide MA).trans (unhide M)⟩
end Go.Proofs.Ythhibagcpjeihaa
