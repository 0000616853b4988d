import Derived.Test.YtlcbemcamdafjaaCpagedPg5
import Derived.Test.YtlcbemcamdafjaaCpagedKeep7Open
/- Pages of seats: any page; a keeper's pages. -/
namespace Go.Proofs.Ytlcbemcamdafjaa
open Go.RowKit
open M
set_option linter.unusedVariables false
set_option linter.unusedSimpArgs false
set_option maxRecDepth 100000
set_option maxHeartbeats 2000000

theorem behindK_err {p : Pla} {r c e : Int} (h : (behindK p r c e).2 ≠ 0) : (behindK p r c e).1 = 0 := by
  unfold behindK at *
  split
  · rfl
  · split
    · rfl
    · split
      · rfl
      · rename_i h1 h2 h3
        rw [if_neg h1, if_neg h2, if_neg h3] at h
        exact absurd rfl h

theorem behindK_le {p : Pla} {l : List Sea} (hwf : Wf p l) (r c e : Int) : 0 ≤ (behindK p r c e).1 ∧ (behindK p r c e).1.toNat ≤ l.length := by
  unfold behindK
  split
  · simp
  · split
    · simp
    · split
      · simp
      · rename_i h1 h2 h3
        have := Fli.wf.idx_lt hwf (r := r) (c := c) (by simpa using h3)
        simp only at this ⊢
        omega

theorem page_any {w : World} {b m clock : Nat} {p : Pla} {l : List Sea} {es : List MEnt} (h : FlX w b p l m es clock) (hwf : Wf p l) (r c e size : Int) :
    Calls Try.prog 46 #[.pointer (some ⟨b, 0, none⟩), .agg #[.int .i64 r, .int .i64 c, .int .i64 e], .int .i64 size] w fun e' w' => Told w w' e' (pageK p l r c e size) := by
  unfold pageK
  by_cases hs : size < 1 ∨ size > 30
  · rw [if_pos hs]
    exact page_size b r c e size hs w
  rw [if_neg hs]
  have hB : ∀ W, Mod No w W → Calls Try.prog 54 #[.pointer (some ⟨b, 0, none⟩), .agg #[.int .i64 r, .int .i64 c, .int .i64 e]] W fun e' w' => e' = .returned (.tuple #[.int .i64 (behindK p r c e).1, .int .i64 (behindK p r c e).2]) ∧ Mod No W w' :=
    fun W hW => behind_any (⟨hW.has h.has (fun x => x), hW.map h.map (fun x => x), h.ok, h.rel⟩ : FlX W b p l m es clock) hwf r c e
  by_cases hx : (behindK p r c e).2 ≠ 0
  · rw [if_pos hx]
    refine page_stale b r c e size _ (by omega) hx w (fun W hW => ?_)
    have := hB W hW
    rw [behindK_err hx] at this
    exact this
  rw [if_neg hx]
  obtain ⟨h0, h1⟩ := behindK_le hwf r c e
  have hx0 : (behindK p r c e).2 = 0 := by omega
  refine page_walk h hwf r c e size (by omega) (behindK p r c e).1.toNat h1 (fun W hW => ?_) _ rfl
  have := hB W hW
  rw [hx0] at this
  rw [Int.toNat_of_nonneg h0]
  exact this

/-- What is told of a page. -/
def seatsK (fl : Nat → Option (Pla × List Sea)) (n r c e size : Int) : PageR :=
  if ¬ (1 ≤ n ∧ n ≤ 20) then ⟨[], 0, 0, 0, false, 2⟩
  else match fl n.toNat with
    | none => ⟨[], 0, 0, 0, false, 2⟩
    | some x => pageK x.1 x.2 r c e size

theorem seats_none (kb : Nat) (n r c e size : Int) (w : World) (hF : ∀ W, Mod No w W → Calls Try.prog 40 #[.pointer (some ⟨kb, 0, none⟩), .int .i64 n] W fun e w' => e = .returned (.pointer none) ∧ w' = W) :
    Calls Try.prog 25 #[.pointer (some ⟨kb, 0, none⟩), .int .i64 n, .agg #[.int .i64 r, .int .i64 c, .int .i64 e], .int .i64 size] w fun e' w' => Told w w' e' ⟨[], 0, 0, 0, false, 2⟩ := by
  have HF := hide hF
  have mA : Mod No w ((w.alloc (.cells #[.int .i64 r, .int .i64 c, .int .i64 e] 63)).alloc (.cells #[.slice none 0 0, .int .i64 0, .int .i64 0, .int .i64 0, .bool false] 65)) := ((Mod.refl _ w).alloc _).alloc _
  have MA := hide mA
  clear hF mA
  go_enter Try.func25, Try.ntmps25
  go_wp2_with fail
  refine ((unhide HF) _ (unhide MA)).mono ?_
  rintro e1 w1 ⟨rfl, rfl⟩
  go_wp2
  refine bodyPost_ret (by simp [results, Try.results25, go_sem]; try rfl) rfl ?_
  exact ⟨⟨.slice none 0 0, rfl, World.ownsRow_nil _ _ _ _, fun k hk => by simp [Value.ownBlock] at hk⟩, unhide MA⟩

theorem seats_walk (kb b : Nat) (n r c e size : Int) (R : PageR) (w : World) (hF : ∀ W, Mod No w W → Calls Try.prog 40 #[.pointer (some ⟨kb, 0, none⟩), .int .i64 n] W fun e w' => e = .returned (.pointer (some ⟨b, 0, none⟩)) ∧ w' = W)
    (hP : ∀ W, Mod No w W → Calls Try.prog 46 #[.pointer (some ⟨b, 0, none⟩), .agg #[.int .i64 r, .int .i64 c, .int .i64 e], .int .i64 size] W fun e' w' => Told W w' e' R) :
    Calls Try.prog 25 #[.pointer (some ⟨kb, 0, none⟩), .int .i64 n, .agg #[.int .i64 r, .int .i64 c, .int .i64 e], .int .i64 size] w fun e' w' => Told w w' e' R := by
  have HF := hide hF
  have HP := hide hP
  have mA : Mod No w ((w.alloc (.cells #[.int .i64 r, .int .i64 c, .int .i64 e] 63)).alloc (.cells #[.slice none 0 0, .int .i64 0, .int .i64 0, .int .i64 0, .bool false] 65)) := ((Mod.refl _ w).alloc _).alloc _
  have MA := hide mA
  have nR := Has.new (w.alloc (.cells #[.int .i64 r, .int .i64 c, .int .i64 e] 63)) #[.slice none 0 0, .int .i64 0, .int .i64 0, .int .i64 0, .bool false] 65
  rw [World.size_alloc] at nR
  have NR := hide nR
  clear hF hP mA nR
  go_enter Try.func25, Try.ntmps25
  go_wp2_with fail
  refine ((unhide HF) _ (unhide MA)).mono ?_
  rintro e1 w1 ⟨rfl, rfl⟩
  go_wp2_with fail
  refine ((unhide HP) _ (unhide MA)).mono ?_
  rintro e2 w2 ⟨⟨v, rfl, ho, hn⟩, m2⟩
  obtain ⟨a2, c2, rfl⟩ := slice_of_owns ho
  have R2 := m2.has (unhide NR) (fun x => x)
  have M2 := hide ((unhide MA).trans m2)
  have HO := hide ho
  have HN := hide (fun k hk => (show w.heap.size + 2 ≤ k from by have := hn k hk; simpa using this))
  have d0 : w2.cell? ⟨w.heap.size + 1, 0, none⟩ = some (.slice none 0 0) := R2.cell 0
  have d1 : w2.cell? ⟨w.heap.size + 1, 1, none⟩ = some (.int .i64 0) := R2.cell 1
  have d2 : w2.cell? ⟨w.heap.size + 1, 2, none⟩ = some (.int .i64 0) := R2.cell 2
  have d3 : w2.cell? ⟨w.heap.size + 1, 3, none⟩ = some (.int .i64 0) := R2.cell 3
  have d4 : w2.cell? ⟨w.heap.size + 1, 4, none⟩ = some (.bool false) := R2.cell 4
  have f1 := R2.frozen
  have l1 := R2.lt
  clear m2 R2 ho hn HF HP MA NR
  go_wp2
  refine bodyPost_ret (by simp [results, Try.results25, go_sem, d0, d1, d2, d3, d4]; try rfl) rfl ?_
  have hp : ∀ o, No (⟨w.heap.size + 1, o, none⟩ : Addr).block ∨ w.heap.size ≤ (⟨w.heap.size + 1, o, none⟩ : Addr).block := fun o => .inr (by simp)
  refine ⟨⟨_, rfl, ?_, fun k hk => by have := (unhide HN) k hk; omega⟩, (((((unhide M2).setCell (hp 0) _).setCell (hp 1) _).setCell (hp 2) _).setCell (hp 3) _).setCell (hp 4) _⟩
  exact ((((Mod.refl (fun k => k = w.heap.size + 1) w2).at 0 _).at 1 _).at 2 _ |>.at 3 _ |>.at 4 _).owns (unhide HO) (fun k hk e => by have := (unhide HN) k hk; omega)

theorem seats_any {w : World} {ow : Nat → Nat} {kb : Nat} {now : Int} {fl : Nat → Option (Pla × List Sea)} (h : KeepH w ow kb now fl) (n r c e size : Int) :
    Calls Try.prog 25 #[.pointer (some ⟨kb, 0, none⟩), .int .i64 n, .agg #[.int .i64 r, .int .i64 c, .int .i64 e], .int .i64 size] w fun e' w' => Told w w' e' (seatsK fl n r c e size) := by
  obtain ⟨pt, h⟩ := h
  unfold seatsK
  by_cases hn : 1 ≤ n ∧ n ≤ 20
  case neg =>
    rw [if_pos hn]
    exact seats_none kb n r c e size w (fun W _ => find_no kb n hn W)
  rw [if_neg (by simpa using hn)]
  have hfn : ((n.toNat : Nat) : Int) = n := by omega
  have hF : ∀ W, Mod No w W → Calls Try.prog 40 #[.pointer (some ⟨kb, 0, none⟩), .int .i64 n] W fun e w' => e = .returned (pv (pt n.toNat)) ∧ w' = W := fun W hW => by
    have := find_any (h.mod hW (fun _ _ x => x)) n.toNat (by omega)
    rw [hfn] at this
    exact this
  cases hfl : fl n.toNat with
  | none =>
    rw [h.gone _ (by omega) hfl] at hF
    exact seats_none kb n r c e size w hF
  | some x =>
    obtain ⟨p, l⟩ := x
    obtain ⟨b, hp, hwf, hfh⟩ := h.here _ p l (by omega) hfl
    rw [hp] at hF
    simp only
    exact seats_walk kb b n r c e size _ w hF (fun W hW => by
      obtain ⟨m, es, clock, q1, q2, q3, q4, _⟩ := hfh.mod0 hW
      exact page_any ⟨q1, q2, q3, q4⟩ hwf r c e size)
end Go.Proofs.Ytlcbemcamdafjaa
