import Derived.Test.YthhibagcpjeihaaGreatGLook6ToSwap0
import Derived.Test.YthhibagcpjeihaaGreatGRef4ToLook5
import Derived.Test.YthhibagcpjeihaaGreatGBaseToRowS
/- A command to a flight is looked over: what comes out. -/
namespace Go.Proofs.YthhibagcpjeihaaGreat
open Go.RowKit
open Go.ChangeMaps (setBlock)
open M
set_option linter.unusedVariables false
set_option linter.unusedSimpArgs false
set_option maxRecDepth 100000

def seatAt (p : Pla) (l : List Sea) (r c : Int) : Sea := l.getD (p.idx r c) noSea

/-- Why a command to a seat is none. -/
def seatErr (p : Pla) (l : List Sea) (c : Cmd) (now : Int) : Int :=
  if c.kind = 9 then (if c.pla.sized = true ∧ ¬ (c.pla.rows * c.pla.cols < (nFull l : Int)) then 0 else 4)
  else if p.has c.ar c.ac = false ∨ (c.kind = 5 ∧ p.has c.tr c.tc = false) then 5
  else if c.kind = 2 then (if buyer c ≠ 0 then buyer c else if c.time ≤ now ∨ c.time > now + 100 then 8 else saleN (seatAt p l c.ar c.ac).st (M.leftOf p l c.cls.toNat))
  else if c.kind = 3 then (if buyer c ≠ 0 then buyer c else if (seatAt p l c.ar c.ac).st = 1 ∧ (seatAt p l c.ar c.ac).pa = c.party ∧ (seatAt p l c.ar c.ac).cl = c.cls then 0 else saleN (seatAt p l c.ar c.ac).st (M.leftOf p l c.cls.toNat))
  else if c.kind = 4 then ownerN (seatAt p l c.ar c.ac).st (seatAt p l c.ar c.ac).pa c.party
  else if c.kind = 5 then (if ownerN (seatAt p l c.ar c.ac).st (seatAt p l c.ar c.ac).pa c.party ≠ 0 then ownerN (seatAt p l c.ar c.ac).st (seatAt p l c.ar c.ac).pa c.party else if (seatAt p l c.tr c.tc).st ≠ 0 then 9 else 0)
  else if c.kind = 6 then (if (seatAt p l c.ar c.ac).st ≠ 0 then 9 else 0)
  else (if (seatAt p l c.ar c.ac).st ≠ 3 then 10 else 0)

/-- The change that a command to a seat is. -/
def changeV (c : Cmd) : Value :=
  if c.kind = 9 then refitV c.pla
  else if c.kind = 2 then fillV c.ar c.ac 1 c.party c.cls c.time
  else if c.kind = 3 then fillV c.ar c.ac 2 c.party c.cls 0
  else if c.kind = 5 then shiftV c.ar c.ac c.tr c.tc
  else if c.kind = 6 then fillV c.ar c.ac 3 0 0 0
  else emptyV c.ar c.ac

/-- The seats behind it. -/
def seatNew (p : Pla) (l : List Sea) (c : Cmd) : List Sea :=
  if c.kind = 9 then swapSeats (swapPla p c.pla) l
  else if c.kind = 2 then l.set (p.idx c.ar c.ac) ⟨c.ar, c.ac, 1, c.party, c.cls, c.time⟩
  else if c.kind = 3 then l.set (p.idx c.ar c.ac) ⟨c.ar, c.ac, 2, c.party, c.cls, 0⟩
  else if c.kind = 5 then (l.set (p.idx c.ar c.ac) (seatAt p l c.ar c.ac).freed).set (p.idx c.tr c.tc) ⟨c.tr, c.tc, (seatAt p l c.ar c.ac).st, (seatAt p l c.ar c.ac).pa, (seatAt p l c.ar c.ac).cl, (seatAt p l c.ar c.ac).un⟩
  else if c.kind = 6 then l.set (p.idx c.ar c.ac) ⟨c.ar, c.ac, 3, 0, 0, 0⟩
  else l.set (p.idx c.ar c.ac) (seatAt p l c.ar c.ac).freed

/-- The plane behind it. -/
def planNew (p : Pla) (c : Cmd) : Pla := if c.kind = 9 then swapPla p c.pla else p.next

def lookV (p : Pla) (l : List Sea) (c : Cmd) (now : Int) : Value := if seatErr p l c now = 0 then grant (changeV c) else refuse (seatErr p l c now)

theorem seatAt_eq {p : Pla} {l : List Sea} (hwf : Wf p l) {r c : Int} (hh : p.has r c = true) : ∃ hi : p.idx r c < l.length, seatAt p l r c = l[p.idx r c] ∧ l[p.idx r c].row = r ∧ l[p.idx r c].col = c := by
  have h1 : p.idx r c < l.length := Fli.wf.idx_lt hwf hh
  have h2 := Fli.wf.idx_place hwf hh
  refine ⟨h1, ?_, h2⟩
  unfold seatAt
  rw [List.getD_eq_getElem?_getD, List.getElem?_eq_getElem h1]
  rfl

theorem buyer_ok {c : Cmd} (h : buyer c = 0) : 0 ≤ c.cls ∧ c.cls < 4 ∧ 1 ≤ c.party ∧ c.party ≤ 1000 := by
  unfold buyer at h
  split at h
  · omega
  · split at h
    · omega
    · omega

theorem flook_any {w : World} {b : Nat} {p : Pla} {l : List Sea} {m : Nat} {es : List MEnt} {clock : Nat} (h : FlX w b p l m es clock) (hwf : Wf p l) (c : Cmd) (now : Int) (hn : 0 ≤ now ∧ now ≤ 4611686018427387000) (hk : 2 ≤ c.kind ∧ c.kind ≤ 9 ∧ c.kind ≠ 8) :
    Calls Tryz.prog 77 #[.pointer (some ⟨b, 0, none⟩), .agg (cmdCells c), .int .i64 now] w fun e w' => e = .returned (lookV p l c now) ∧ Mod No w w' := by
  have hhas : ∀ r cc W, Mod No w W → Calls Tryz.prog 99 #[.pointer (some ⟨b, 0, none⟩), .agg #[.int .i64 r, .int .i64 cc]] W fun e w' => e = .returned (.bool (p.has r cc)) ∧ Mod No W w' := fun r cc W hW =>
    has_walk b r cc p.rows p.cols _ W (hW.has h.has (fun x => x)) rfl rfl
  by_cases h9 : c.kind = 9
  · have hval : ∃ x y, swapV c.pla (nFull l) = .tuple #[x, y] := by
      unfold swapV; split <;> exact ⟨_, _, rfl⟩
    obtain ⟨x, y, hxy⟩ := hval
    refine (look_swap b c now x y h9 w (fun W hW => ?_)).mono ?_
    · have := lookSwap_walk b m _ c.pla (nFull l) W (hW.has h.has (fun x => x)) rfl (fun W' hW' ty => by
        have hm' := (hW.trans hW').map h.map (fun x => x)
        have := run_len W' m clock es hm' ty
        rw [h.rel.size] at this
        exact this) (fun hs => by
          simp only [Pla.sized, decide_eq_true_eq] at hs
          have f1 : 0 ≤ c.pla.rows * c.pla.cols := Int.mul_nonneg (by omega) (by omega)
          have f2 : c.pla.rows * c.pla.cols ≤ 20 * 6 := Int.mul_le_mul (by omega) (by omega) (by omega) (by omega)
          exact wrap_id _ (by omega) (by omega))
      rw [hxy] at this
      exact this
    · rintro e w' ⟨rfl, hm⟩
      refine ⟨?_, hm⟩
      rw [← hxy]
      congr 1
      unfold lookV swapV
      have hse : seatErr p l c now = (if c.pla.sized = true ∧ ¬ (c.pla.rows * c.pla.cols < (nFull l : Int)) then 0 else 4) := by unfold seatErr; rw [if_pos h9]
      have hch : changeV c = refitV c.pla := by unfold changeV; rw [if_pos h9]
      rw [hse, hch]
      by_cases hq : c.pla.sized = true ∧ ¬ (c.pla.rows * c.pla.cols < (nFull l : Int))
      · rw [if_pos hq, if_pos hq, if_pos rfl]
      · rw [if_neg hq, if_neg hq, if_neg (by omega)]
  by_cases hat : p.has c.ar c.ac = true
  case neg =>
    have hat' : p.has c.ar c.ac = false := by simpa using hat
    refine (look_noAt b c now w (fun W hW => by have := hhas c.ar c.ac W hW; rw [hat'] at this; exact this) h9).mono ?_
    rintro e w' ⟨rfl, hm⟩
    refine ⟨?_, hm⟩
    simp [lookV, seatErr, h9, hat']
  have hA := fun W hW => by have := hhas c.ar c.ac W hW; rw [hat] at this; exact this
  obtain ⟨hi, he, her, hec⟩ := seatAt_eq hwf hat
  have hs := h.sees hwf _ hi
  rw [her, hec, ← he] at hs
  have hswf : (seatAt p l c.ar c.ac).wf := by rw [he]; exact hwf.seat _ (List.getElem_mem hi)
  obtain ⟨n, hn'⟩ : ∃ n : Nat, (seatAt p l c.ar c.ac).st = n := ⟨(seatAt p l c.ar c.ac).st.toNat, by have := hswf.s0; omega⟩
  have hB : ∀ W, Mod No w W → Calls Tryz.prog 119 #[.agg (cmdCells c)] W fun e w' => e = .returned (.int .i64 (buyer c)) ∧ Mod No W w' := fun W hW => buyer_any c W
  have hS : buyer c = 0 → ∀ W, Mod No w W → Calls Tryz.prog 120 #[.pointer (some ⟨b, 0, none⟩), .agg (cmdCells c)] W fun e w' => e = .returned (.int .i64 (saleN (seatAt p l c.ar c.ac).st (M.leftOf p l c.cls.toNat))) ∧ Mod No W w' := fun hb W hW => by
    have hbk := buyer_ok hb
    refine sale_walk b m c.cls.toNat (by omega) _ c (by omega) _ _ _ _ _ W (hW.has h.has (fun x => x)) rfl ?_ (hs.on hW)
    have : c.cls.toNat = 0 ∨ c.cls.toNat = 1 ∨ c.cls.toNat = 2 ∨ c.cls.toNat = 3 := by omega
    rcases this with e | e | e | e <;> (rw [e]; rfl)
  have hO : ∀ W, Mod No w W → Calls Tryz.prog 121 #[.pointer (some ⟨b, 0, none⟩), .agg (cmdCells c)] W fun e w' => e = .returned (.int .i64 (ownerN (seatAt p l c.ar c.ac).st (seatAt p l c.ar c.ac).pa c.party)) ∧ Mod No W w' := fun W hW => by
    have hs' := hs.on hW
    rw [hn'] at hs' ⊢
    exact owner_walk b m n _ c _ _ _ W (hW.has h.has (fun x => x)) rfl hs'
  have hor : ¬ (p.has c.ar c.ac = false ∨ (c.kind = 5 ∧ p.has c.tr c.tc = false)) ∨ (c.kind = 5 ∧ p.has c.tr c.tc = false) := by
    by_cases hx : c.kind = 5 ∧ p.has c.tr c.tc = false
    · exact .inr hx
    · left; rintro (h | h); rw [hat] at h; exact absurd h (by simp); exact hx h
  rcases hor with hor | ⟨h5, hno⟩
  case inr =>
    refine (look_noTo b c now h5 w hA (fun W hW => by have := hhas c.tr c.tc W hW; rw [hno] at this; exact this)).mono ?_
    rintro e w' ⟨rfl, hm⟩
    refine ⟨?_, hm⟩
    simp [lookV, seatErr, h5, hno]
  by_cases k2 : c.kind = 2
  · have hval : ∃ x y, holdV c now (buyer c) (saleN (seatAt p l c.ar c.ac).st (M.leftOf p l c.cls.toNat)) = .tuple #[x, y] := by
      unfold holdV; (repeat' split) <;> exact ⟨_, _, rfl⟩
    obtain ⟨x, y, hxy⟩ := hval
    refine (look_hold b c now x y k2 w hA (fun W hW => ?_)).mono ?_
    · have := hold_walk b c now _ _ hn W (fun W' hW' => hB W' (hW.trans hW')) (fun hb W' hW' => hS hb W' (hW.trans hW'))
      rw [hxy] at this
      exact this
    · rintro e w' ⟨rfl, hm⟩
      refine ⟨?_, hm⟩
      rw [← hxy]
      congr 1
      have hse : seatErr p l c now = (if buyer c ≠ 0 then buyer c else if c.time ≤ now ∨ c.time > now + 100 then 8 else saleN (seatAt p l c.ar c.ac).st (M.leftOf p l c.cls.toNat)) := by
        unfold seatErr; rw [if_neg h9, if_neg hor, if_pos k2]
      have hch : changeV c = fillV c.ar c.ac 1 c.party c.cls c.time := by unfold changeV; rw [if_neg h9, if_pos k2]
      unfold lookV holdV
      rw [hse, hch]
      by_cases hb : buyer c = 0
      · by_cases ht : c.time ≤ now ∨ c.time > now + 100
        · simp only [hb, ne_eq, not_true_eq_false, if_false, if_pos ht]; simp
        · simp only [hb, ne_eq, not_true_eq_false, if_false, if_neg ht]
          by_cases hsl : saleN (seatAt p l c.ar c.ac).st (M.leftOf p l c.cls.toNat) = 0 <;> simp [hsl]
      · simp [hb]
  by_cases k3 : c.kind = 3
  · have hval : ∃ x y, bookV c (buyer c) (seatAt p l c.ar c.ac).st (seatAt p l c.ar c.ac).pa (seatAt p l c.ar c.ac).cl (saleN (seatAt p l c.ar c.ac).st (M.leftOf p l c.cls.toNat)) = .tuple #[x, y] := by
      unfold bookV; (repeat' split) <;> exact ⟨_, _, rfl⟩
    obtain ⟨x, y, hxy⟩ := hval
    refine (look_book b c now x y k3 w hA (fun W hW => ?_)).mono ?_
    · have := book_walk b m _ c _ _ _ _ _ _ W (hW.has h.has (fun x => x)) rfl (hs.on hW) (fun W' hW' => hB W' (hW.trans hW')) (fun hb W' hW' => hS hb W' (hW.trans hW'))
      rw [hxy] at this
      exact this
    · rintro e w' ⟨rfl, hm⟩
      refine ⟨?_, hm⟩
      rw [← hxy]
      congr 1
      have hse : seatErr p l c now = (if buyer c ≠ 0 then buyer c else if (seatAt p l c.ar c.ac).st = 1 ∧ (seatAt p l c.ar c.ac).pa = c.party ∧ (seatAt p l c.ar c.ac).cl = c.cls then 0 else saleN (seatAt p l c.ar c.ac).st (M.leftOf p l c.cls.toNat)) := by
        unfold seatErr; rw [if_neg h9, if_neg hor, if_neg k2, if_pos k3]
      have hch : changeV c = fillV c.ar c.ac 2 c.party c.cls 0 := by unfold changeV; rw [if_neg h9, if_neg k2, if_pos k3]
      unfold lookV bookV
      rw [hse, hch]
      by_cases hb : buyer c = 0
      · by_cases ht : (seatAt p l c.ar c.ac).st = 1 ∧ (seatAt p l c.ar c.ac).pa = c.party ∧ (seatAt p l c.ar c.ac).cl = c.cls
        · simp only [hb, ne_eq, not_true_eq_false, if_false, if_pos ht]; simp
        · simp only [hb, ne_eq, not_true_eq_false, if_false, if_neg ht]
          by_cases hsl : saleN (seatAt p l c.ar c.ac).st (M.leftOf p l c.cls.toNat) = 0 <;> simp [hsl]
      · simp [hb]
  by_cases k4 : c.kind = 4
  · have hval : ∃ x y, cancelV c (ownerN (seatAt p l c.ar c.ac).st (seatAt p l c.ar c.ac).pa c.party) = .tuple #[x, y] := by
      unfold cancelV; (repeat' split) <;> exact ⟨_, _, rfl⟩
    obtain ⟨x, y, hxy⟩ := hval
    refine (look_cancel b c now x y k4 w hA (fun W hW => ?_)).mono ?_
    · have := cancel_walk b c _ W (fun W' hW' => hO W' (hW.trans hW'))
      rw [hxy] at this
      exact this
    · rintro e w' ⟨rfl, hm⟩
      refine ⟨?_, hm⟩
      rw [← hxy]
      congr 1
      have hse : seatErr p l c now = ownerN (seatAt p l c.ar c.ac).st (seatAt p l c.ar c.ac).pa c.party := by
        unfold seatErr; rw [if_neg h9, if_neg hor, if_neg k2, if_neg k3, if_pos k4]
      have hch : changeV c = emptyV c.ar c.ac := by unfold changeV; rw [if_neg h9, if_neg k2, if_neg k3, if_neg (by omega), if_neg (by omega)]
      unfold lookV cancelV
      rw [hse, hch]
      by_cases hsl : ownerN (seatAt p l c.ar c.ac).st (seatAt p l c.ar c.ac).pa c.party = 0 <;> simp [hsl]
  by_cases k5 : c.kind = 5
  · have hto : p.has c.tr c.tc = true := by
      by_cases ht : p.has c.tr c.tc = true
      · exact ht
      · exact absurd (.inr ⟨k5, by simpa using ht⟩) hor
    obtain ⟨hj, hje, hjr, hjc⟩ := seatAt_eq hwf hto
    have hs2 := h.sees hwf _ hj
    rw [hjr, hjc, ← hje] at hs2
    have hval : ∃ x y, moveV c (ownerN (seatAt p l c.ar c.ac).st (seatAt p l c.ar c.ac).pa c.party) (seatAt p l c.tr c.tc).st = .tuple #[x, y] := by
      unfold moveV; (repeat' split) <;> exact ⟨_, _, rfl⟩
    obtain ⟨x, y, hxy⟩ := hval
    refine (look_move b c now x y k5 w hA (fun W hW => by have := hhas c.tr c.tc W hW; rw [hto] at this; exact this) (fun W hW => ?_)).mono ?_
    · have := move_walk b m _ c _ _ _ _ _ W (hW.has h.has (fun x => x)) rfl (fun _ => hs2.on hW) (fun W' hW' => hO W' (hW.trans hW'))
      rw [hxy] at this
      exact this
    · rintro e w' ⟨rfl, hm⟩
      refine ⟨?_, hm⟩
      rw [← hxy]
      congr 1
      have hse : seatErr p l c now = (if ownerN (seatAt p l c.ar c.ac).st (seatAt p l c.ar c.ac).pa c.party ≠ 0 then ownerN (seatAt p l c.ar c.ac).st (seatAt p l c.ar c.ac).pa c.party else if (seatAt p l c.tr c.tc).st ≠ 0 then 9 else 0) := by
        unfold seatErr; rw [if_neg h9, if_neg hor, if_neg k2, if_neg k3, if_neg k4, if_pos k5]
      have hch : changeV c = shiftV c.ar c.ac c.tr c.tc := by unfold changeV; rw [if_neg h9, if_neg k2, if_neg k3, if_pos k5]
      unfold lookV moveV
      rw [hse, hch]
      by_cases hsl : ownerN (seatAt p l c.ar c.ac).st (seatAt p l c.ar c.ac).pa c.party = 0
      · by_cases hst : (seatAt p l c.tr c.tc).st = 0 <;> simp [hsl, hst]
      · simp [hsl]
  by_cases k6 : c.kind = 6
  · have hval : ∃ x y, blockV c (seatAt p l c.ar c.ac).st = .tuple #[x, y] := by
      unfold blockV; (repeat' split) <;> exact ⟨_, _, rfl⟩
    obtain ⟨x, y, hxy⟩ := hval
    refine (look_block b c now x y k6 w hA (fun W hW => ?_)).mono ?_
    · have := block_walk b m _ c _ _ _ _ W (hW.has h.has (fun x => x)) rfl (hs.on hW)
      rw [hxy] at this
      exact this
    · rintro e w' ⟨rfl, hm⟩
      refine ⟨?_, hm⟩
      rw [← hxy]
      congr 1
      have hse : seatErr p l c now = if (seatAt p l c.ar c.ac).st ≠ 0 then 9 else 0 := by
        unfold seatErr; rw [if_neg h9, if_neg hor, if_neg k2, if_neg k3, if_neg k4, if_neg k5, if_pos k6]
      have hch : changeV c = fillV c.ar c.ac 3 0 0 0 := by unfold changeV; rw [if_neg h9, if_neg k2, if_neg k3, if_neg k5, if_pos k6]
      unfold lookV blockV
      rw [hse, hch]
      by_cases hst : (seatAt p l c.ar c.ac).st = 0 <;> simp [hst]
  have k7 : c.kind = 7 := by omega
  · have hval : ∃ x y, unblockV c (seatAt p l c.ar c.ac).st = .tuple #[x, y] := by
      unfold unblockV; (repeat' split) <;> exact ⟨_, _, rfl⟩
    obtain ⟨x, y, hxy⟩ := hval
    refine (look_unblock b c now x y k7 w hA (fun W hW => ?_)).mono ?_
    · have := unblock_walk b m _ c _ _ _ _ W (hW.has h.has (fun x => x)) rfl (hs.on hW)
      rw [hxy] at this
      exact this
    · rintro e w' ⟨rfl, hm⟩
      refine ⟨?_, hm⟩
      rw [← hxy]
      congr 1
      have hse : seatErr p l c now = if (seatAt p l c.ar c.ac).st ≠ 3 then 10 else 0 := by
        unfold seatErr; rw [if_neg h9, if_neg hor, if_neg k2, if_neg k3, if_neg k4, if_neg k5, if_neg k6]
      have hch : changeV c = emptyV c.ar c.ac := by unfold changeV; rw [if_neg h9, if_neg k2, if_neg k3, if_neg k5, if_neg k6]
      unfold lookV unblockV
      rw [hse, hch]
      by_cases hst : (seatAt p l c.ar c.ac).st = 3 <;> simp [hst]
end Go.Proofs.YthhibagcpjeihaaGreat
/- The document's answer: a seat is sold. -/
namespace Go.Proofs.YthhibagcpjeihaaGreat
open Go.RowKit
open M
set_option linter.unusedVariables false
set_option linter.unusedSimpArgs false
set_option maxRecDepth 100000
set_option maxHeartbeats 4000000

theorem RowS.set {w : World} {g cap : Nat} {l : List Sea} (h : RowS w g cap l) (i : Nat) (hi : i < l.length) (j : Nat) (hj : j < 6) (v : Value) (s : Sea) (hs : seaV s = (seaV l[i]).setIfInBounds j v) :
    RowS (w.setCell ⟨g, i * 6 + j, none⟩ v) g cap (l.set i s) := by
  obtain ⟨cur, h1, h2, h3⟩ := h.cur
  refine ⟨⟨_, h1.set (i * 6 + j) v, by simpa using h2, fun i' hi' j' hj' => ?_⟩, by simpa using h.le, h.max⟩
  have hi2 : i' < l.length := by simpa using hi'
  have hcur : i * 6 + j < cur.size := by
    have := h.le
    omega
  by_cases e : i' = i
  · subst e
    simp only [List.getElem_set_self]
    rw [hs]
    by_cases e2 : j = j'
    · subst e2
      rw [Array.getElem?_setIfInBounds_self_of_lt hcur, Array.getElem?_setIfInBounds_self_of_lt (by simpa [seaV] using hj)]
    · rw [Array.getElem?_setIfInBounds_ne (by omega), Array.getElem?_setIfInBounds_ne e2]
      exact h3 _ hi2 _ hj'
  · rw [Array.getElem?_setIfInBounds_ne (by omega), List.getElem_set_ne (fun h => e h.symm)]
    exact h3 _ hi2 _ hj'

theorem RowS.ne_cell {w : World} {g cap : Nat} {l : List Sea} (h : RowS w g cap l) {a : Addr} (ha : g ≠ a.block) (v : Value) : RowS (w.setCell a v) g cap l := by
  obtain ⟨cur, h1, h2, h3⟩ := h.cur
  exact ⟨⟨cur, h1.set_ne ha v, h2, h3⟩, h.le, h.max⟩

/-- A flight in memory, at its place in a row of flights. -/
structure FlR (w : World) (gf fo g cap : Nat) (p : Pla) (l : List Sea) : Prop where
  row : RowS w g cap l
  len : l.length ≤ 1000
  ne : gf ≠ g
  slice : w.cell? ⟨gf, fo + 8, none⟩ = some (.slice (some ⟨g, 0, none⟩) l.length cap)
  lims : ∀ j, j < 4 → w.cell? ⟨gf, fo + 4 + j, none⟩ = some (.int .i64 (p.lim j))

theorem cell_keep {S : Nat → Prop} {w w' : World} (h : Mod S w w') {a : Addr} {v : Value} (hc : w.cell? a = some v) (hs : ¬ S a.block) : w'.cell? a = some v := by
  have hl := World.block_lt_of_cell? w a hc
  unfold World.cell? at hc ⊢
  rw [h.block _ hl hs]
  exact hc

theorem FlR.mod {w w' : World} {gf fo g cap : Nat} {p : Pla} {l : List Sea} (h : FlR w gf fo g cap p l) (hm : Mod No w w') : FlR w' gf fo g cap p l :=
  ⟨h.row.mod hm (fun x => x), h.len, h.ne, cell_keep hm h.slice (fun x => x), fun j hj => cell_keep hm (h.lims j hj) (fun x => x)⟩

/-- What comes of a sale in memory. -/
structure SaleOk (w w' : World) (gf fo g cap : Nat) (p : Pla) (l l' : List Sea) : Prop where
  row : RowS w' g cap l'
  mod : Mod (fun k => k = g) w w'

theorem SaleOk.same {w w' : World} {gf fo g cap : Nat} {p : Pla} {l : List Sea} (h : FlR w gf fo g cap p l) (hm : Mod No w w') : SaleOk w w' gf fo g cap p l l :=
  ⟨h.row.mod hm (fun x => x), hm.mono (fun _ _ x => x.elim)⟩

/-- A cell of the seat is written, and the rest is as it was. -/
theorem SaleOk.set {w w' : World} {gf fo g cap : Nat} {p : Pla} {l l' : List Sea} (h : SaleOk w w' gf fo g cap p l l') (i : Nat) (hi : i < l'.length) (j : Nat) (hj : j < 6) (v : Value) (s : Sea) (hs : seaV s = (seaV l'[i]).setIfInBounds j v) :
    SaleOk w (w'.setCell ⟨g, i * 6 + j, none⟩ v) gf fo g cap p l (l'.set i s) :=
  ⟨h.row.set i hi j hj v s hs, h.mod.setCell (p := ⟨g, i * 6 + j, none⟩) (.inl rfl) v⟩

theorem limited_bounds {p : Pla} (h : p.limited = true) : 0 ≤ p.l0 ∧ p.l0 ≤ 200 ∧ 0 ≤ p.l1 ∧ p.l1 ≤ 200 ∧ 0 ≤ p.l2 ∧ p.l2 ≤ 200 ∧ 0 ≤ p.l3 ∧ p.l3 ≤ 200 := by
  simp only [Pla.limited, decide_eq_true_eq] at h
  omega

theorem sale_early (wb gf fo g cap i : Nat) (p : Pla) (l : List Sea) (c : Cmd) (w : World) (h : FlR w gf fo g cap p l) (hb : buyer c ≠ 0) :
    Calls Tryz.prog 86 #[.pointer (some ⟨wb, 0, none⟩), .pointer (some ⟨gf, fo, none⟩), .pointer (some ⟨g, i * 6, none⟩), .agg (cmdCells c)] w fun e w' => e = .returned (.int .i64 (buyer c)) ∧ SaleOk w w' gf fo g cap p l l := by
  have HW := hide fun W => whom_any c W
  have HD := hide (show (buyer c != 0) = true by simpa using hb)
  have H := hide h
  have M0 := hide ((Mod.refl No w).alloc (.cells (cmdCells c) 41))
  generalize buyer c = b at *
  clear h hb
  unfold cmdCells at *
  go_enter Tryz.func86, Tryz.ntmps86
  go_wp2_with fail
  refine ((unhide HW) _).mono ?_
  rintro e w1 ⟨rfl, m1⟩
  have hd := unhide HD
  go_wp2
  go_ret
  exact ⟨rfl, SaleOk.same (unhide H) ((unhide M0).trans m1)⟩
end Go.Proofs.YthhibagcpjeihaaGreat
/- The document's answer: a hold, a booking. -/
namespace Go.Proofs.YthhibagcpjeihaaGreat
open Go.RowKit
open M
set_option linter.unusedVariables false
set_option linter.unusedSimpArgs false
set_option maxRecDepth 100000
set_option maxHeartbeats 8000000

theorem RowS.froz {w : World} {g cap : Nat} {l : List Sea} (h : RowS w g cap l) (o : Nat) : w.frozen? ⟨g, o, none⟩ = false := by
  obtain ⟨cur, h1, _⟩ := h.cur
  exact h1.frozen o
theorem leftOf_pos (p : Pla) (l : List Sea) (k : Nat) : 0 ≤ M.leftOf p l k := by unfold M.leftOf; omega

def holdE (now time st lf : Int) : Int := if time ≤ now ∨ time > now + 100 then 8 else saleN st lf
def bookE (party cls lf : Int) (s : Sea) : Int := if s.st = 1 ∧ s.pa = party ∧ s.cl = cls then 0 else saleN s.st lf
/-- The seats behind a command that may have been refused. -/
def soldL (e : Int) (l : List Sea) (i : Nat) (s : Sea) : List Sea := if e = 0 then l.set i s else l
theorem soldL_no {e : Int} (h : e ≠ 0) (l : List Sea) (i : Nat) (s : Sea) : soldL e l i s = l := if_neg h
theorem soldL_yes (l : List Sea) (i : Nat) (s : Sea) : soldL 0 l i s = l.set i s := rfl

theorem SaleOk.put {w w' : World} {gf fo g cap : Nat} {p : Pla} {l l0 : List Sea} {i : Nat} {s0 : Sea} (h : SaleOk w w' gf fo g cap p l (l0.set i s0)) (hi : i < l0.length) (j : Nat) (hj : j < 6) (v : Value) (s : Sea) (hs : seaV s = (seaV s0).setIfInBounds j v) :
    SaleOk w (w'.setCell ⟨g, i * 6 + j, none⟩ v) gf fo g cap p l (l0.set i s) := by
  have := h.set i (by simpa using hi) j hj v s (by simpa using hs)
  rwa [List.set_set] at this

theorem sale_hold (wb gf fo g cap i : Nat) (p : Pla) (l : List Sea) (flight ar ac tr tc party time now : Int) (k : Nat) (pl : Pla) (w : World) (h : FlR w gf fo g cap p l) (s : Sea) (hse : ∃ hi : i < l.length, l[i] = s) (hp : p.limited = true) (hk : k < 4) (hpa : 1 ≤ party ∧ party ≤ 1000)
    (ht : -9223372036854775808 ≤ time ∧ time ≤ 9223372036854775807) (hn : 0 ≤ now ∧ now ≤ 4611686018427387000) (hnow : w.cell? ⟨wb, 1, none⟩ = some (.int .i64 now))  :
    Calls Tryz.prog 86 #[.pointer (some ⟨wb, 0, none⟩), .pointer (some ⟨gf, fo, none⟩), .pointer (some ⟨g, i * 6, none⟩), .agg #[.int .i64 2, .int .i64 flight, .int .i64 ar, .int .i64 ac, .int .i64 tr, .int .i64 tc, .int .i64 party, .int .i64 k, .int .i64 time, .int .i64 pl.rows, .int .i64 pl.cols, .int .i64 pl.front, .int .i64 pl.l0, .int .i64 pl.l1, .int .i64 pl.l2, .int .i64 pl.l3]] w fun e w' => e = .returned (.int .i64 (holdE now time s.st (M.leftOf p l k))) ∧
      SaleOk w w' gf fo g cap p l (soldL (holdE now time s.st (M.leftOf p l k)) l i ⟨s.row, s.col, 1, party, k, time⟩) := by
  have HW := hide fun W => (show Calls Tryz.prog 111 #[.agg #[.int .i64 2, .int .i64 flight, .int .i64 ar, .int .i64 ac, .int .i64 tr, .int .i64 tc, .int .i64 party, .int .i64 k, .int .i64 time, .int .i64 pl.rows, .int .i64 pl.cols, .int .i64 pl.front, .int .i64 pl.l0, .int .i64 pl.l1, .int .i64 pl.l2, .int .i64 pl.l3]] W fun e w' => e = .returned (.int .i64 0) ∧ Mod No W w' from by
    have := whom_any ⟨2, flight, ar, ac, tr, tc, party, k, time, pl⟩ W
    rw [show buyer ⟨2, flight, ar, ac, tr, tc, party, k, time, pl⟩ = 0 from by unfold buyer; rw [if_neg (by simp only; omega), if_neg (by simp only; omega)]] at this
    exact this)
  have HL := hide fun W (hW : Mod No w W) => rleft_any gf fo g cap p l k hk W ((h.mod hW).row) h.len (h.mod hW).slice (limited_bounds hp) (h.mod hW).lims
  have HNOW := hide fun W (hW : Mod No w W) => cell_keep hW hnow (fun x => x)
  have H := hide h
  have M0 := hide ((Mod.refl No w).alloc (.cells #[.int .i64 2, .int .i64 flight, .int .i64 ar, .int .i64 ac, .int .i64 tr, .int .i64 tc, .int .i64 party, .int .i64 k, .int .i64 time, .int .i64 pl.rows, .int .i64 pl.cols, .int .i64 pl.front, .int .i64 pl.l0, .int .i64 pl.l1, .int .i64 pl.l2, .int .i64 pl.l3] 41))
  have HB := hide (Has.new w #[.int .i64 2, .int .i64 flight, .int .i64 ar, .int .i64 ac, .int .i64 tr, .int .i64 tc, .int .i64 party, .int .i64 k, .int .i64 time, .int .i64 pl.rows, .int .i64 pl.cols, .int .i64 pl.front, .int .i64 pl.l0, .int .i64 pl.l1, .int .i64 pl.l2, .int .i64 pl.l3] 41)
  have HI := hide hse
  clear h hnow hp hse
  go_enter Tryz.func86, Tryz.ntmps86
  go_wp2_with fail
  refine ((unhide HW) _).mono ?_
  rintro e w1 ⟨rfl, m1⟩
  have M1 := hide ((unhide M0).trans m1)
  have hb := (m1.has (unhide HB) (fun x => x)).cell
  have lb := (m1.has (unhide HB) (fun x => x)).lt
  have BX1 := m1.has (unhide HB) (fun x => x)
  have R1 := (unhide H).row.mod (unhide M1) (fun x => x)
  have c2 : w1.cell? ⟨g, i * 6 + 2, none⟩ = some (.int .i64 s.st) := by obtain ⟨hi, he⟩ := unhide HI; rw [← he]; exact R1.st i hi
  have c3 : w1.cell? ⟨g, i * 6 + 3, none⟩ = some (.int .i64 s.pa) := by obtain ⟨hi, he⟩ := unhide HI; rw [← he]; exact R1.pa i hi
  have c4 : w1.cell? ⟨g, i * 6 + 4, none⟩ = some (.int .i64 s.cl) := by obtain ⟨hi, he⟩ := unhide HI; rw [← he]; exact R1.cl i hi
  have c5 : w1.cell? ⟨g, i * 6 + 5, none⟩ = some (.int .i64 s.un) := by obtain ⟨hi, he⟩ := unhide HI; rw [← he]; exact R1.un i hi
  have n1 := (unhide HNOW) _ (unhide M1)
  clear m1 R1 HW M0
  by_cases t1 : time ≤ now
  · have d1 : decide (time ≤ now) = true := by simpa using t1
    have HE := hide (show holdE now time s.st (M.leftOf p l k) = 8 from if_pos (.inl t1))
    clear HL
    go_wp2_with fail
    go_quiet (fail)
    go_wp2
    go_ret
    rw [unhide HE, soldL_no (by omega)]
    exact ⟨rfl, SaleOk.same (unhide H) ((unhide M1).drewN _)⟩
  have d1 : decide (time ≤ now) = false := by simpa using t1
  have hw : IntKind.i64.wrap (time - now) = time - now := wrap_fit _ (by omega) (by omega)
  by_cases t2 : time - now > 100
  · have d2 : decide (time - now > 100) = true := by simpa using t2
    have HE := hide (show holdE now time s.st (M.leftOf p l k) = 8 from if_pos (.inr (by omega)))
    clear HL
    go_wp2_with fail
    go_quiet (fail)
    go_wp2
    go_ret
    rw [unhide HE, soldL_no (by omega)]
    exact ⟨rfl, SaleOk.same (unhide H) ((unhide M1).drewN _)⟩
  have d2 : decide (time - now > 100) = false := by simpa using t2
  have HZ := hide (show holdE now time s.st (M.leftOf p l k) = saleN s.st (M.leftOf p l k) from if_neg (fun h => by rcases h with h | h; exact t1 h; exact t2 (by omega)))
  go_wp2_with fail
  go_quiet (fail)
  clear n1
  go_wp2_with fail
  go_quiet (fail)
  by_cases hs : s.st = 0
  case neg =>
    have ds : (s.st != 0) = true := by simpa using hs
    have HE := hide (show holdE now time s.st (M.leftOf p l k) = 9 from by rw [unhide HZ]; unfold saleN; rw [if_pos hs])
    clear HL HZ
    go_wp2
    go_ret
    rw [unhide HE, soldL_no (by omega)]
    exact ⟨rfl, SaleOk.same (unhide H) ((unhide M1).drewN _)⟩
  have ds : (s.st != 0) = false := by simpa using hs
  have BX := hide fun n => BX1.drewN n
  go_wp2_with fail
  refine ((unhide HL) _ ((unhide M1).drewN _)).mono ?_
  rintro e w2 ⟨rfl, m2⟩
  have M2 := hide (((unhide M1).drewN _).trans m2)
  have hb2 := (m2.has ((unhide BX) _) (fun x => x)).cell
  have R2 := hide ((unhide H).row.mod (unhide M2) (fun x => x))
  have r2 : w2.cell? ⟨g, i * 6 + 2, none⟩ = some (.int .i64 s.st) := by obtain ⟨hi, he⟩ := unhide HI; rw [← he]; exact (unhide R2).st i hi
  have r3 : w2.cell? ⟨g, i * 6 + 3, none⟩ = some (.int .i64 s.pa) := by obtain ⟨hi, he⟩ := unhide HI; rw [← he]; exact (unhide R2).pa i hi
  have r4 : w2.cell? ⟨g, i * 6 + 4, none⟩ = some (.int .i64 s.cl) := by obtain ⟨hi, he⟩ := unhide HI; rw [← he]; exact (unhide R2).cl i hi
  have r5 : w2.cell? ⟨g, i * 6 + 5, none⟩ = some (.int .i64 s.un) := by obtain ⟨hi, he⟩ := unhide HI; rw [← he]; exact (unhide R2).un i hi
  have fz := (unhide R2).froz
  have gb : g ≠ w.heap.size := by have := (unhide H).row.lt; omega
  have lp := leftOf_pos p l k
  clear hb m2 c2 c3 c4 c5 BX1 lb
  by_cases hl : M.leftOf p l k < 1
  · have HE := hide (show holdE now time s.st (M.leftOf p l k) = 11 from by rw [unhide HZ]; unfold saleN; rw [if_neg (by simpa using hs), if_pos (by omega)])
    clear HZ
    go_wp2
    go_ret
    rw [unhide HE, soldL_no (by omega)]
    exact ⟨rfl, SaleOk.same (unhide H) (unhide M2)⟩
  · have HE := hide (show holdE now time s.st (M.leftOf p l k) = 0 from by rw [unhide HZ]; unfold saleN; rw [if_neg (by simpa using hs), if_neg (by omega)])
    have S0 := hide (SaleOk.same (unhide H) (unhide M2))
    clear HZ lp
    go_wp2
    go_ret
    rw [unhide HE, soldL_yes]
    obtain ⟨hi, he⟩ := unhide HI
    have S1 : SaleOk w w2 gf fo g cap p l (l.set i s) := by rw [← he, List.set_getElem_self]; exact unhide S0
    exact ⟨rfl, ((((S1.put hi 2 (by omega) (.int .i64 2) ⟨s.row, s.col, 2, s.pa, s.cl, s.un⟩ rfl).put hi 3 (by omega) (.int .i64 party) ⟨s.row, s.col, 2, party, s.cl, s.un⟩ rfl).put hi 4 (by omega) (.int .i64 k) ⟨s.row, s.col, 2, party, k, s.un⟩ rfl).put hi 2 (by omega) (.int .i64 1) ⟨s.row, s.col, 1, party, k, s.un⟩ rfl).put hi 5 (by omega) (.int .i64 time) ⟨s.row, s.col, 1, party, k, time⟩ rfl⟩
theorem sale_book (wb gf fo g cap i : Nat) (p : Pla) (l : List Sea) (flight ar ac tr tc party time now : Int) (k : Nat) (pl : Pla) (w : World) (h : FlR w gf fo g cap p l) (s : Sea) (hse : ∃ hi : i < l.length, l[i] = s) (hp : p.limited = true) (hk : k < 4) (hpa : 1 ≤ party ∧ party ≤ 1000)
    (ht : -9223372036854775808 ≤ time ∧ time ≤ 9223372036854775807) (hn : 0 ≤ now ∧ now ≤ 4611686018427387000) (hnow : w.cell? ⟨wb, 1, none⟩ = some (.int .i64 now)) (hun : s.st = 0 → s.un = 0) :
    Calls Tryz.prog 86 #[.pointer (some ⟨wb, 0, none⟩), .pointer (some ⟨gf, fo, none⟩), .pointer (some ⟨g, i * 6, none⟩), .agg #[.int .i64 3, .int .i64 flight, .int .i64 ar, .int .i64 ac, .int .i64 tr, .int .i64 tc, .int .i64 party, .int .i64 k, .int .i64 time, .int .i64 pl.rows, .int .i64 pl.cols, .int .i64 pl.front, .int .i64 pl.l0, .int .i64 pl.l1, .int .i64 pl.l2, .int .i64 pl.l3]] w fun e w' => e = .returned (.int .i64 (bookE party k (M.leftOf p l k) s)) ∧
      SaleOk w w' gf fo g cap p l (soldL (bookE party k (M.leftOf p l k) s) l i ⟨s.row, s.col, 2, party, k, 0⟩) := by
  have HUN := hide hun
  clear hun
  have HW := hide fun W => (show Calls Tryz.prog 111 #[.agg #[.int .i64 3, .int .i64 flight, .int .i64 ar, .int .i64 ac, .int .i64 tr, .int .i64 tc, .int .i64 party, .int .i64 k, .int .i64 time, .int .i64 pl.rows, .int .i64 pl.cols, .int .i64 pl.front, .int .i64 pl.l0, .int .i64 pl.l1, .int .i64 pl.l2, .int .i64 pl.l3]] W fun e w' => e = .returned (.int .i64 0) ∧ Mod No W w' from by
    have := whom_any ⟨3, flight, ar, ac, tr, tc, party, k, time, pl⟩ W
    rw [show buyer ⟨3, flight, ar, ac, tr, tc, party, k, time, pl⟩ = 0 from by unfold buyer; rw [if_neg (by simp only; omega), if_neg (by simp only; omega)]] at this
    exact this)
  have HL := hide fun W (hW : Mod No w W) => rleft_any gf fo g cap p l k hk W ((h.mod hW).row) h.len (h.mod hW).slice (limited_bounds hp) (h.mod hW).lims
  have HNOW := hide fun W (hW : Mod No w W) => cell_keep hW hnow (fun x => x)
  have H := hide h
  have M0 := hide ((Mod.refl No w).alloc (.cells #[.int .i64 3, .int .i64 flight, .int .i64 ar, .int .i64 ac, .int .i64 tr, .int .i64 tc, .int .i64 party, .int .i64 k, .int .i64 time, .int .i64 pl.rows, .int .i64 pl.cols, .int .i64 pl.front, .int .i64 pl.l0, .int .i64 pl.l1, .int .i64 pl.l2, .int .i64 pl.l3] 41))
  have HB := hide (Has.new w #[.int .i64 3, .int .i64 flight, .int .i64 ar, .int .i64 ac, .int .i64 tr, .int .i64 tc, .int .i64 party, .int .i64 k, .int .i64 time, .int .i64 pl.rows, .int .i64 pl.cols, .int .i64 pl.front, .int .i64 pl.l0, .int .i64 pl.l1, .int .i64 pl.l2, .int .i64 pl.l3] 41)
  have HI := hide hse
  clear h hnow hp hse
  go_enter Tryz.func86, Tryz.ntmps86
  go_wp2_with fail
  refine ((unhide HW) _).mono ?_
  rintro e w1 ⟨rfl, m1⟩
  have M1 := hide ((unhide M0).trans m1)
  have hb := (m1.has (unhide HB) (fun x => x)).cell
  have lb := (m1.has (unhide HB) (fun x => x)).lt
  have BX1 := m1.has (unhide HB) (fun x => x)
  have R1 := (unhide H).row.mod (unhide M1) (fun x => x)
  have c2 : w1.cell? ⟨g, i * 6 + 2, none⟩ = some (.int .i64 s.st) := by obtain ⟨hi, he⟩ := unhide HI; rw [← he]; exact R1.st i hi
  have c3 : w1.cell? ⟨g, i * 6 + 3, none⟩ = some (.int .i64 s.pa) := by obtain ⟨hi, he⟩ := unhide HI; rw [← he]; exact R1.pa i hi
  have c4 : w1.cell? ⟨g, i * 6 + 4, none⟩ = some (.int .i64 s.cl) := by obtain ⟨hi, he⟩ := unhide HI; rw [← he]; exact R1.cl i hi
  have c5 : w1.cell? ⟨g, i * 6 + 5, none⟩ = some (.int .i64 s.un) := by obtain ⟨hi, he⟩ := unhide HI; rw [← he]; exact R1.un i hi
  have n1 := (unhide HNOW) _ (unhide M1)
  clear m1 R1 HW M0
  clear HNOW
  have fz1 := hide ((unhide H).row.mod (unhide M1) (fun x => x)).froz
  go_wp2_with fail
  go_quiet (fail)
  clear n1
  by_cases hs1 : s.st = 1
  · have d1 : (s.st == 1) = true := by simpa using hs1
    by_cases hs2 : s.pa = party
    · have d2 : (s.pa == party) = true := by simpa using hs2
      by_cases hs3 : s.cl = (k : Int)
      · have d3 : (s.cl == (k : Int)) = true := by simpa using hs3
        have HE := hide (show bookE party k (M.leftOf p l k) s = 0 from if_pos ⟨hs1, hs2, hs3⟩)
        have fz2 : ∀ (n o : Nat), (w1.drewN n).frozen? ⟨g, o, none⟩ = false := fun n o => (unhide fz1) o
        have S0 := hide fun n => SaleOk.same (unhide H) ((unhide M1).drewN n)
        have HS := hide (show (⟨s.row, s.col, 2, s.pa, s.cl, 0⟩ : Sea) = ⟨s.row, s.col, 2, party, k, 0⟩ from by rw [hs2, hs3])
        clear HL hs1 hs2 hs3
        go_wp2_with fail
        go_quiet (fail)
        clear c3 c4 hb
        have fz := unhide fz1
        go_wp2
        go_ret
        rw [unhide HE, soldL_yes, ← unhide HS]
        obtain ⟨hi, he⟩ := unhide HI
        have S1 : ∀ n, SaleOk w (w1.drewN n) gf fo g cap p l (l.set i s) := fun n => by rw [← he, List.set_getElem_self]; exact (unhide S0) n
        exact ⟨rfl, ((S1 _).put hi 2 (by omega) (.int .i64 2) ⟨s.row, s.col, 2, s.pa, s.cl, s.un⟩ rfl).put hi 5 (by omega) (.int .i64 0) ⟨s.row, s.col, 2, s.pa, s.cl, 0⟩ rfl⟩
      · have d3 : (s.cl == (k : Int)) = false := by simpa using hs3
        have ds : (s.st != 0) = true := by simp [hs1]
        have HE := hide (show bookE party k (M.leftOf p l k) s = 9 from by unfold bookE; rw [if_neg (fun h => hs3 h.2.2)]; unfold saleN; rw [if_pos (by omega)])
        clear HL hs1 hs2 hs3
        go_wp2_with fail
        go_quiet (fail)
        go_wp2
        go_ret
        rw [unhide HE, soldL_no (by omega)]
        exact ⟨rfl, SaleOk.same (unhide H) ((unhide M1).drewN _)⟩
    · have d2 : (s.pa == party) = false := by simpa using hs2
      have ds : (s.st != 0) = true := by simp [hs1]
      have HE := hide (show bookE party k (M.leftOf p l k) s = 9 from by unfold bookE; rw [if_neg (fun h => hs2 h.2.1)]; unfold saleN; rw [if_pos (by omega)])
      clear HL hs1 hs2
      go_wp2_with fail
      go_quiet (fail)
      go_wp2
      go_ret
      rw [unhide HE, soldL_no (by omega)]
      exact ⟨rfl, SaleOk.same (unhide H) ((unhide M1).drewN _)⟩
  have d1 : (s.st == 1) = false := by simpa using hs1
  have HZ := hide (show bookE party k (M.leftOf p l k) s = saleN s.st (M.leftOf p l k) from if_neg (fun h => hs1 h.1))
  go_wp2_with fail
  go_quiet (fail)
  by_cases hs : s.st = 0
  case neg =>
    have ds : (s.st != 0) = true := by simpa using hs
    have HE := hide (show bookE party k (M.leftOf p l k) s = 9 from by rw [unhide HZ]; unfold saleN; rw [if_pos hs])
    clear HL HZ
    go_wp2
    go_ret
    rw [unhide HE, soldL_no (by omega)]
    exact ⟨rfl, SaleOk.same (unhide H) ((unhide M1).drewN _)⟩
  have ds : (s.st != 0) = false := by simpa using hs
  have BX := hide fun n => BX1.drewN n
  go_wp2_with fail
  refine ((unhide HL) _ ((unhide M1).drewN _)).mono ?_
  rintro e w2 ⟨rfl, m2⟩
  have M2 := hide (((unhide M1).drewN _).trans m2)
  have hb2 := (m2.has ((unhide BX) _) (fun x => x)).cell
  have R2 := hide ((unhide H).row.mod (unhide M2) (fun x => x))
  have r2 : w2.cell? ⟨g, i * 6 + 2, none⟩ = some (.int .i64 s.st) := by obtain ⟨hi, he⟩ := unhide HI; rw [← he]; exact (unhide R2).st i hi
  have r3 : w2.cell? ⟨g, i * 6 + 3, none⟩ = some (.int .i64 s.pa) := by obtain ⟨hi, he⟩ := unhide HI; rw [← he]; exact (unhide R2).pa i hi
  have r4 : w2.cell? ⟨g, i * 6 + 4, none⟩ = some (.int .i64 s.cl) := by obtain ⟨hi, he⟩ := unhide HI; rw [← he]; exact (unhide R2).cl i hi
  have fz := (unhide R2).froz
  have gb : g ≠ w.heap.size := by have := (unhide H).row.lt; omega
  have lp := leftOf_pos p l k
  clear hb m2 c2 c3 c4 c5 BX1 lb
  by_cases hl : M.leftOf p l k < 1
  · have HE := hide (show bookE party k (M.leftOf p l k) s = 11 from by rw [unhide HZ]; unfold saleN; rw [if_neg (by simpa using hs), if_pos (by omega)])
    clear HZ
    go_wp2
    go_ret
    rw [unhide HE, soldL_no (by omega)]
    exact ⟨rfl, SaleOk.same (unhide H) (unhide M2)⟩
  · have HE := hide (show bookE party k (M.leftOf p l k) s = 0 from by rw [unhide HZ]; unfold saleN; rw [if_neg (by simpa using hs), if_neg (by omega)])
    have S0 := hide (SaleOk.same (unhide H) (unhide M2))
    have HU := hide ((unhide HUN) hs)
    clear HZ lp
    go_wp2
    go_ret
    rw [unhide HE, soldL_yes]
    obtain ⟨hi, he⟩ := unhide HI
    have S1 : SaleOk w w2 gf fo g cap p l (l.set i s) := by rw [← he, List.set_getElem_self]; exact unhide S0
    have S2 := ((S1.put hi 2 (by omega) (.int .i64 2) ⟨s.row, s.col, 2, s.pa, s.cl, s.un⟩ rfl).put hi 3 (by omega) (.int .i64 party) ⟨s.row, s.col, 2, party, s.cl, s.un⟩ rfl).put hi 4 (by omega) (.int .i64 k) ⟨s.row, s.col, 2, party, k, s.un⟩ rfl
    rw [unhide HU] at S2
    exact ⟨rfl, S2⟩
end Go.Proofs.YthhibagcpjeihaaGreat
