import Derived.Test.YthhibagcpjeihaaGPg5ToLook6
import Derived.Test.YthhibagcpjeihaaGLook4ToSwap2
import Derived.Test.YthhibagcpjeihaaGStartToPass
import Derived.Deep.MidRow
/- A command to a flight is looked over: what comes out. -/
namespace Go.Proofs.Ythhibagcpjeihaa
open Go.RowKit
open Go.ChangeMaps (setBlock)
open M
set_option linter.unusedVariables false
set_option linter.unusedSimpArgs false
set_option maxRecDepth 100000

def seatAt (p : Pla) (l : List Sea) (r c : Int) : Sea := l.getD (p.idx r c) noSea

/-- Why a command to a seat is none. -/
def seatErr (p : Pla) (l : List Sea) (c : Cmd) (now : Int) : Int :=
  if c.kind = 9 then (if c.pla.sized = true ∧ ¬ (c.pla.rows * c.pla.cols < (nFull l : Int)) then 0 else 4)
  else if p.has c.ar c.ac = false ∨ (c.kind = 5 ∧ p.has c.tr c.tc = false) then 5
  else if c.kind = 2 then (if buyer c ≠ 0 then buyer c else if c.time ≤ now ∨ c.time > now + 100 then 8 else saleN (seatAt p l c.ar c.ac).st (M.leftOf p l c.cls.toNat))
  else if c.kind = 3 then (if buyer c ≠ 0 then buyer c else if (seatAt p l c.ar c.ac).st = 1 ∧ (seatAt p l c.ar c.ac).pa = c.party ∧ (seatAt p l c.ar c.ac).cl = c.cls then 0 else saleN (seatAt p l c.ar c.ac).st (M.leftOf p l c.cls.toNat))
  else if c.kind = 4 then ownerN (seatAt p l c.ar c.ac).st (seatAt p l c.ar c.ac).pa c.party
  else if c.kind = 5 then (if ownerN (seatAt p l c.ar c.ac).st (seatAt p l c.ar c.ac).pa c.party ≠ 0 then ownerN (seatAt p l c.ar c.ac).st (seatAt p l c.ar c.ac).pa c.party else if (seatAt p l c.tr c.tc).st ≠ 0 then 9 else 0)
  else if c.kind = 6 then (if (seatAt p l c.ar c.ac).st ≠ 0 then 9 else 0)
  else (if (seatAt p l c.ar c.ac).st ≠ 3 then 10 else 0)

/-- The change that a command to a seat is. -/
def changeV (c : Cmd) : Value :=
  if c.kind = 9 then refitV c.pla
  else if c.kind = 2 then fillV c.ar c.ac 1 c.party c.cls c.time
  else if c.kind = 3 then fillV c.ar c.ac 2 c.party c.cls 0
  else if c.kind = 5 then shiftV c.ar c.ac c.tr c.tc
  else if c.kind = 6 then fillV c.ar c.ac 3 0 0 0
  else emptyV c.ar c.ac

/-- The seats behind it. -/
def seatNew (p : Pla) (l : List Sea) (c : Cmd) : List Sea :=
  if c.kind = 9 then swapSeats (swapPla p c.pla) l
  else if c.kind = 2 then l.set (p.idx c.ar c.ac) ⟨c.ar, c.ac, 1, c.party, c.cls, c.time⟩
  else if c.kind = 3 then l.set (p.idx c.ar c.ac) ⟨c.ar, c.ac, 2, c.party, c.cls, 0⟩
  else if c.kind = 5 then (l.set (p.idx c.ar c.ac) (seatAt p l c.ar c.ac).freed).set (p.idx c.tr c.tc) ⟨c.tr, c.tc, (seatAt p l c.ar c.ac).st, (seatAt p l c.ar c.ac).pa, (seatAt p l c.ar c.ac).cl, (seatAt p l c.ar c.ac).un⟩
  else if c.kind = 6 then l.set (p.idx c.ar c.ac) ⟨c.ar, c.ac, 3, 0, 0, 0⟩
  else l.set (p.idx c.ar c.ac) (seatAt p l c.ar c.ac).freed

/-- The plane behind it. -/
def planNew (p : Pla) (c : Cmd) : Pla := if c.kind = 9 then swapPla p c.pla else p.next

def lookV (p : Pla) (l : List Sea) (c : Cmd) (now : Int) : Value := if seatErr p l c now = 0 then grant (changeV c) else refuse (seatErr p l c now)

theorem seatAt_eq {p : Pla} {l : List Sea} (hwf : Wf p l) {r c : Int} (hh : p.has r c = true) : ∃ hi : p.idx r c < l.length, seatAt p l r c = l[p.idx r c] ∧ l[p.idx r c].row = r ∧ l[p.idx r c].col = c := by
  have h1 : p.idx r c < l.length := Fli.wf.idx_lt hwf hh
  have h2 := Fli.wf.idx_place hwf hh
  refine ⟨h1, ?_, h2⟩
  unfold seatAt
  rw [List.getD_eq_getElem?_getD, List.getElem?_eq_getElem h1]
  rfl

theorem buyer_ok {c : Cmd} (h : buyer c = 0) : 0 ≤ c.cls ∧ c.cls < 4 ∧ 1 ≤ c.party ∧ c.party ≤ 1000 := by
  unfold buyer at h
  split at h
  · omega
  · split at h
    · omega
    · omega

theorem flook_any {w : World} {b : Nat} {p : Pla} {l : List Sea} {m : Nat} {es : List MEnt} {clock : Nat} (h : FlX w b p l m es clock) (hwf : Wf p l) (c : Cmd) (now : Int) (hn : 0 ≤ now ∧ now ≤ 4611686018427387000) (hk : 2 ≤ c.kind ∧ c.kind ≤ 9 ∧ c.kind ≠ 8) :
    Calls Try.prog 60 #[.pointer (some ⟨b, 0, none⟩), .agg (cmdCells c), .int .i64 now] w fun e w' => e = .returned (lookV p l c now) ∧ Mod No w w' := by
  have hhas : ∀ r cc W, Mod No w W → Calls Try.prog 77 #[.pointer (some ⟨b, 0, none⟩), .agg #[.int .i64 r, .int .i64 cc]] W fun e w' => e = .returned (.bool (p.has r cc)) ∧ Mod No W w' := fun r cc W hW =>
    has_walk b r cc p.rows p.cols _ W (hW.has h.has (fun x => x)) rfl rfl
  by_cases h9 : c.kind = 9
  · have hval : ∃ x y, swapV c.pla (nFull l) = .tuple #[x, y] := by
      unfold swapV; split <;> exact ⟨_, _, rfl⟩
    obtain ⟨x, y, hxy⟩ := hval
    refine (look_swap b c now x y h9 w (fun W hW => ?_)).mono ?_
    · have := lookSwap_walk b m _ c.pla (nFull l) W (hW.has h.has (fun x => x)) rfl (fun W' hW' ty => by
        have hm' := (hW.trans hW').map h.map (fun x => x)
        have := run_len W' m clock es hm' ty
        rw [h.rel.size] at this
        exact this) (fun hs => by
          simp only [Pla.sized, decide_eq_true_eq] at hs
          have f1 : 0 ≤ c.pla.rows * c.pla.cols := Int.mul_nonneg (by omega) (by omega)
          have f2 : c.pla.rows * c.pla.cols ≤ 20 * 6 := Int.mul_le_mul (by omega) (by omega) (by omega) (by omega)
          exact wrap_id _ (by omega) (by omega))
      rw [hxy] at this
      exact this
    · rintro e w' ⟨rfl, hm⟩
      refine ⟨?_, hm⟩
      rw [← hxy]
      congr 1
      unfold lookV swapV
      have hse : seatErr p l c now = (if c.pla.sized = true ∧ ¬ (c.pla.rows * c.pla.cols < (nFull l : Int)) then 0 else 4) := by unfold seatErr; rw [if_pos h9]
      have hch : changeV c = refitV c.pla := by unfold changeV; rw [if_pos h9]
      rw [hse, hch]
      by_cases hq : c.pla.sized = true ∧ ¬ (c.pla.rows * c.pla.cols < (nFull l : Int))
      · rw [if_pos hq, if_pos hq, if_pos rfl]
      · rw [if_neg hq, if_neg hq, if_neg (by omega)]
  by_cases hat : p.has c.ar c.ac = true
  case neg =>
    have hat' : p.has c.ar c.ac = false := by simpa using hat
    refine (look_noAt b c now w (fun W hW => by have := hhas c.ar c.ac W hW; rw [hat'] at this; exact this) h9).mono ?_
    rintro e w' ⟨rfl, hm⟩
    refine ⟨?_, hm⟩
    simp [lookV, seatErr, h9, hat']
  have hA := fun W hW => by have := hhas c.ar c.ac W hW; rw [hat] at this; exact this
  obtain ⟨hi, he, her, hec⟩ := seatAt_eq hwf hat
  have hs := h.sees hwf _ hi
  rw [her, hec, ← he] at hs
  have hswf : (seatAt p l c.ar c.ac).wf := by rw [he]; exact hwf.seat _ (List.getElem_mem hi)
  obtain ⟨n, hn'⟩ : ∃ n : Nat, (seatAt p l c.ar c.ac).st = n := ⟨(seatAt p l c.ar c.ac).st.toNat, by have := hswf.s0; omega⟩
  have hB : ∀ W, Mod No w W → Calls Try.prog 93 #[.agg (cmdCells c)] W fun e w' => e = .returned (.int .i64 (buyer c)) ∧ Mod No W w' := fun W hW => buyer_any c W
  have hS : buyer c = 0 → ∀ W, Mod No w W → Calls Try.prog 94 #[.pointer (some ⟨b, 0, none⟩), .agg (cmdCells c)] W fun e w' => e = .returned (.int .i64 (saleN (seatAt p l c.ar c.ac).st (M.leftOf p l c.cls.toNat))) ∧ Mod No W w' := fun hb W hW => by
    have hbk := buyer_ok hb
    refine sale_walk b m c.cls.toNat (by omega) _ c (by omega) _ _ _ _ _ W (hW.has h.has (fun x => x)) rfl ?_ (hs.on hW)
    have : c.cls.toNat = 0 ∨ c.cls.toNat = 1 ∨ c.cls.toNat = 2 ∨ c.cls.toNat = 3 := by omega
    rcases this with e | e | e | e <;> (rw [e]; rfl)
  have hO : ∀ W, Mod No w W → Calls Try.prog 95 #[.pointer (some ⟨b, 0, none⟩), .agg (cmdCells c)] W fun e w' => e = .returned (.int .i64 (ownerN (seatAt p l c.ar c.ac).st (seatAt p l c.ar c.ac).pa c.party)) ∧ Mod No W w' := fun W hW => by
    have hs' := hs.on hW
    rw [hn'] at hs' ⊢
    exact owner_walk b m n _ c _ _ _ W (hW.has h.has (fun x => x)) rfl hs'
  have hor : ¬ (p.has c.ar c.ac = false ∨ (c.kind = 5 ∧ p.has c.tr c.tc = false)) ∨ (c.kind = 5 ∧ p.has c.tr c.tc = false) := by
    by_cases hx : c.kind = 5 ∧ p.has c.tr c.tc = false
    · exact .inr hx
    · left; rintro (h | h); rw [hat] at h; exact absurd h (by simp); exact hx h
  rcases hor with hor | ⟨h5, hno⟩
  case inr =>
    refine (look_noTo b c now h5 w hA (fun W hW => by have := hhas c.tr c.tc W hW; rw [hno] at this; exact this)).mono ?_
    rintro e w' ⟨rfl, hm⟩
    refine ⟨?_, hm⟩
    simp [lookV, seatErr, h5, hno]
  by_cases k2 : c.kind = 2
  · have hval : ∃ x y, holdV c now (buyer c) (saleN (seatAt p l c.ar c.ac).st (M.leftOf p l c.cls.toNat)) = .tuple #[x, y] := by
      unfold holdV; (repeat' split) <;> exact ⟨_, _, rfl⟩
    obtain ⟨x, y, hxy⟩ := hval
    refine (look_hold b c now x y k2 w hA (fun W hW => ?_)).mono ?_
    · have := hold_walk b c now _ _ hn W (fun W' hW' => hB W' (hW.trans hW')) (fun hb W' hW' => hS hb W' (hW.trans hW'))
      rw [hxy] at this
      exact this
    · rintro e w' ⟨rfl, hm⟩
      refine ⟨?_, hm⟩
      rw [← hxy]
      congr 1
      have hse : seatErr p l c now = (if buyer c ≠ 0 then buyer c else if c.time ≤ now ∨ c.time > now + 100 then 8 else saleN (seatAt p l c.ar c.ac).st (M.leftOf p l c.cls.toNat)) := by
        unfold seatErr; rw [if_neg h9, if_neg hor, if_pos k2]
      have hch : changeV c = fillV c.ar c.ac 1 c.party c.cls c.time := by unfold changeV; rw [if_neg h9, if_pos k2]
      unfold lookV holdV
      rw [hse, hch]
      by_cases hb : buyer c = 0
      · by_cases ht : c.time ≤ now ∨ c.time > now + 100
        · simp only [hb, ne_eq, not_true_eq_false, if_false, if_pos ht]; simp
        · simp only [hb, ne_eq, not_true_eq_false, if_false, if_neg ht]
          by_cases hsl : saleN (seatAt p l c.ar c.ac).st (M.leftOf p l c.cls.toNat) = 0 <;> simp [hsl]
      · simp [hb]
  by_cases k3 : c.kind = 3
  · have hval : ∃ x y, bookV c (buyer c) (seatAt p l c.ar c.ac).st (seatAt p l c.ar c.ac).pa (seatAt p l c.ar c.ac).cl (saleN (seatAt p l c.ar c.ac).st (M.leftOf p l c.cls.toNat)) = .tuple #[x, y] := by
      unfold bookV; (repeat' split) <;> exact ⟨_, _, rfl⟩
    obtain ⟨x, y, hxy⟩ := hval
    refine (look_book b c now x y k3 w hA (fun W hW => ?_)).mono ?_
    · have := book_walk b m _ c _ _ _ _ _ _ W (hW.has h.has (fun x => x)) rfl (hs.on hW) (fun W' hW' => hB W' (hW.trans hW')) (fun hb W' hW' => hS hb W' (hW.trans hW'))
      rw [hxy] at this
      exact this
    · rintro e w' ⟨rfl, hm⟩
      refine ⟨?_, hm⟩
      rw [← hxy]
      congr 1
      have hse : seatErr p l c now = (if buyer c ≠ 0 then buyer c else if (seatAt p l c.ar c.ac).st = 1 ∧ (seatAt p l c.ar c.ac).pa = c.party ∧ (seatAt p l c.ar c.ac).cl = c.cls then 0 else saleN (seatAt p l c.ar c.ac).st (M.leftOf p l c.cls.toNat)) := by
        unfold seatErr; rw [if_neg h9, if_neg hor, if_neg k2, if_pos k3]
      have hch : changeV c = fillV c.ar c.ac 2 c.party c.cls 0 := by unfold changeV; rw [if_neg h9, if_neg k2, if_pos k3]
      unfold lookV bookV
      rw [hse, hch]
      by_cases hb : buyer c = 0
      · by_cases ht : (seatAt p l c.ar c.ac).st = 1 ∧ (seatAt p l c.ar c.ac).pa = c.party ∧ (seatAt p l c.ar c.ac).cl = c.cls
        · simp only [hb, ne_eq, not_true_eq_false, if_false, if_pos ht]; simp
        · simp only [hb, ne_eq, not_true_eq_false, if_false, if_neg ht]
          by_cases hsl : saleN (seatAt p l c.ar c.ac).st (M.leftOf p l c.cls.toNat) = 0 <;> simp [hsl]
      · simp [hb]
  by_cases k4 : c.kind = 4
  · have hval : ∃ x y, cancelV c (ownerN (seatAt p l c.ar c.ac).st (seatAt p l c.ar c.ac).pa c.party) = .tuple #[x, y] := by
      unfold cancelV; (repeat' split) <;> exact ⟨_, _, rfl⟩
    obtain ⟨x, y, hxy⟩ := hval
    refine (look_cancel b c now x y k4 w hA (fun W hW => ?_)).mono ?_
    · have := cancel_walk b c _ W (fun W' hW' => hO W' (hW.trans hW'))
      rw [hxy] at this
      exact this
    · rintro e w' ⟨rfl, hm⟩
      refine ⟨?_, hm⟩
      rw [← hxy]
      congr 1
      have hse : seatErr p l c now = ownerN (seatAt p l c.ar c.ac).st (seatAt p l c.ar c.ac).pa c.party := by
        unfold seatErr; rw [if_neg h9, if_neg hor, if_neg k2, if_neg k3, if_pos k4]
      have hch : changeV c = emptyV c.ar c.ac := by unfold changeV; rw [if_neg h9, if_neg k2, if_neg k3, if_neg (by omega), if_neg (by omega)]
      unfold lookV cancelV
      rw [hse, hch]
      by_cases hsl : ownerN (seatAt p l c.ar c.ac).st (seatAt p l c.ar c.ac).pa c.party = 0 <;> simp [hsl]
  by_cases k5 : c.kind = 5
  · have hto : p.has c.tr c.tc = true := by
      by_cases ht : p.has c.tr c.tc = true
      · exact ht
      · exact absurd (.inr ⟨k5, by simpa using ht⟩) hor
    obtain ⟨hj, hje, hjr, hjc⟩ := seatAt_eq hwf hto
    have hs2 := h.sees hwf _ hj
    rw [hjr, hjc, ← hje] at hs2
    have hval : ∃ x y, moveV c (ownerN (seatAt p l c.ar c.ac).st (seatAt p l c.ar c.ac).pa c.party) (seatAt p l c.tr c.tc).st = .tuple #[x, y] := by
      unfold moveV; (repeat' split) <;> exact ⟨_, _, rfl⟩
    obtain ⟨x, y, hxy⟩ := hval
    refine (look_move b c now x y k5 w hA (fun W hW => by have := hhas c.tr c.tc W hW; rw [hto] at this; exact this) (fun W hW => ?_)).mono ?_
    · have := move_walk b m _ c _ _ _ _ _ W (hW.has h.has (fun x => x)) rfl (fun _ => hs2.on hW) (fun W' hW' => hO W' (hW.trans hW'))
      rw [hxy] at this
      exact this
    · rintro e w' ⟨rfl, hm⟩
      refine ⟨?_, hm⟩
      rw [← hxy]
      congr 1
      have hse : seatErr p l c now = (if ownerN (seatAt p l c.ar c.ac).st (seatAt p l c.ar c.ac).pa c.party ≠ 0 then ownerN (seatAt p l c.ar c.ac).st (seatAt p l c.ar c.ac).pa c.party else if (seatAt p l c.tr c.tc).st ≠ 0 then 9 else 0) := by
        unfold seatErr; rw [if_neg h9, if_neg hor, if_neg k2, if_neg k3, if_neg k4, if_pos k5]
      have hch : changeV c = shiftV c.ar c.ac c.tr c.tc := by unfold changeV; rw [if_neg h9, if_neg k2, if_neg k3, if_pos k5]
      unfold lookV moveV
      rw [hse, hch]
      by_cases hsl : ownerN (seatAt p l c.ar c.ac).st (seatAt p l c.ar c.ac).pa c.party = 0
      · by_cases hst : (seatAt p l c.tr c.tc).st = 0 <;> simp [hsl, hst]
      · simp [hsl]
  by_cases k6 : c.kind = 6
  · have hval : ∃ x y, blockV c (seatAt p l c.ar c.ac).st = .tuple #[x, y] := by
      unfold blockV; (repeat' split) <;> exact ⟨_, _, rfl⟩
    obtain ⟨x, y, hxy⟩ := hval
    refine (look_block b c now x y k6 w hA (fun W hW => ?_)).mono ?_
    · have := block_walk b m _ c _ _ _ _ W (hW.has h.has (fun x => x)) rfl (hs.on hW)
      rw [hxy] at this
      exact this
    · rintro e w' ⟨rfl, hm⟩
      refine ⟨?_, hm⟩
      rw [← hxy]
      congr 1
      have hse : seatErr p l c now = if (seatAt p l c.ar c.ac).st ≠ 0 then 9 else 0 := by
        unfold seatErr; rw [if_neg h9, if_neg hor, if_neg k2, if_neg k3, if_neg k4, if_neg k5, if_pos k6]
      have hch : changeV c = fillV c.ar c.ac 3 0 0 0 := by unfold changeV; rw [if_neg h9, if_neg k2, if_neg k3, if_neg k5, if_pos k6]
      unfold lookV blockV
      rw [hse, hch]
      by_cases hst : (seatAt p l c.ar c.ac).st = 0 <;> simp [hst]
  have k7 : c.kind = 7 := by omega
  · have hval : ∃ x y, unblockV c (seatAt p l c.ar c.ac).st = .tuple #[x, y] := by
      unfold unblockV; (repeat' split) <;> exact ⟨_, _, rfl⟩
    obtain ⟨x, y, hxy⟩ := hval
    refine (look_unblock b c now x y k7 w hA (fun W hW => ?_)).mono ?_
    · have := unblock_walk b m _ c _ _ _ _ W (hW.has h.has (fun x => x)) rfl (hs.on hW)
      rw [hxy] at this
      exact this
    · rintro e w' ⟨rfl, hm⟩
      refine ⟨?_, hm⟩
      rw [← hxy]
      congr 1
      have hse : seatErr p l c now = if (seatAt p l c.ar c.ac).st ≠ 3 then 10 else 0 := by
        unfold seatErr; rw [if_neg h9, if_neg hor, if_neg k2, if_neg k3, if_neg k4, if_neg k5, if_neg k6]
      have hch : changeV c = emptyV c.ar c.ac := by unfold changeV; rw [if_neg h9, if_neg k2, if_neg k3, if_neg k5, if_neg k6]
      unfold lookV unblockV
      rw [hse, hch]
      by_cases hst : (seatAt p l c.ar c.ac).st = 3 <;> simp [hst]
end Go.Proofs.Ythhibagcpjeihaa
/- A keeper in memory; its time; its flights by their numbers. -/
namespace Go.Proofs.Ythhibagcpjeihaa
open Go.RowKit
open Go.ChangeMaps (setBlock)
open M
set_option linter.unusedVariables false
set_option linter.unusedSimpArgs false
set_option maxRecDepth 100000

/-- A pointer that may be nil. -/
def pv (x : Option Nat) : Value := .pointer (x.map fun b => ⟨b, 0, none⟩)
/-- Which of the files; whether there is a piece of a record at its end. -/
def fileN (pt : Nat → Option Nat) : Nat := if (pt 30).isSome then 1 else 0
def tornB (pt : Nat → Option Nat) : Bool := (pt 31).isSome
def keepCells (now : Int) (pt : Nat → Option Nat) : Array Value :=
  #[.int .i64 now, pv (pt 0), pv (pt 1), pv (pt 2), pv (pt 3), pv (pt 4), pv (pt 5), pv (pt 6), pv (pt 7), pv (pt 8), pv (pt 9), pv (pt 10), pv (pt 11), pv (pt 12), pv (pt 13), pv (pt 14), pv (pt 15), pv (pt 16), pv (pt 17), pv (pt 18), pv (pt 19), pv (pt 20), .map (pt 21), .map (pt 22), .map (pt 23), .map (pt 24), .map (pt 25), .map (pt 26), .map (pt 27), .map (pt 28), pv (pt 29), .int .i64 (fileN pt), .bool (tornB pt)]

theorem keep_at (now : Int) (pt : Nat → Option Nat) (n : Nat) (hn : n < 21) : (keepCells now pt)[1 + n]? = some (pv (pt n)) := by
  have : n = 0 ∨ n = 1 ∨ n = 2 ∨ n = 3 ∨ n = 4 ∨ n = 5 ∨ n = 6 ∨ n = 7 ∨ n = 8 ∨ n = 9 ∨ n = 10 ∨ n = 11 ∨ n = 12 ∨ n = 13 ∨ n = 14 ∨ n = 15 ∨ n = 16 ∨ n = 17 ∨ n = 18 ∨ n = 19 ∨ n = 20 := by omega
  rcases this with h | h | h | h | h | h | h | h | h | h | h | h | h | h | h | h | h | h | h | h | h <;> (subst h; rfl)

/-- Behind the flights stand the followers. -/
theorem keep_far (now : Int) (pt : Nat → Option Nat) (i : Nat) (hi : i < 8) : (keepCells now pt)[22 + i]? = some (.map (pt (21 + i))) := by
  have : i = 0 ∨ i = 1 ∨ i = 2 ∨ i = 3 ∨ i = 4 ∨ i = 5 ∨ i = 6 ∨ i = 7 := by omega
  rcases this with h | h | h | h | h | h | h | h <;> (subst h; rfl)

def updP (pt : Nat → Option Nat) (n b : Nat) : Nat → Option Nat := fun j => if j = n then some b else pt j

theorem keep_set (now : Int) (pt : Nat → Option Nat) (n b : Nat) (hn : n < 21) : (keepCells now pt).setIfInBounds (1 + n) (pv (some b)) = keepCells now (updP pt n b) := by
  have : n = 0 ∨ n = 1 ∨ n = 2 ∨ n = 3 ∨ n = 4 ∨ n = 5 ∨ n = 6 ∨ n = 7 ∨ n = 8 ∨ n = 9 ∨ n = 10 ∨ n = 11 ∨ n = 12 ∨ n = 13 ∨ n = 14 ∨ n = 15 ∨ n = 16 ∨ n = 17 ∨ n = 18 ∨ n = 19 ∨ n = 20 := by omega
  rcases this with h | h | h | h | h | h | h | h | h | h | h | h | h | h | h | h | h | h | h | h | h <;> (subst h; rfl)

/-- The flights of a keeper: what the owners' marks say is whose. -/
structure KeepX (w : World) (ow : Nat → Nat) (kb : Nat) (now : Int) (pt : Nat → Option Nat) (fl : Nat → Option (Pla × List Sea)) : Prop where
  has : Has w kb (keepCells now pt) 117
  mine : ow kb = 1
  old : ∀ k, ow k ≠ 0 → k < w.heap.size
  gone : ∀ n, n < 21 → fl n = none → pt n = none
  here : ∀ n p l, n < 21 → fl n = some (p, l) → ∃ b, pt n = some b ∧ Wf p l ∧ FlH w (fun k => ow k = n + 2) b p l

theorem now_any {w : World} {ow : Nat → Nat} {kb : Nat} {now : Int} {pt : Nat → Option Nat} {fl : Nat → Option (Pla × List Sea)} (h : KeepX w ow kb now pt fl) :
    Calls Try.prog 24 #[.pointer (some ⟨kb, 0, none⟩)] w fun e w' => e = .returned (.int .i64 now) ∧ w' = w := by
  have c0 := h.has.cell 0
  rw [show (keepCells now pt)[0]? = some (.int .i64 now) from rfl] at c0
  have hlt := h.has.lt
  clear h
  go_enter Try.func24, Try.ntmps24
  go_wp2
  go_ret
  exact ⟨rfl, rfl⟩

theorem find_no (kb : Nat) (n : Int) (hn : ¬ (1 ≤ n ∧ n ≤ 20)) (w : World) :
    Calls Try.prog 44 #[.pointer (some ⟨kb, 0, none⟩), .int .i64 n] w fun e w' => e = .returned (.pointer none) ∧ w' = w := by
  by_cases h1 : n < 1
  · go_enter Try.func44, Try.ntmps44
    go_wp2
    go_ret
    exact ⟨rfl, rfl⟩
  · have h2 : n > 20 := by omega
    go_enter Try.func44, Try.ntmps44
    go_wp2
    go_ret
    exact ⟨rfl, rfl⟩

theorem find_cell (kb : Nat) (n : Nat) (hn : 1 ≤ n ∧ n ≤ 20) (x : Value) (cs : Array Value) (w : World) (h : Has w kb cs 117) (hc : cs[1 + n]? = some x) :
    Calls Try.prog 44 #[.pointer (some ⟨kb, 0, none⟩), .int .i64 n] w fun e w' => e = .returned x ∧ w' = w := by
  have c := h.cell (1 + n)
  rw [hc] at c
  have hlt := h.lt
  clear h hc
  have h1 : ¬ (n : Int) < 1 := by omega
  have h2 : ¬ (n : Int) > 20 := by omega
  have h3 : (n : Int) < 21 := by omega
  have h4 : (0 : Int) ≤ n := by omega
  go_enter Try.func44, Try.ntmps44
  go_wp2
  go_ret
  exact ⟨rfl, rfl⟩

theorem find_any {w : World} {ow : Nat → Nat} {kb : Nat} {now : Int} {pt : Nat → Option Nat} {fl : Nat → Option (Pla × List Sea)} (h : KeepX w ow kb now pt fl) (n : Nat) (hn : 1 ≤ n ∧ n ≤ 20) :
    Calls Try.prog 44 #[.pointer (some ⟨kb, 0, none⟩), .int .i64 n] w fun e w' => e = .returned (pv (pt n)) ∧ w' = w :=
  find_cell kb n hn _ _ w h.has (keep_at now pt n (by omega))
end Go.Proofs.Ythhibagcpjeihaa
/- Time passes for a keeper. -/
namespace Go.Proofs.Ythhibagcpjeihaa
open Go.RowKit
open Go.ChangeMaps (setBlock)
open M
set_option linter.unusedVariables false
set_option linter.unusedSimpArgs false
set_option maxRecDepth 100000
set_option maxHeartbeats 2000000

theorem KeepX.mod {w w' : World} {ow : Nat → Nat} {kb : Nat} {now : Int} {pt : Nat → Option Nat} {fl : Nat → Option (Pla × List Sea)} (h : KeepX w ow kb now pt fl) {S : Nat → Prop} (hm : Mod S w w') (hs : ∀ k, ow k ≠ 0 → ¬ S k) : KeepX w' ow kb now pt fl := by
  refine ⟨hm.has h.has (hs _ (by rw [h.mine]; omega)), h.mine, fun k hk => Nat.lt_of_lt_of_le (h.old k hk) hm.size, h.gone, fun n p l hn hf => ?_⟩
  obtain ⟨b, h1, h2, h3⟩ := h.here n p l hn hf
  exact ⟨b, h1, h2, h3.mod hm (fun k hk => hs k (by omega))⟩

/-- One flight has turned. -/
theorem KeepX.flight {w w' : World} {ow : Nat → Nat} {kb : Nat} {now : Int} {pt : Nat → Option Nat} {fl : Nat → Option (Pla × List Sea)} (h : KeepX w ow kb now pt fl) {n : Nat} {b : Nat} {p : Pla} {l : List Sea}
    (hm : Mod (fun k => ow k = n + 2) w w') (hp : pt n = some b) (hw : Wf p l) (hf : FlH w' (fun k => ow k = n + 2) b p l) : KeepX w' ow kb now pt (fun j => if j = n then some (p, l) else fl j) := by
  refine ⟨hm.has h.has (by rw [h.mine]; omega), h.mine, fun k hk => Nat.lt_of_lt_of_le (h.old k hk) hm.size, fun j hj hn => ?_, fun j p' l' hj hn => ?_⟩
  · by_cases e : j = n
    · rw [if_pos e] at hn; exact absurd hn (by simp)
    · rw [if_neg e] at hn; exact h.gone j hj hn
  · by_cases e : j = n
    · rw [if_pos e] at hn
      simp only [Option.some.injEq, Prod.mk.injEq] at hn
      obtain ⟨rfl, rfl⟩ := hn
      subst e
      exact ⟨b, hp, hw, hf⟩
    · rw [if_neg e] at hn
      obtain ⟨b', h1, h2, h3⟩ := h.here j p' l' hj hn
      exact ⟨b', h1, h2, h3.mod hm (fun k hk hk' => by omega)⟩

theorem KeepX.congr {w : World} {ow : Nat → Nat} {kb : Nat} {now : Int} {pt : Nat → Option Nat} {fl fl' : Nat → Option (Pla × List Sea)} (h : KeepX w ow kb now pt fl) (hf : ∀ n, n < 21 → fl n = fl' n) : KeepX w ow kb now pt fl' :=
  ⟨h.has, h.mine, h.old, fun n hn hf' => h.gone n hn (by rw [hf n hn]; exact hf'), fun n p l hn hf' => h.here n p l hn (by rw [hf n hn]; exact hf')⟩

/-- The time is another. -/
theorem KeepX.later {w : World} {ow : Nat → Nat} {kb : Nat} {now : Int} {pt : Nat → Option Nat} {fl : Nat → Option (Pla × List Sea)} (h : KeepX w ow kb now pt fl) (nw : Int) : KeepX (w.setCell ⟨kb, 0, none⟩ (.int .i64 nw)) ow kb nw pt fl := by
  have hm : Mod (fun k => k = kb) w (w.setCell ⟨kb, 0, none⟩ (.int .i64 nw)) := (Mod.refl _ w).at 0 _
  refine ⟨?_, h.mine, fun k hk => Nat.lt_of_lt_of_le (h.old k hk) hm.size, h.gone, fun n p l hn hf => ?_⟩
  · have := h.has.set 0 (.int .i64 nw)
    rw [show (keepCells now pt).setIfInBounds 0 (.int .i64 nw) = keepCells nw pt from rfl] at this
    exact this
  · obtain ⟨b, h1, h2, h3⟩ := h.here n p l hn hf
    exact ⟨b, h1, h2, h3.mod hm (fun k hk e => by subst e; rw [h.mine] at hk; omega)⟩

def tickF (nw : Int) (x : Pla × List Sea) : Pla × List Sea := (tickP nw x.1 x.2, tickSeats nw x.2)

theorem due_twice (nw : Int) (s : Sea) (h : due nw s = true) : s.freed.wf := freed_wf s

theorem tick_wf {p : Pla} {l : List Sea} (h : Wf p l) (nw : Int) : Wf p (tickSeats nw l) := by
  refine ⟨h.sized, h.limited, by simpa [tickSeats] using h.len, fun i hi => ?_, fun s hs => ?_⟩
  · have hi' : i < l.length := by simpa [tickSeats] using hi
    have := h.place i hi'
    simp only [tickSeats, List.getElem_map] at this ⊢
    split
    · exact this
    · exact this
  · simp only [tickSeats, List.mem_map] at hs
    obtain ⟨x, hx, rfl⟩ := hs
    split
    · exact freed_wf x
    · exact h.seat x hx

theorem tickP_wf {p : Pla} {l : List Sea} (h : Wf p l) (nw : Int) : Wf (tickP nw p l) (tickSeats nw l) := by
  unfold tickP
  split
  · exact (tick_wf h nw).next
  · exact tick_wf h nw

/-- A flight, its map somewhere: time passes. -/
theorem passH_any {S : Nat → Prop} {b : Nat} {p : Pla} {l : List Sea} {w : World} (h : FlH w S b p l) (hwf : Wf p l) (now : Int) :
    Calls Try.prog 89 #[.agg #[.int .i64 now], .pointer (some ⟨b, 0, none⟩)] w fun e w' => e = .returned (.tuple #[]) ∧ FlH w' S b (tickP now p l) (tickSeats now l) ∧ Mod S w w' := by
  obtain ⟨m, es, clock, h1, h2, h3, h4, h5, h6⟩ := h
  refine (pass_any ⟨h1, h2, h3, h4⟩ hwf now).mono ?_
  rintro e w' ⟨rfl, ⟨es', hx⟩, hm⟩
  exact ⟨rfl, ⟨m, es', clock, hx.has, hx.map, hx.ok, hx.rel, h5, h6⟩, hm.mono (by rintro k _ (rfl | rfl); exact h5; exact h6)⟩

theorem under90 : Try.prog.underlying 109 = some (.array 21 105) := by kernel_rfl
theorem size90 : (Try.prog.info? 109).map (·.size) = some 21 := by kernel_rfl
def ptrs (pt : Nat → Option Nat) : List Value := [pv (pt 0), pv (pt 1), pv (pt 2), pv (pt 3), pv (pt 4), pv (pt 5), pv (pt 6), pv (pt 7), pv (pt 8), pv (pt 9), pv (pt 10), pv (pt 11), pv (pt 12), pv (pt 13), pv (pt 14), pv (pt 15), pv (pt 16), pv (pt 17), pv (pt 18), pv (pt 19), pv (pt 20)]
theorem idx90 (pt : Nat → Option Nat) (n : Nat) (hn : n < 21) (w : World) : (Instr.index 109 (.agg (ptrs pt).toArray) (.int .i64 (n : Int))).run Try.prog w = .ok (pv (pt n)) w := by
  have : n = 0 ∨ n = 1 ∨ n = 2 ∨ n = 3 ∨ n = 4 ∨ n = 5 ∨ n = 6 ∨ n = 7 ∨ n = 8 ∨ n = 9 ∨ n = 10 ∨ n = 11 ∨ n = 12 ∨ n = 13 ∨ n = 14 ∨ n = 15 ∨ n = 16 ∨ n = 17 ∨ n = 18 ∨ n = 19 ∨ n = 20 := by omega
  rcases this with h | h | h | h | h | h | h | h | h | h | h | h | h | h | h | h | h | h | h | h | h <;> (subst h; rfl)
theorem keep_range {w : World} {kb : Nat} {now : Int} {pt : Nat → Option Nat} (h : Has w kb (keepCells now pt) 117) : w.rangeAt kb 1 (ptrs pt) := by
  intro j v hj
  rw [h.cell]
  by_cases hl : j < 21
  · rw [keep_at now pt j hl]
    have : j = 0 ∨ j = 1 ∨ j = 2 ∨ j = 3 ∨ j = 4 ∨ j = 5 ∨ j = 6 ∨ j = 7 ∨ j = 8 ∨ j = 9 ∨ j = 10 ∨ j = 11 ∨ j = 12 ∨ j = 13 ∨ j = 14 ∨ j = 15 ∨ j = 16 ∨ j = 17 ∨ j = 18 ∨ j = 19 ∨ j = 20 := by omega
    rcases this with h | h | h | h | h | h | h | h | h | h | h | h | h | h | h | h | h | h | h | h | h <;> (subst h; exact hj)
  · rw [List.getElem?_eq_none (by simp [ptrs]; omega)] at hj
    exact absurd hj (by simp)

theorem kpass_any {w : World} {ow : Nat → Nat} {kb : Nat} {now : Int} {pt : Nat → Option Nat} {fl : Nat → Option (Pla × List Sea)} (h : KeepX w ow kb now pt fl) (nw : Int) :
    Calls Try.prog 65 #[.pointer (some ⟨kb, 0, none⟩), .agg #[.int .i64 nw]] w fun e w' =>
      e = .returned (.tuple #[]) ∧ KeepX w' ow kb nw pt (fun n => (fl n).map (tickF nw)) ∧ Mod (fun k => ow k ≠ 0 ∧ ow k < 30) w w' := by
  have hlt := h.has.lt
  have c0 := h.has.cell 0
  rw [show (keepCells now pt)[0]? = some (.int .i64 now) from rfl] at c0
  have fz := h.has.frozen
  have H := hide h
  clear h
  go_enter Try.func65, Try.ntmps65
  go_upto_region 2 with fail
  have k2 : KeepX ((w.setCell ⟨kb, 0, none⟩ (.int .i64 nw)).alloc (.cells #[.int .i64 nw] 144)) ow kb nw pt fl := ((unhide H).later nw).mod ((Mod.refl No _).alloc _) (fun _ _ x => x)
  have m2 : Mod (fun k => ow k ≠ 0 ∧ ow k < 30) w ((w.setCell ⟨kb, 0, none⟩ (.int .i64 nw)).alloc (.cells #[.int .i64 nw] 144)) := ((Mod.refl _ w).setCell (p := ⟨kb, 0, none⟩) (.inl (by show ow kb ≠ 0 ∧ ow kb < 30; rw [(unhide H).mine]; omega)) _).alloc _
  have b2 : Has ((w.setCell ⟨kb, 0, none⟩ (.int .i64 nw)).alloc (.cells #[.int .i64 nw] 144)) w.heap.size #[.int .i64 nw] 144 := by
    have := Has.new (w.setCell ⟨kb, 0, none⟩ (.int .i64 nw)) #[.int .i64 nw] 144
    rw [World.size_setCell] at this
    exact this
  have n0 := hide (show ow w.heap.size = 0 from by
    by_cases hz : ow w.heap.size = 0
    · exact hz
    · exact absurd ((unhide H).old _ hz) (by omega))
  have hr := keep_range k2.has
  have hlt2 := k2.has.lt
  have K2 := hide k2
  have M2 := hide m2
  have B2 := hide b2
  clear k2 m2 b2 H c0 fz
  generalize (w.setCell ⟨kb, 0, none⟩ (.int .i64 nw)).alloc (.cells #[.int .i64 nw] 144) = w2 at *
  go_wp2_with (refine wpList_load_mid rfl 109 _ rfl kb 1 rfl (ptrs pt) (.array 21 105) hr under90 rfl size90 ?_)
  go_loopw [15] (fun i wr => ∃ k : Nat, i = .int .i64 k ∧ k ≤ 21 ∧ Hid (KeepX wr ow kb nw pt (fun n => if n < k then (fl n).map (tickF nw) else fl n)) ∧ Hid (Mod (fun k => ow k ≠ 0 ∧ ow k < 30) w wr) ∧ Hid (Has wr w.heap.size #[.int .i64 nw] 144)) (fun i _ => 21 - (intOf i).toNat)
  case atStart => exact ⟨0, rfl, by omega, (unhide K2).congr (fun n _ => by rw [if_neg (by omega)]), M2, B2⟩
  case round =>
    obtain ⟨k, rfl, hk, K3, M3, B3⟩ := hrel
    clear hr K2 M2 B2 hlt2
    by_cases h21 : k < 21
    · have hki : (k : Int) < 21 := by omega
      have hk0 : IntKind.i64.wrap ((k : Int) + 1) = ((k + 1 : Nat) : Int) := by rw [wrap_id _ (by omega) (by omega)]; rfl
      have hix := idx90 pt k h21 wr
      cases hfl : fl k with
      | none =>
        have hp := (unhide K3).gone k h21 (by simp [hfl])
        rw [hp] at hix
        rw [show pv none = .pointer none from rfl] at hix
        have K4 := hide ((unhide K3).congr (fl' := fun n => if n < k + 1 then (fl n).map (tickF nw) else fl n) (fun n hn => by
          by_cases e : n = k
          · subst e; simp [hfl]
          · by_cases e2 : n < k
            · simp only [if_pos e2, if_pos (show n < k + 1 by omega)]
            · simp only [if_neg e2, if_neg (show ¬ n < k + 1 by omega)]))
        clear hfl hp K3
        go_wp2
        exact ⟨⟨k + 1, rfl, by omega, K4, M3, B3⟩, by simp [intOf]; omega⟩
      | some x =>
        obtain ⟨p, l⟩ := x
        obtain ⟨b, hp, hw, hf⟩ := (unhide K3).here k p l h21 (by simp [hfl])
        rw [hp] at hix
        rw [show pv (some b) = .pointer (some ⟨b, 0, none⟩) from rfl] at hix
        have cb := (unhide B3).cell
        have lb := (unhide B3).lt
        have HF := hide (passH_any hf hw nw)
        have HW := hide hw
        have HP := hide hp
        have HFL := hide hfl
        clear hfl hp hw hf
        go_wp2_with fail
        refine (unhide HF).mono ?_
        rintro e w4 ⟨rfl, hf4, hm4⟩
        have K4 := hide (((unhide K3).flight hm4 (unhide HP) (tickP_wf (unhide HW) nw) hf4).congr (fl' := fun n => if n < k + 1 then (fl n).map (tickF nw) else fl n) (fun n hn => by
          by_cases e : n = k
          · subst e; simp [unhide HFL, tickF]
          · by_cases e2 : n < k
            · simp only [if_neg e, if_pos e2, if_pos (show n < k + 1 by omega)]
            · simp only [if_neg e, if_neg e2, if_neg (show ¬ n < k + 1 by omega)]))
        have M4 := hide ((unhide M3).trans (hm4.mono (fun _ _ (h : ow _ = k + 2) => by show ow _ ≠ 0 ∧ ow _ < 30; omega)))
        have B4 := hide (hm4.has (unhide B3) (by rw [unhide n0]; omega))
        clear hf4 hm4 K3 M3 B3 HF cb
        go_wp2
        exact ⟨⟨k + 1, rfl, by omega, K4, M4, B4⟩, by simp [intOf]; omega⟩
    · have hki : ¬ (k : Int) < 21 := by omega
      go_wp2
      go_end0
      exact ⟨rfl, (unhide K3).congr (fun n hn => by rw [if_pos (by omega)]), unhide M3⟩
end Go.Proofs.Ythhibagcpjeihaa
/- A keeper looks a command over. -/
namespace Go.Proofs.Ythhibagcpjeihaa
open Go.RowKit
open Go.ChangeMaps (setBlock)
open M
set_option linter.unusedVariables false
set_option linter.unusedSimpArgs false
set_option maxRecDepth 100000
set_option maxHeartbeats 2000000

theorem tickLook_yes (t now : Int) (w : World) (h1 : 1 ≤ t) (h2 : t ≤ 100) (hn : 0 ≤ now ∧ now ≤ 4611686018427387000) :
    Calls Try.prog 58 #[.int .i64 t, .int .i64 now] w fun e w' => e = .returned (.tuple #[passV (now + t), .int .i64 0]) ∧ w' = w := by
  have h1' : ¬ t < 1 := by omega
  have h2' : ¬ t > 100 := by omega
  have hw : IntKind.i64.wrap (now + t) = now + t := wrap_id _ (by omega) (by omega)
  go_enter Try.func58, Try.ntmps58
  go_wp2
  go_ret2
  exact ⟨rfl, rfl⟩

theorem tickLook_out (t now : Int) (w : World) (h : ¬ (1 ≤ t ∧ t ≤ 100)) :
    Calls Try.prog 58 #[.int .i64 t, .int .i64 now] w fun e w' => e = .returned (.tuple #[.nilIface, .int .i64 8]) ∧ w' = w := by
  by_cases h1 : t < 1
  · go_enter Try.func58, Try.ntmps58
    go_wp2
    go_ret2
    exact ⟨rfl, rfl⟩
  · have h2 : t > 100 := by omega
    go_enter Try.func58, Try.ntmps58
    go_wp2
    go_ret2
    exact ⟨rfl, rfl⟩

theorem klook_bad (kb : Nat) (c : Cmd) (hk : c.kind < 1 ∨ c.kind > 9) (w : World) :
    Calls Try.prog 48 #[.pointer (some ⟨kb, 0, none⟩), .agg (cmdCells c)] w fun e w' => e = .returned (refuse 1) ∧ Mod No w w' := by
  have M0 := hide ((Mod.refl No w).alloc (.cells (cmdCells c) 37))
  unfold cmdCells at M0 ⊢
  rcases Int.lt_or_le c.kind 1 with h1 | h1
  · clear hk
    go_enter Try.func48, Try.ntmps48
    go_wp2
    go_ret2
    exact ⟨rfl, unhide M0⟩
  · have h2 : c.kind > 9 := by omega
    have h1' : ¬ c.kind < 1 := by omega
    clear hk
    go_enter Try.func48, Try.ntmps48
    go_wp2
    go_ret2
    exact ⟨rfl, unhide M0⟩

theorem klook_tick (kb : Nat) (c : Cmd) (now : Int) (x y : Value) (hk : c.kind = 8) (w : World)
    (hN : ∀ W, Mod No w W → Calls Try.prog 24 #[.pointer (some ⟨kb, 0, none⟩)] W fun e w' => e = .returned (.int .i64 now) ∧ w' = W)
    (hT : ∀ W, Calls Try.prog 58 #[.int .i64 c.time, .int .i64 now] W fun e w' => e = .returned (.tuple #[x, y]) ∧ w' = W) :
    Calls Try.prog 48 #[.pointer (some ⟨kb, 0, none⟩), .agg (cmdCells c)] w fun e w' => e = .returned (.tuple #[x, y]) ∧ Mod No w w' := by
  have HN := hide hN
  have HT := hide hT
  have M0 := hide ((Mod.refl No w).alloc (.cells (cmdCells c) 37))
  unfold cmdCells at M0 ⊢
  rw [hk] at M0 ⊢
  clear hN hT hk
  go_enter Try.func48, Try.ntmps48
  go_wp2_with fail
  go_quiet (first | (go_at_call 24; exact Calls.quiet_of_same ((unhide HN) _ ((unhide M0).drewN _))) | (go_at_call 58; exact Calls.quiet_of_same ((unhide HT) _)))
  go_wp2
  go_ret2
  exact ⟨rfl, (unhide M0).drewN _⟩

theorem klook_num (kb : Nat) (c : Cmd) (hk : 1 ≤ c.kind ∧ c.kind ≤ 9 ∧ c.kind ≠ 8) (hf : ¬ (1 ≤ c.flight ∧ c.flight ≤ 20)) (w : World) :
    Calls Try.prog 48 #[.pointer (some ⟨kb, 0, none⟩), .agg (cmdCells c)] w fun e w' => e = .returned (refuse 2) ∧ Mod No w w' := by
  have M0 := hide ((Mod.refl No w).alloc (.cells (cmdCells c) 37))
  unfold cmdCells at M0 ⊢
  have h1 : ¬ c.kind < 1 := by omega
  have h2 : ¬ c.kind > 9 := by omega
  have h3 : (c.kind == 8) = false := by simp [hk.2.2]
  rcases Int.lt_or_le c.flight 1 with f1 | f1
  · clear hk hf
    go_enter Try.func48, Try.ntmps48
    go_wp2
    go_ret2
    exact ⟨rfl, unhide M0⟩
  · have f2 : c.flight > 20 := by omega
    have f1' : ¬ c.flight < 1 := by omega
    clear hk hf
    go_enter Try.func48, Try.ntmps48
    go_wp2
    go_ret2
    exact ⟨rfl, unhide M0⟩

theorem klook_twice (kb b : Nat) (c : Cmd) (hk : c.kind = 1) (hf : 1 ≤ c.flight ∧ c.flight ≤ 20) (w : World)
    (hF : ∀ W, Mod No w W → Calls Try.prog 44 #[.pointer (some ⟨kb, 0, none⟩), .int .i64 c.flight] W fun e w' => e = .returned (.pointer (some ⟨b, 0, none⟩)) ∧ w' = W) :
    Calls Try.prog 48 #[.pointer (some ⟨kb, 0, none⟩), .agg (cmdCells c)] w fun e w' => e = .returned (refuse 3) ∧ Mod No w w' := by
  have HF := hide hF
  have M0 := hide ((Mod.refl No w).alloc (.cells (cmdCells c) 37))
  have B0 := hide (Has.new w (cmdCells c) 37)
  unfold cmdCells at M0 B0 ⊢
  rw [hk] at M0 B0 ⊢
  have f1 : ¬ c.flight < 1 := by omega
  have f2 : ¬ c.flight > 20 := by omega
  clear hF hk hf
  go_enter Try.func48, Try.ntmps48
  go_wp2_with fail
  refine ((unhide HF) _ (unhide M0)).mono ?_
  rintro e w1 ⟨rfl, rfl⟩
  go_wp2
  go_ret2
  exact ⟨rfl, unhide M0⟩

theorem klook_add (kb : Nat) (c : Cmd) (x y : Value) (hk : c.kind = 1) (hf : 1 ≤ c.flight ∧ c.flight ≤ 20) (w : World)
    (hF : ∀ W, Mod No w W → Calls Try.prog 44 #[.pointer (some ⟨kb, 0, none⟩), .int .i64 c.flight] W fun e w' => e = .returned (.pointer none) ∧ w' = W)
    (hA : ∀ W, Calls Try.prog 59 #[plaV c.pla] W fun e w' => e = .returned (.tuple #[x, y]) ∧ Mod No W w') :
    Calls Try.prog 48 #[.pointer (some ⟨kb, 0, none⟩), .agg (cmdCells c)] w fun e w' => e = .returned (.tuple #[x, y]) ∧ Mod No w w' := by
  have HF := hide hF
  have HA := hide hA
  have M0 := hide ((Mod.refl No w).alloc (.cells (cmdCells c) 37))
  have B0 := hide (Has.new w (cmdCells c) 37)
  unfold cmdCells at M0 B0 ⊢
  unfold plaV at HA
  rw [hk] at M0 B0 ⊢
  have f1 : ¬ c.flight < 1 := by omega
  have f2 : ¬ c.flight > 20 := by omega
  clear hF hk hf hA
  go_enter Try.func48, Try.ntmps48
  go_wp2_with fail
  refine ((unhide HF) _ (unhide M0)).mono ?_
  rintro e w1 ⟨rfl, rfl⟩
  go_wp2_with fail
  refine ((unhide HA) _).mono ?_
  rintro e w1 ⟨rfl, m1⟩
  have M1 := hide ((unhide M0).trans m1)
  clear m1
  go_wp2
  go_ret2
  exact ⟨rfl, unhide M1⟩

theorem klook_miss (kb : Nat) (c : Cmd) (hk : 2 ≤ c.kind ∧ c.kind ≤ 9 ∧ c.kind ≠ 8) (hf : 1 ≤ c.flight ∧ c.flight ≤ 20) (w : World)
    (hF : ∀ W, Mod No w W → Calls Try.prog 44 #[.pointer (some ⟨kb, 0, none⟩), .int .i64 c.flight] W fun e w' => e = .returned (.pointer none) ∧ w' = W) :
    Calls Try.prog 48 #[.pointer (some ⟨kb, 0, none⟩), .agg (cmdCells c)] w fun e w' => e = .returned (refuse 2) ∧ Mod No w w' := by
  have HF := hide hF
  have M0 := hide ((Mod.refl No w).alloc (.cells (cmdCells c) 37))
  unfold cmdCells at M0 ⊢
  have h1 : ¬ c.kind < 1 := by omega
  have h2 : ¬ c.kind > 9 := by omega
  have h3 : (c.kind == 8) = false := by simp [hk.2.2]
  have h4 : (c.kind == 1) = false := by simp; omega
  have f1 : ¬ c.flight < 1 := by omega
  have f2 : ¬ c.flight > 20 := by omega
  clear hF hk hf
  go_enter Try.func48, Try.ntmps48
  go_wp2_with fail
  refine ((unhide HF) _ (unhide M0)).mono ?_
  rintro e w1 ⟨rfl, rfl⟩
  go_wp2
  go_ret2
  exact ⟨rfl, unhide M0⟩

theorem klook_fl (kb b : Nat) (c : Cmd) (now : Int) (x y : Value) (cs : Array Value) (hk : 2 ≤ c.kind ∧ c.kind ≤ 9 ∧ c.kind ≠ 8) (hf : 1 ≤ c.flight ∧ c.flight ≤ 20) (w : World) (h : Has w kb cs 117) (h0 : cs[0]? = some (.int .i64 now))
    (hF : ∀ W, Mod No w W → Calls Try.prog 44 #[.pointer (some ⟨kb, 0, none⟩), .int .i64 c.flight] W fun e w' => e = .returned (.pointer (some ⟨b, 0, none⟩)) ∧ w' = W)
    (hL : ∀ W, Mod No w W → Calls Try.prog 60 #[.pointer (some ⟨b, 0, none⟩), .agg (cmdCells c), .int .i64 now] W fun e w' => e = .returned (.tuple #[x, y]) ∧ Mod No W w') :
    Calls Try.prog 48 #[.pointer (some ⟨kb, 0, none⟩), .agg (cmdCells c)] w fun e w' => e = .returned (.tuple #[x, y]) ∧ Mod No w w' := by
  have HF := hide hF
  have HL := hide hL
  have c0 := h.cell 0
  rw [h0] at c0
  have hlt := h.lt
  have M0 := hide ((Mod.refl No w).alloc (.cells (cmdCells c) 37))
  unfold cmdCells at M0 HL ⊢
  have h1 : ¬ c.kind < 1 := by omega
  have h2 : ¬ c.kind > 9 := by omega
  have h3 : (c.kind == 8) = false := by simp [hk.2.2]
  have h4 : (c.kind == 1) = false := by simp; omega
  have f1 : ¬ c.flight < 1 := by omega
  have f2 : ¬ c.flight > 20 := by omega
  have HH := hide h
  clear hF hL hk hf h
  go_enter Try.func48, Try.ntmps48
  go_wp2_with fail
  refine ((unhide HF) _ (unhide M0)).mono ?_
  rintro e w1 ⟨rfl, rfl⟩
  go_wp2_with fail
  go_region_with (go_at_call 60; refine ((unhide HL) _ ((unhide M0).drew)).mono ?_; rintro e w3 ⟨rfl, hm3⟩; have c03 := (((unhide M0).drew.trans hm3).has (unhide HH) (fun x => x)).cell 0; rw [h0] at c03)
  all_goals go_wp2
  all_goals go_ret2
  all_goals exact ⟨rfl, (unhide M0).drew.trans hm3⟩
end Go.Proofs.Ythhibagcpjeihaa
