import Derived.Test.YtlcbemcamdafjaaCbackBaseMaps
import Derived.BigQuiet
import Derived.Deep.QuietTactic
import Derived.Test.YtlcbemcamdafjaaCbackLook7SwapM
/- A region that draws its order, and whose callees only read and make memory: one walk of the text's order serves every order. -/
namespace Go.Proofs.Ytlcbemcamdafjaa
open Go.RowKit
set_option linter.unusedVariables false

/-- A world in which the blocks of w0 are as they were. -/
structure Wd (w0 : World) where
  W : World
  h : Mod No w0 W

theorem wp_region_wd {P : Program} {id : Nat} {Q : Exit → Act → World → Prop} {a : Act} {w w0 : World} {l : List Oper} (hm : P.follows .mixedOrders = true) (hB : Region.lexB .any l.toArray = true) (h0 : Mod No w0 w)
    (h : wpQuiet P l.toArray (fun w' => ∃ x : Wd w0, w' = x.W) (fun a' => ∀ w', (∃ x : Wd w0, w' = x.W) → Q .normal a' w') l a) : (Code.region id l.toArray true).wp P Q a w :=
  wp_region_quiet (C := fun w' => ∃ x : Wd w0, w' = x.W) hm hB ⟨⟨_, h0.drew⟩, rfl⟩ (by simpa using h)

theorem wd_ne (w0 : World) : Nonempty (Wd w0) := ⟨⟨w0, Mod.refl _ _⟩⟩
/-- A callee's contract, met in such a world. -/
theorem Calls.wd {P : Program} {f : FuncId} {args : Array Value} {w0 : World} {v : Value} (x : Wd w0)
    (h : Calls P f args x.W fun e w' => e = .returned v ∧ Mod No x.W w') : Calls P f args x.W fun e w'' => e = .returned v ∧ ∃ y : Wd w0, w'' = y.W :=
  h.mono fun _ w'' ⟨he, hm⟩ => ⟨he, ⟨w'', x.h.trans hm⟩, rfl⟩

theorem Has.wd {w0 : World} {b : Nat} {cs : Array Value} {T : TypeId} (h : Has w0 b cs T) (x : Wd w0) (o : Nat) : x.W.cell? ⟨b, o, none⟩ = cs[o]? := (x.h.has h (fun z => z)).cell o
end Go.Proofs.Ytlcbemcamdafjaa
/- Another plane for a flight is looked over. -/
namespace Go.Proofs.Ytlcbemcamdafjaa
open Go.RowKit
open Go.ChangeMaps (setBlock)
open M
set_option linter.unusedVariables false
set_option linter.unusedSimpArgs false
set_option maxRecDepth 100000
set_option maxHeartbeats 2000000

def refitV (q : Pla) : Value := .iface 147 (.agg #[.int .i64 q.rows, .int .i64 q.cols, .int .i64 q.front])
def swapV (q : Pla) (n : Nat) : Value := if q.sized = true ∧ ¬ (q.rows * q.cols < (n : Int)) then grant (refitV q) else refuse 4

theorem run_len (w : World) (m clock : Nat) (l : List MEnt) (hm : w.heap[m]? = some (mapObj l clock)) (ty : TypeId) :
    (Builtin.len_ #[119] ty #[.map (some m)]).run Try.prog w = .ok (.int .i64 (l.length : Nat)) w := by
  unfold mapObj at hm
  have hg : (getObj m).run Try.prog w = .ok (.map (l.map MEnt.obj).toArray clock) w := by simp [getObj, Sem.run, hm]
  simp [Builtin.len_, run_underlying Try.underlying119, hg, goInt]

theorem lookSwap_walk (b m : Nat) (cs : Array Value) (q : Pla) (n : Nat) (w : World) (h : Has w b cs 121) (h7 : cs[7]? = some (.map (some m)))
    (hlen : ∀ W, Mod No w W → ∀ ty, (Builtin.len_ #[119] ty #[.map (some m)]).run Try.prog W = .ok (.int .i64 (n : Nat)) W)
    (hrc : q.sized = true → IntKind.i64.wrap (q.rows * q.cols) = q.rows * q.cols) :
    Calls Try.prog 61 #[.pointer (some ⟨b, 0, none⟩), plaV q] w fun e w' => e = .returned (swapV q n) ∧ Mod No w w' := by
  have HA := hide fun W => shape_any q W
  have HV := hide (show ∀ s, q.sized = s → swapV q n = if s = true ∧ ¬ (q.rows * q.cols < (n : Int)) then grant (refitV q) else refuse 4 by rintro s rfl; rfl)
  unfold plaV at HA ⊢
  obtain ⟨s, hs⟩ : ∃ s, q.sized = s := ⟨_, rfl⟩
  rw [hs] at HA hrc
  have HV2 := hide ((unhide HV) s hs)
  have HB := hide h
  have M0 := hide ((Mod.refl No w).alloc (.cells #[.int .i64 q.rows, .int .i64 q.cols, .int .i64 q.front, .int .i64 q.l0, .int .i64 q.l1, .int .i64 q.l2, .int .i64 q.l3] 35))
  have B0 := hide (Has.new w #[.int .i64 q.rows, .int .i64 q.cols, .int .i64 q.front, .int .i64 q.l0, .int .i64 q.l1, .int .i64 q.l2, .int .i64 q.l3] 35)
  have HL := hide hlen
  have hlt := h.lt
  clear hs HV hlen h
  have hb : ∀ (x : Wd (w.alloc (.cells #[.int .i64 q.rows, .int .i64 q.cols, .int .i64 q.front, .int .i64 q.l0, .int .i64 q.l1, .int .i64 q.l2, .int .i64 q.l3] 35))) (o : Nat), x.W.cell? ⟨w.heap.size, o, none⟩ = _ := (unhide B0).wd
  have h7 : ∀ x : Wd (w.alloc (.cells #[.int .i64 q.rows, .int .i64 q.cols, .int .i64 q.front, .int .i64 q.l0, .int .i64 q.l1, .int .i64 q.l2, .int .i64 q.l3] 35)), x.W.cell? ⟨b, 7, none⟩ = some (.map (some m)) := fun x => by
    rw [((unhide M0).has (unhide HB) (fun x => x)).wd x 7, h7]
  have hL : ∀ (x : Wd (w.alloc (.cells #[.int .i64 q.rows, .int .i64 q.cols, .int .i64 q.front, .int .i64 q.l0, .int .i64 q.l1, .int .i64 q.l2, .int .i64 q.l3] 35))) ty, (Builtin.len_ #[119] ty #[.map (some m)]).run Try.prog x.W = .ok (.int .i64 (n : Nat)) x.W := fun x ty => (unhide HL) _ ((unhide M0).trans x.h) ty
  have hne := wd_ne (w.alloc (.cells #[.int .i64 q.rows, .int .i64 q.cols, .int .i64 q.front, .int .i64 q.l0, .int .i64 q.l1, .int .i64 q.l2, .int .i64 q.l3] 35))
  cases s with
  | false =>
    clear hrc h7 hL
    go_enter Try.func61, Try.ntmps61
    go_wp2_with fail
    refine wp_region_wd (w0 := (w.alloc (.cells #[.int .i64 q.rows, .int .i64 q.cols, .int .i64 q.front, .int .i64 q.l0, .int .i64 q.l1, .int .i64 q.l2, .int .i64 q.l3] 35))) (by kernel_rfl) (by kernel_rfl) (Mod.refl _ _) ?_
    repeat (go_big_quiet_step ((go_at_call 59; exact Calls.wd _ ((unhide HA) _))))
    refine wpQuiet_nil ?_
    rintro w3 ⟨⟨_, hm3⟩, rfl⟩
    go_wp2
    go_ret2
    exact ⟨by rw [unhide HV2, if_neg (by simp)]; rfl, (unhide M0).trans hm3⟩
  | true =>
    have hrc := hrc rfl
    by_cases hd : q.rows * q.cols < (n : Int)
    · have HD := hide hd
      go_enter Try.func61, Try.ntmps61
      go_wp2_with fail
      refine wp_region_wd (w0 := (w.alloc (.cells #[.int .i64 q.rows, .int .i64 q.cols, .int .i64 q.front, .int .i64 q.l0, .int .i64 q.l1, .int .i64 q.l2, .int .i64 q.l3] 35))) (by kernel_rfl) (by kernel_rfl) (Mod.refl _ _) ?_
      repeat (go_big_quiet_step ((go_at_call 59; exact Calls.wd _ ((unhide HA) _))))
      refine wpQuiet_nil ?_
      rintro w3 ⟨⟨_, hm3⟩, rfl⟩
      go_wp2
      go_ret2
      exact ⟨by rw [unhide HV2, if_neg (by have := unhide HD; omega)]; rfl, (unhide M0).trans hm3⟩
    · have HD := hide hd
      have BX := hide fun (w3 : World) (hm3 : Mod No (w.alloc (.cells #[.int .i64 q.rows, .int .i64 q.cols, .int .i64 q.front, .int .i64 q.l0, .int .i64 q.l1, .int .i64 q.l2, .int .i64 q.l3] 35)) w3) => (hm3.has (unhide B0) (fun x => x))
      go_enter Try.func61, Try.ntmps61
      go_wp2_with fail
      refine wp_region_wd (w0 := (w.alloc (.cells #[.int .i64 q.rows, .int .i64 q.cols, .int .i64 q.front, .int .i64 q.l0, .int .i64 q.l1, .int .i64 q.l2, .int .i64 q.l3] 35))) (by kernel_rfl) (by kernel_rfl) (Mod.refl _ _) ?_
      repeat (go_big_quiet_step ((go_at_call 59; exact Calls.wd _ ((unhide HA) _))))
      refine wpQuiet_nil ?_
      rintro w3 ⟨⟨_, hm3⟩, rfl⟩
      have cb3 := ((unhide BX) w3 hm3).cell
      go_wp2
      go_ret2
      exact ⟨by rw [unhide HV2, if_pos (by have := unhide HD; simp; omega)]; rfl, (unhide M0).trans hm3⟩

theorem look_swap (b : Nat) (c : Cmd) (now : Int) (x y : Value) (hk : c.kind = 9) (w : World)
    (hS : ∀ W, Mod No w W → Calls Try.prog 61 #[.pointer (some ⟨b, 0, none⟩), plaV c.pla] W fun e w' => e = .returned (.tuple #[x, y]) ∧ Mod No W w') :
    Calls Try.prog 52 #[.pointer (some ⟨b, 0, none⟩), .agg (cmdCells c), .int .i64 now] w fun e w' => e = .returned (.tuple #[x, y]) ∧ Mod No w w' := by
  have HS := hide hS
  have M0 := hide ((Mod.refl No w).alloc (.cells (cmdCells c) 37))
  unfold cmdCells at M0 ⊢
  unfold plaV at HS
  rw [hk] at M0 ⊢
  clear hk hS
  go_enter Try.func52, Try.ntmps52
  go_wp2_with fail
  refine ((unhide HS) _ (unhide M0)).mono ?_
  rintro e w1 ⟨rfl, m1⟩
  have M1 := hide ((unhide M0).trans m1)
  clear m1
  go_wp2
  go_ret2
  exact ⟨rfl, unhide M1⟩
end Go.Proofs.Ytlcbemcamdafjaa
