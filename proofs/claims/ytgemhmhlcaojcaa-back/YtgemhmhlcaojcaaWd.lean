import Derived.Test.YtgemhmhlcaojcaaBase
import Derived.BigQuiet
import Derived.Deep.QuietTactic
/- A region that draws its order, and whose callees only read and make memory: one walk of the text's order serves every order. -/
namespace Go.Proofs.Ytgemhmhlcaojcaa
open Go.RowKit
set_option linter.unusedVariables false

/-- A world in which the blocks of w0 are as they were. -/
structure Wd (w0 : World) where
  W : World
  h : Mod No w0 W

theorem wp_region_wd {P : Program} {id : Nat} {Q : Exit → Act → World → Prop} {a : Act} {w w0 : World} {l : List Oper} (hm : P.follows .mixedOrders = true) (hB : Region.lexB .any l.toArray = true) (h0 : Mod No w0 w)
    (h : wpQuiet P l.toArray (fun w' => ∃ x : Wd w0, w' = x.W) (fun a' => ∀ w', (∃ x : Wd w0, w' = x.W) → Q .normal a' w') l a) : (Code.region id l.toArray true).wp P Q a w :=
  wp_region_quiet (C := fun w' => ∃ x : Wd w0, w' = x.W) hm hB ⟨⟨_, h0.drew⟩, rfl⟩ (by simpa using h)

theorem wd_ne (w0 : World) : Nonempty (Wd w0) := ⟨⟨w0, Mod.refl _ _⟩⟩
/-- A callee's contract, met in such a world. -/
theorem Calls.wd {P : Program} {f : FuncId} {args : Array Value} {w0 : World} {v : Value} (x : Wd w0)
    (h : Calls P f args x.W fun e w' => e = .returned v ∧ Mod No x.W w') : Calls P f args x.W fun e w'' => e = .returned v ∧ ∃ y : Wd w0, w'' = y.W :=
  h.mono fun _ w'' ⟨he, hm⟩ => ⟨he, ⟨w'', x.h.trans hm⟩, rfl⟩

theorem Has.wd {w0 : World} {b : Nat} {cs : Array Value} {T : TypeId} (h : Has w0 b cs T) (x : Wd w0) (o : Nat) : x.W.cell? ⟨b, o, none⟩ = cs[o]? := (x.h.has h (fun z => z)).cell o
end Go.Proofs.Ytgemhmhlcaojcaa
