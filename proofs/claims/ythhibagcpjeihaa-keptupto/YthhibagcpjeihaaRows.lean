/-
  No cell of these rows narrows 'for every input' (looked for: loops, veiled, ifaces, maps, wideKeys, modest, calm, conditions, laid).
  DERIVED. THE GIVEN ROWS OF THIS SEAT. 7 by the template 'for every input the law returns true; each argument reads behind the call as it read before'; 0 by the template 'total and deterministic' (their statements: YthhibagcpjeihaaTotals.lean).
  GIVEN WITH THE SEED: the statements are not yours to turn. If you find one false, say at which input.
  Laid BY PROGRAM, IN A SANDBOX (cutbox-rows.mjs): the forced cells as the released guide's own fill.sh prints them over the translation 86e59c8c80eaa187… (all of the seat's roots in one cut). By AI agents, Wed Nov 11 2026. No macro, syntax, notation, axiom, sorry.
-/
import Derived.Test.YthhibagcpjeihaaChecked
import GoSem.Claim
import GoSem.ClaimJoined
import GoSem.ClaimMapViews
import Derived.JoinedTies
import Derived.KernelRfl
namespace Go.Proofs.Ythhibagcpjeihaa
/- THE CELL 'sum', in the pinned program and in every row, IS THE sha256 OF THE DUMP (.gsa) THAT YthhibagcpjeihaaProg.lean LOADS. Nothing in Lean hashes anything: it is a label: what it is worth is what the hold of that sum in a sandbox is worth. -/
noncomputable def Try.pinned : Pinned := { name := "ythhibagcpjeihaa", sum := "86e59c8c80eaa187414ee12128f7e81d9d066c267b0877ae1b64c4444e572c21", checked := Try.checked }
namespace Rows
def none {H : Type} : Left H := { results := [], args := [] }

/-- 'berthlaw.Names': WHATEVER THE INPUT: true; the input reads as it did. -/
def namesSpec : ChangeSpec := { name := "names", fn := fun _ => fun
  | [] => { results := [.lit (.bool true)], args := [] }
  | _ => none }
def namesRow : OpenClaim := { program := "ythhibagcpjeihaa", sum := "86e59c8c80eaa187414ee12128f7e81d9d066c267b0877ae1b64c4444e572c21", func := "berth/berthlaw.Names", spec := "names", plainKeys := false, apart := false }
def NamesSaid : Prop := namesRow.holds Try.pinned (OpenSpec.ofChange namesSpec)

/-- ITS FALSE NEIGHBOUR: 'it returns false'. Refute it at one input. -/
def namesWrong : ChangeSpec := { name := "names", fn := fun _ => fun
  | [] => { results := [.lit (.bool false)], args := [] }
  | _ => none }
def NamesWrongFalsely : Prop := namesRow.holds Try.pinned (OpenSpec.ofChange namesWrong)

/-- 'berthkeep.Recounted': WHATEVER THE INPUT: true; the input reads as it did. -/
def recountedSpec : ChangeSpec := { name := "recounted", fn := fun _ => fun
  | [d] => { results := [.lit (.bool true)], args := [d] }
  | _ => none }
def recountedRow : OpenClaim := { program := "ythhibagcpjeihaa", sum := "86e59c8c80eaa187414ee12128f7e81d9d066c267b0877ae1b64c4444e572c21", func := "berth/berthkeep.Recounted", spec := "recounted", unfollowed := true, recurses := true, plainKeys := false, apart := false }
def RecountedSaid : Prop := recountedRow.holds Try.pinned (OpenSpec.ofChange recountedSpec)

/-- ITS FALSE NEIGHBOUR: 'it returns false'. Refute it at one input. -/
def recountedWrong : ChangeSpec := { name := "recounted", fn := fun _ => fun
  | [d] => { results := [.lit (.bool false)], args := [d] }
  | _ => none }
def RecountedWrongFalsely : Prop := recountedRow.holds Try.pinned (OpenSpec.ofChange recountedWrong)

/-- 'berthkeep.Back': WHATEVER THE INPUT: true; the input reads as it did. -/
def backSpec : ChangeSpec := { name := "back", fn := fun _ => fun
  | [d1, d2, d3, d4, d5] => { results := [.lit (.bool true)], args := [d1, d2, d3, d4, d5] }
  | _ => none }
def backRow : OpenClaim := { program := "ythhibagcpjeihaa", sum := "86e59c8c80eaa187414ee12128f7e81d9d066c267b0877ae1b64c4444e572c21", func := "berth/berthkeep.Back", spec := "back", unfollowed := true, recurses := true, plainKeys := false, apart := false }
def BackSaid : Prop := backRow.holds Try.pinned (OpenSpec.ofChange backSpec)

/-- ITS FALSE NEIGHBOUR: 'it returns false'. Refute it at one input. -/
def backWrong : ChangeSpec := { name := "back", fn := fun _ => fun
  | [d1, d2, d3, d4, d5] => { results := [.lit (.bool false)], args := [d1, d2, d3, d4, d5] }
  | _ => none }
def BackWrongFalsely : Prop := backRow.holds Try.pinned (OpenSpec.ofChange backWrong)

/-- 'berthkeep.Paged': WHATEVER THE INPUT: true; the input reads as it did. -/
def pagedSpec : ChangeSpec := { name := "paged", fn := fun _ => fun
  | [d1, d2] => { results := [.lit (.bool true)], args := [d1, d2] }
  | _ => none }
def pagedRow : OpenClaim := { program := "ythhibagcpjeihaa", sum := "86e59c8c80eaa187414ee12128f7e81d9d066c267b0877ae1b64c4444e572c21", func := "berth/berthkeep.Paged", spec := "paged", unfollowed := true, recurses := true, plainKeys := false, apart := false }
def PagedSaid : Prop := pagedRow.holds Try.pinned (OpenSpec.ofChange pagedSpec)

/-- ITS FALSE NEIGHBOUR: 'it returns false'. Refute it at one input. -/
def pagedWrong : ChangeSpec := { name := "paged", fn := fun _ => fun
  | [d1, d2] => { results := [.lit (.bool false)], args := [d1, d2] }
  | _ => none }
def PagedWrongFalsely : Prop := pagedRow.holds Try.pinned (OpenSpec.ofChange pagedWrong)

/-- 'berthkeep.Folded': WHATEVER THE INPUT: true; the input reads as it did. -/
def foldedSpec : ChangeSpec := { name := "folded", fn := fun _ => fun
  | [d1, d2] => { results := [.lit (.bool true)], args := [d1, d2] }
  | _ => none }
def foldedRow : OpenClaim := { program := "ythhibagcpjeihaa", sum := "86e59c8c80eaa187414ee12128f7e81d9d066c267b0877ae1b64c4444e572c21", func := "berth/berthkeep.Folded", spec := "folded", unfollowed := true, recurses := true, plainKeys := false, apart := false }
def FoldedSaid : Prop := foldedRow.holds Try.pinned (OpenSpec.ofChange foldedSpec)

/-- ITS FALSE NEIGHBOUR: 'it returns false'. Refute it at one input. -/
def foldedWrong : ChangeSpec := { name := "folded", fn := fun _ => fun
  | [d1, d2] => { results := [.lit (.bool false)], args := [d1, d2] }
  | _ => none }
def FoldedWrongFalsely : Prop := foldedRow.holds Try.pinned (OpenSpec.ofChange foldedWrong)

/-- 'berthkeep.Kept': WHATEVER THE INPUT: true; the input reads as it did. -/
def keptSpec : ChangeSpec := { name := "kept", fn := fun _ => fun
  | [d] => { results := [.lit (.bool true)], args := [d] }
  | _ => none }
def keptRow : OpenClaim := { program := "ythhibagcpjeihaa", sum := "86e59c8c80eaa187414ee12128f7e81d9d066c267b0877ae1b64c4444e572c21", func := "berth/berthkeep.Kept", spec := "kept", unfollowed := true, recurses := true, plainKeys := false, apart := false }
def KeptSaid : Prop := keptRow.holds Try.pinned (OpenSpec.ofChange keptSpec)

/-- ITS FALSE NEIGHBOUR: 'it returns false'. Refute it at one input. -/
def keptWrong : ChangeSpec := { name := "kept", fn := fun _ => fun
  | [d] => { results := [.lit (.bool false)], args := [d] }
  | _ => none }
def KeptWrongFalsely : Prop := keptRow.holds Try.pinned (OpenSpec.ofChange keptWrong)

/-- 'berthkeep.Packed': WHATEVER THE INPUT: true; the input reads as it did. -/
def packedSpec : ChangeSpec := { name := "packed", fn := fun _ => fun
  | [d1, d2] => { results := [.lit (.bool true)], args := [d1, d2] }
  | _ => none }
def packedRow : OpenClaim := { program := "ythhibagcpjeihaa", sum := "86e59c8c80eaa187414ee12128f7e81d9d066c267b0877ae1b64c4444e572c21", func := "berth/berthkeep.Packed", spec := "packed", unfollowed := true, recurses := true, plainKeys := false, apart := false }
def PackedSaid : Prop := packedRow.holds Try.pinned (OpenSpec.ofChange packedSpec)

/-- ITS FALSE NEIGHBOUR: 'it returns false'. Refute it at one input. -/
def packedWrong : ChangeSpec := { name := "packed", fn := fun _ => fun
  | [d1, d2] => { results := [.lit (.bool false)], args := [d1, d2] }
  | _ => none }
def PackedWrongFalsely : Prop := packedRow.holds Try.pinned (OpenSpec.ofChange packedWrong)

/- THE SECOND FORM. 'bulk': how many values and letters a reading holds, each counted each time it is reached (what is shared counts as often as it is met; a slice's spare places count too). A statement '..UptoSaid' is the law's where the arguments, and the package variables that the reading takes, are together of bulk at most 1048576: NARROWER than '..Said'. Prove '..Said' where nothing that the law and all that it calls make is longer than what came in: it says more and counts as full. Else prove '..UptoSaid'. A law counts once. -/
mutual
def uptoBulk {H : Type} : DataW H → Nat
  | .lit (.string bytes) => bytes.length + 1
  | .lit _ => 1
  | .nil => 1
  | .ptr d => uptoBulk d + 1
  | .slice elems spare => uptoBulkAll elems + uptoBulkAll spare + 1
  | .agg parts => uptoBulkAll parts + 1
  | .iface _ d => uptoBulk d + 1
  | .map entries => uptoBulkEntries entries + 1
  | .held _ => 1
def uptoBulkAll {H : Type} : List (DataW H) → Nat
  | [] => 0
  | d :: r => uptoBulk d + uptoBulkAll r
def uptoBulkEntries {H : Type} : List (Lit × DataW H) → Nat
  | [] => 0
  | x :: r => uptoBulkEntry x + uptoBulkEntries r
def uptoBulkEntry {H : Type} : Lit × DataW H → Nat
  | (.string bytes, d) => bytes.length + uptoBulk d + 1
  | (_, d) => uptoBulk d + 1
 end
def uptoSmall : (H : Type) → List (DataW H) → Bool := fun _ ds => decide (uptoBulkAll ds ≤ 1048576)
def OpenSpec.upto (s : _root_.Go.ChangeSpec) : _root_.Go.OpenSpec := { _root_.Go.OpenSpec.ofChange s with cond := some uptoSmall }

/-- 'berthlaw.Names', WHERE WHAT IT READS IS OF BULK AT MOST 1048576: true; the input reads as it did. -/
def namesUptoRow : OpenClaim := { program := "ythhibagcpjeihaa", sum := "86e59c8c80eaa187414ee12128f7e81d9d066c267b0877ae1b64c4444e572c21", func := "berth/berthlaw.Names", spec := "names", plainKeys := false, apart := false, narrowed := true }
def NamesUptoSaid : Prop := namesUptoRow.holds Try.pinned (OpenSpec.upto namesSpec)

/-- 'berthkeep.Recounted', WHERE WHAT IT READS IS OF BULK AT MOST 1048576: true; the input reads as it did. -/
def recountedUptoRow : OpenClaim := { program := "ythhibagcpjeihaa", sum := "86e59c8c80eaa187414ee12128f7e81d9d066c267b0877ae1b64c4444e572c21", func := "berth/berthkeep.Recounted", spec := "recounted", unfollowed := true, recurses := true, plainKeys := false, apart := false, narrowed := true }
def RecountedUptoSaid : Prop := recountedUptoRow.holds Try.pinned (OpenSpec.upto recountedSpec)

/-- 'berthkeep.Back', WHERE WHAT IT READS IS OF BULK AT MOST 1048576: true; the input reads as it did. -/
def backUptoRow : OpenClaim := { program := "ythhibagcpjeihaa", sum := "86e59c8c80eaa187414ee12128f7e81d9d066c267b0877ae1b64c4444e572c21", func := "berth/berthkeep.Back", spec := "back", unfollowed := true, recurses := true, plainKeys := false, apart := false, narrowed := true }
def BackUptoSaid : Prop := backUptoRow.holds Try.pinned (OpenSpec.upto backSpec)

/-- 'berthkeep.Paged', WHERE WHAT IT READS IS OF BULK AT MOST 1048576: true; the input reads as it did. -/
def pagedUptoRow : OpenClaim := { program := "ythhibagcpjeihaa", sum := "86e59c8c80eaa187414ee12128f7e81d9d066c267b0877ae1b64c4444e572c21", func := "berth/berthkeep.Paged", spec := "paged", unfollowed := true, recurses := true, plainKeys := false, apart := false, narrowed := true }
def PagedUptoSaid : Prop := pagedUptoRow.holds Try.pinned (OpenSpec.upto pagedSpec)

/-- 'berthkeep.Folded', WHERE WHAT IT READS IS OF BULK AT MOST 1048576: true; the input reads as it did. -/
def foldedUptoRow : OpenClaim := { program := "ythhibagcpjeihaa", sum := "86e59c8c80eaa187414ee12128f7e81d9d066c267b0877ae1b64c4444e572c21", func := "berth/berthkeep.Folded", spec := "folded", unfollowed := true, recurses := true, plainKeys := false, apart := false, narrowed := true }
def FoldedUptoSaid : Prop := foldedUptoRow.holds Try.pinned (OpenSpec.upto foldedSpec)

/-- 'berthkeep.Kept', WHERE WHAT IT READS IS OF BULK AT MOST 1048576: true; the input reads as it did. -/
def keptUptoRow : OpenClaim := { program := "ythhibagcpjeihaa", sum := "86e59c8c80eaa187414ee12128f7e81d9d066c267b0877ae1b64c4444e572c21", func := "berth/berthkeep.Kept", spec := "kept", unfollowed := true, recurses := true, plainKeys := false, apart := false, narrowed := true }
def KeptUptoSaid : Prop := keptUptoRow.holds Try.pinned (OpenSpec.upto keptSpec)

/-- 'berthkeep.Packed', WHERE WHAT IT READS IS OF BULK AT MOST 1048576: true; the input reads as it did. -/
def packedUptoRow : OpenClaim := { program := "ythhibagcpjeihaa", sum := "86e59c8c80eaa187414ee12128f7e81d9d066c267b0877ae1b64c4444e572c21", func := "berth/berthkeep.Packed", spec := "packed", unfollowed := true, recurses := true, plainKeys := false, apart := false, narrowed := true }
def PackedUptoSaid : Prop := packedUptoRow.holds Try.pinned (OpenSpec.upto packedSpec)

end Rows
end Go.Proofs.Ythhibagcpjeihaa
