/-
  No cell of these rows narrows 'for every input' (looked for: loops, veiled, ifaces, maps, wideKeys, modest, calm, conditions, laid).
  DERIVED. THE GIVEN ROWS OF THIS SEAT. 5 by the template 'for every input the law returns true; each argument reads behind the call as it read before'; 0 by the template 'total and deterministic' (their statements: YthhibagcpjeihaaGreatTotals.lean).
  GIVEN WITH THE SEED: the statements are not yours to turn. If you find one false, say at which input.
  Laid BY PROGRAM, IN A SANDBOX (cutbox-rows.mjs): the forced cells as the released guide's own fill.sh prints them over the translation 4f42fbc26edfa74b… (all of the seat's roots in one cut). By AI agents, Wed Nov 11 2026. No macro, syntax, notation, axiom, sorry.
-/
import Derived.Test.YthhibagcpjeihaaGreatChecked
import GoSem.Claim
import GoSem.ClaimJoined
import GoSem.ClaimMapViews
import Derived.JoinedTies
import Derived.KernelRfl
namespace Go.Proofs.YthhibagcpjeihaaGreat
/- THE CELL 'sum', in the pinned program and in every row, IS THE sha256 OF THE DUMP (.gsa) THAT YthhibagcpjeihaaGreatProg.lean LOADS. Nothing in Lean hashes anything: it is a label: what it is worth is what the hold of that sum in a sandbox is worth. -/
noncomputable def Tryz.pinned : Pinned := { name := "ythhibagcpjeihaagreat", sum := "4f42fbc26edfa74bce90506bd7a80e58899a3c56e63da09a9d1eb83ee13a1ed7", checked := Tryz.checked }
namespace Rows
def none {H : Type} : Left H := { results := [], args := [] }

/-- 'berthlaw.Does': WHATEVER THE INPUT: true; the input reads as it did. -/
def doesSpec : ChangeSpec := { name := "does", fn := fun _ => fun
  | [d] => { results := [.lit (.bool true)], args := [d] }
  | _ => none }
def doesRow : OpenClaim := { program := "ythhibagcpjeihaagreat", sum := "4f42fbc26edfa74bce90506bd7a80e58899a3c56e63da09a9d1eb83ee13a1ed7", func := "berth/berthlaw.Does", spec := "does", unfollowed := true, recurses := true, plainKeys := false, apart := false }
def DoesSaid : Prop := doesRow.holds Tryz.pinned (OpenSpec.ofChange doesSpec)

/-- ITS FALSE NEIGHBOUR: 'it returns false'. Refute it at one input. -/
def doesWrong : ChangeSpec := { name := "does", fn := fun _ => fun
  | [d] => { results := [.lit (.bool false)], args := [d] }
  | _ => none }
def DoesWrongFalsely : Prop := doesRow.holds Tryz.pinned (OpenSpec.ofChange doesWrong)

/-- 'berthlaw.Pages': WHATEVER THE INPUT: true; the input reads as it did. -/
def pagesSpec : ChangeSpec := { name := "pages", fn := fun _ => fun
  | [d] => { results := [.lit (.bool true)], args := [d] }
  | _ => none }
def pagesRow : OpenClaim := { program := "ythhibagcpjeihaagreat", sum := "4f42fbc26edfa74bce90506bd7a80e58899a3c56e63da09a9d1eb83ee13a1ed7", func := "berth/berthlaw.Pages", spec := "pages", unfollowed := true, recurses := true, plainKeys := false, apart := false }
def PagesSaid : Prop := pagesRow.holds Tryz.pinned (OpenSpec.ofChange pagesSpec)

/-- ITS FALSE NEIGHBOUR: 'it returns false'. Refute it at one input. -/
def pagesWrong : ChangeSpec := { name := "pages", fn := fun _ => fun
  | [d] => { results := [.lit (.bool false)], args := [d] }
  | _ => none }
def PagesWrongFalsely : Prop := pagesRow.holds Tryz.pinned (OpenSpec.ofChange pagesWrong)

/-- 'berthlaw.Follows': WHATEVER THE INPUT: true; the input reads as it did. -/
def followsSpec : ChangeSpec := { name := "follows", fn := fun _ => fun
  | [d] => { results := [.lit (.bool true)], args := [d] }
  | _ => none }
def followsRow : OpenClaim := { program := "ythhibagcpjeihaagreat", sum := "4f42fbc26edfa74bce90506bd7a80e58899a3c56e63da09a9d1eb83ee13a1ed7", func := "berth/berthlaw.Follows", spec := "follows", unfollowed := true, recurses := true, plainKeys := false, apart := false }
def FollowsSaid : Prop := followsRow.holds Tryz.pinned (OpenSpec.ofChange followsSpec)

/-- ITS FALSE NEIGHBOUR: 'it returns false'. Refute it at one input. -/
def followsWrong : ChangeSpec := { name := "follows", fn := fun _ => fun
  | [d] => { results := [.lit (.bool false)], args := [d] }
  | _ => none }
def FollowsWrongFalsely : Prop := followsRow.holds Tryz.pinned (OpenSpec.ofChange followsWrong)

/-- 'berthlaw.Falls': WHATEVER THE INPUT: true; the input reads as it did. -/
def fallsSpec : ChangeSpec := { name := "falls", fn := fun _ => fun
  | [d] => { results := [.lit (.bool true)], args := [d] }
  | _ => none }
def fallsRow : OpenClaim := { program := "ythhibagcpjeihaagreat", sum := "4f42fbc26edfa74bce90506bd7a80e58899a3c56e63da09a9d1eb83ee13a1ed7", func := "berth/berthlaw.Falls", spec := "falls", unfollowed := true, recurses := true, plainKeys := false, apart := false }
def FallsSaid : Prop := fallsRow.holds Tryz.pinned (OpenSpec.ofChange fallsSpec)

/-- ITS FALSE NEIGHBOUR: 'it returns false'. Refute it at one input. -/
def fallsWrong : ChangeSpec := { name := "falls", fn := fun _ => fun
  | [d] => { results := [.lit (.bool false)], args := [d] }
  | _ => none }
def FallsWrongFalsely : Prop := fallsRow.holds Tryz.pinned (OpenSpec.ofChange fallsWrong)

/-- 'berthlaw.All': WHATEVER THE INPUT: true; the input reads as it did. -/
def allSpec : ChangeSpec := { name := "all", fn := fun _ => fun
  | [d] => { results := [.lit (.bool true)], args := [d] }
  | _ => none }
def allRow : OpenClaim := { program := "ythhibagcpjeihaagreat", sum := "4f42fbc26edfa74bce90506bd7a80e58899a3c56e63da09a9d1eb83ee13a1ed7", func := "berth/berthlaw.All", spec := "all", unfollowed := true, recurses := true, plainKeys := false, apart := false }
def AllSaid : Prop := allRow.holds Tryz.pinned (OpenSpec.ofChange allSpec)

/-- ITS FALSE NEIGHBOUR: 'it returns false'. Refute it at one input. -/
def allWrong : ChangeSpec := { name := "all", fn := fun _ => fun
  | [d] => { results := [.lit (.bool false)], args := [d] }
  | _ => none }
def AllWrongFalsely : Prop := allRow.holds Tryz.pinned (OpenSpec.ofChange allWrong)

/- THE SECOND FORM. 'bulk': how many values and letters a reading holds, each counted each time it is reached (what is shared counts as often as it is met; a slice's spare places count too). A statement '..UptoSaid' is the law's where the arguments, and the package variables that the reading takes, are together of bulk at most 1048576: NARROWER than '..Said'. Prove '..Said' where nothing that the law and all that it calls make is longer than what came in: it says more and counts as full. Else prove '..UptoSaid'. A law counts once. -/
mutual
def uptoBulk {H : Type} : DataW H → Nat
  | .lit (.string bytes) => bytes.length + 1
  | .lit _ => 1
  | .nil => 1
  | .ptr d => uptoBulk d + 1
  | .slice elems spare => uptoBulkAll elems + uptoBulkAll spare + 1
  | .agg parts => uptoBulkAll parts + 1
  | .iface _ d => uptoBulk d + 1
  | .map entries => uptoBulkEntries entries + 1
  | .held _ => 1
def uptoBulkAll {H : Type} : List (DataW H) → Nat
  | [] => 0
  | d :: r => uptoBulk d + uptoBulkAll r
def uptoBulkEntries {H : Type} : List (Lit × DataW H) → Nat
  | [] => 0
  | x :: r => uptoBulkEntry x + uptoBulkEntries r
def uptoBulkEntry {H : Type} : Lit × DataW H → Nat
  | (.string bytes, d) => bytes.length + uptoBulk d + 1
  | (_, d) => uptoBulk d + 1
 end
def uptoSmall : (H : Type) → List (DataW H) → Bool := fun _ ds => decide (uptoBulkAll ds ≤ 1048576)
def OpenSpec.upto (s : _root_.Go.ChangeSpec) : _root_.Go.OpenSpec := { _root_.Go.OpenSpec.ofChange s with cond := some uptoSmall }

/-- 'berthlaw.Does', WHERE WHAT IT READS IS OF BULK AT MOST 1048576: true; the input reads as it did. -/
def doesUptoRow : OpenClaim := { program := "ythhibagcpjeihaagreat", sum := "4f42fbc26edfa74bce90506bd7a80e58899a3c56e63da09a9d1eb83ee13a1ed7", func := "berth/berthlaw.Does", spec := "does", unfollowed := true, recurses := true, plainKeys := false, apart := false, narrowed := true }
def DoesUptoSaid : Prop := doesUptoRow.holds Tryz.pinned (OpenSpec.upto doesSpec)

/-- 'berthlaw.Pages', WHERE WHAT IT READS IS OF BULK AT MOST 1048576: true; the input reads as it did. -/
def pagesUptoRow : OpenClaim := { program := "ythhibagcpjeihaagreat", sum := "4f42fbc26edfa74bce90506bd7a80e58899a3c56e63da09a9d1eb83ee13a1ed7", func := "berth/berthlaw.Pages", spec := "pages", unfollowed := true, recurses := true, plainKeys := false, apart := false, narrowed := true }
def PagesUptoSaid : Prop := pagesUptoRow.holds Tryz.pinned (OpenSpec.upto pagesSpec)

/-- 'berthlaw.Follows', WHERE WHAT IT READS IS OF BULK AT MOST 1048576: true; the input reads as it did. -/
def followsUptoRow : OpenClaim := { program := "ythhibagcpjeihaagreat", sum := "4f42fbc26edfa74bce90506bd7a80e58899a3c56e63da09a9d1eb83ee13a1ed7", func := "berth/berthlaw.Follows", spec := "follows", unfollowed := true, recurses := true, plainKeys := false, apart := false, narrowed := true }
def FollowsUptoSaid : Prop := followsUptoRow.holds Tryz.pinned (OpenSpec.upto followsSpec)

/-- 'berthlaw.Falls', WHERE WHAT IT READS IS OF BULK AT MOST 1048576: true; the input reads as it did. -/
def fallsUptoRow : OpenClaim := { program := "ythhibagcpjeihaagreat", sum := "4f42fbc26edfa74bce90506bd7a80e58899a3c56e63da09a9d1eb83ee13a1ed7", func := "berth/berthlaw.Falls", spec := "falls", unfollowed := true, recurses := true, plainKeys := false, apart := false, narrowed := true }
def FallsUptoSaid : Prop := fallsUptoRow.holds Tryz.pinned (OpenSpec.upto fallsSpec)

/-- 'berthlaw.All', WHERE WHAT IT READS IS OF BULK AT MOST 1048576: true; the input reads as it did. -/
def allUptoRow : OpenClaim := { program := "ythhibagcpjeihaagreat", sum := "4f42fbc26edfa74bce90506bd7a80e58899a3c56e63da09a9d1eb83ee13a1ed7", func := "berth/berthlaw.All", spec := "all", unfollowed := true, recurses := true, plainKeys := false, apart := false, narrowed := true }
def AllUptoSaid : Prop := allUptoRow.holds Tryz.pinned (OpenSpec.upto allSpec)

end Rows
end Go.Proofs.YthhibagcpjeihaaGreat
