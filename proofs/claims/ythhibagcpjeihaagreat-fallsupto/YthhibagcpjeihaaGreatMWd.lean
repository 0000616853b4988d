import Derived.Test.YthhibagcpjeihaaGreatMBaseToPut2
import Derived.BigQuiet
import Derived.Deep.QuietTactic
open Go.Proofs.Tryz
open Option renaming none->F
open Go renaming World->U,Value->V
open Go.Ending renaming returned->g
namespace Go.Proofs.YthhibagcpjeihaaGreat
open Go.RowKit
set_option linter.unusedVariables false
structure ft (w0:U) where
 W:U
 h:G No w0 W
theorem nO{e:Program} {id:Nat} {f:Exit->Act->U->Prop} {a:Act} {i w0:U} {d:List Oper} (n:e.follows .mixedOrders=true) (m:Region.lexB .any d.toArray=true) (k:G No w0 i) (j:wpQuiet e d.toArray (λw'=>∃c:ft w0,w'=c.W) (λa'=>∀w',(∃c:ft w0,w'=c.W)->f .normal a' w') d a):(Code.region id d.toArray true).wp e f a i:=
 wp_region_quiet (C:=λw'=>∃c:ft w0,w'=c.W) n m ⟨⟨_,k.drew⟩,rfl⟩ (by simpa using j)
theorem rF(a:U):Nonempty (ft a):=⟨⟨a,G.refl _ _⟩⟩
theorem Calls.wd{e:Program} {f:FuncId} {args:Array V} {j:U} {i:V} (a:ft j) (k:Calls e f args a.W λc w'=>c=g i/\G No a.W w'):Calls e f args a.W λc d=>c=g i/\∃o:ft j,d=o.W:=
 k.mono λ_ d ⟨m,n⟩=>⟨m,⟨d,a.h.trans n⟩,rfl⟩
theorem X.wd{d:U} {c:Nat} {cs:Array V} {f:TypeId} (i:X d c cs f) (e:ft d) (a:Nat):e.W.cell? ⟨c,a,F⟩=cs[a]? :=(e.h.has i (λj=>j)).cell a
end Go.Proofs.YthhibagcpjeihaaGreat
