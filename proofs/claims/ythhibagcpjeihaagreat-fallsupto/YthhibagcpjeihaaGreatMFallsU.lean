/- For every script of raw calls that holds at most 1048576 values in all, in every memory in which it is called: tapes may die in the middle of commands, of Packs and of openings, and fall, whatever lasts of what was not synced: each answer is the document's, what was answered for is there behind each opening, of a change that died all or nothing, and the test returns true, and nothing that was there has turned. -/
import Derived.Test.YthhibagcpjeihaaGreatMOpdToLaw19
import Derived.OpenShut
import Derived.SizedLaws
import Derived.JoinedCond
import Derived.Test.YthhibagcpjeihaaGreatMPTape2ToBulkL
open Go.Proofs.Tryz
open Option renaming none->F,some->E
open Go renaming World->U,Value->V
open Go.Value renaming slice->C
open Go.Proofs.Tryz renaming prog->T
open List renaming append_nil->dR
namespace Go.Proofs.YthhibagcpjeihaaGreat.fallsUpto
open Go.ChangeShapes Go.WideShapes Go.ChangeAt Go.RowKit
set_option linter.unusedVariables false
set_option linter.unusedSimpArgs false
theorem own:ownKnob T.godebug=F:=by kernel_rfl
theorem laid:laidOutB T=true:=by kernel_rfl
theorem trodAll_one{d:Type} {enc:TypeId×V->d} {e:Program} {f:U} {base:Nat} {spare:Nat->Bool} {held:Bool} {t0:TypeId} {args:Array V} {ds:List (DataW d)} {ps:List MemPlace} (i:DataW.TrodAll enc e f base spare held [t0] args.toList ds ps):∃c d0 a,args=#[c]/\ds=[d0]/\ps=a++[]/\DataW.Trod enc e f base spare held t0 c d0 a:=by
 obtain⟨c,r,d0,m,a,o,n,rfl,rfl,j,k⟩:=trodAll_cons i;obtain⟨rfl,rfl,rfl⟩:=trodAll_nil k;exact⟨c,d0,a,by cases args;simp_all,rfl,by simp,j⟩
set_option maxRecDepth 100000 in theorem lifted(os:Os) (M:os.Started) (u:Type) (enc:TypeId×V->u) (t:Stop.Interp):ReturnsInHanded {} checked os 6 .any ((Rows.OpenSpec.upto Rows.fallsSpec).pre6 enc T f6 Rows.fallsUptoRow.domain false) (((Rows.OpenSpec.upto Rows.fallsSpec).at t).post enc T f6 false true false false):=by
 refine returnsInHanded_of_cond (C:=checked) (s:=Rows.OpenSpec.upto Rows.fallsSpec) (k:=Rows.uptoSmall) rfl own M (by kernel_rfl) func6
  (OpenSpec.witness (enc:=enc) (C:=checked) (s:=Rows.OpenSpec.upto Rows.fallsSpec) (k:=Rows.uptoSmall) rfl false ⟨#[],#[C F 0 0],[]⟩ 8 (by kernel_rfl) (by kernel_rfl) (by kernel_rfl)
   (x:=([.nil],[],[])) (by kernel_rfl) rfl (by kernel_rfl)) ?_
 intro a base args ds gs before m j _ A _;have hval:∀(n:Nat) q r,f6.params[n]? =E q->args[n]? =E r->Value.okWide T a .any base q r:=m;have e:=j;obtain⟨L,P,i,x,rfl,_,_⟩:=j;have hA:DataW.TrodAll enc T a 0 (λ_=>true) true f6.params.toList args.toList ds L:=i;rw[params6] at hA hval;obtain⟨s,d0,p,rfl,rfl,rfl,d⟩:=trodAll_one hA;obtain⟨rfl,rfl⟩:=trodVars_none x
 have H:∃c len cap,s=C c len cap:=okWide_slice underlying22 (hval 0 22 s rfl rfl);obtain⟨c,o,cap,rfl,hS,hd⟩:=Iq H d;have G:o<=1048576:=by
  obtain⟨_,rfl⟩|⟨es,sp,rfl,hl⟩:=hd
  ·omega
  ·have:=Iw (es:=es) (sp:=sp) (by simp) A;omega
 clear i m;simp only[dR] at e d;have B:∀f∈p,f.block<a.heap.size:=λf I=>e.lt f (by simp[I]);refine(Mu c o cap G a hS).mono λO N ⟨z,D⟩=>?_;subst z;have k:=D.below;have J:=Below.trod laid (by kernel_rfl) (of_decide_eq_true (by kernel_rfl)) d k B;refine⟨_,rfl,_,[],_,[],p++[],[],e,trodAll_cons_mk (shut_bool underlying4 _) trodAll_mk0,?_,rfl,k.frame _,λw=>by cases w⟩;exact trodAll_cons_mk J trodAll_mk0
theorem proved:Rows.FallsUptoSaid:=
 OpenClaim.holds_of_cond 6 f6 rfl rfl rfl rfl rfl rfl rfl ⟨rfl,rfl,rfl,rfl,rfl⟩ rfl rfl rfl rfl rfl (by kernel_rfl) func6 (by kernel_rfl)
  (of_decide_eq_true (by kernel_rfl)) (by unfold Func.isWrapper;first|(rw[if_pos (by decide+kernel)];kernel_rfl)|(rw[if_neg (by decide+kernel)];exact⟨rfl,rfl⟩))
  (λos d c enc _ a=>lifted os d c enc a)
end Go.Proofs.YthhibagcpjeihaaGreat.fallsUpto
