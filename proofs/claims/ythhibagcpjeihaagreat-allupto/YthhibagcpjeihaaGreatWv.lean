/- For every script of raw calls that holds at most 1048576 values in all, in every memory in which it is called: every call, in every order, over several tapes that die and fall, is answered as the document answers it, and every list that came out stays its owner's, so the test returns true, and nothing that was there has turned. -/
import Derived.Test.YthhibagcpjeihaaGreatWu
import Derived.JoinedCond
open Go.Proofs.Tryz
open Option renaming none->J,some->E
open Go renaming World->U,Value->V
open Go.Value renaming slice->C
open Go.Proofs.Tryz renaming prog->h
set_option linter.unusedVariables false
set_option linter.unusedSimpArgs false
namespace Go.Proofs.YthhibagcpjeihaaGreat.allUpto
open Go.ChangeShapes Go.WideShapes Go.ChangeAt Go.RowKit
theorem own:ownKnob h.godebug=J:=by kernel_rfl
theorem laid:laidOutB h=true:=by kernel_rfl
theorem trodAll_one{c:Type}{enc:TypeId×V->c}{d:Program}{i:U}{e:Nat}{spare:Nat->Bool}{held:Bool}{t0:TypeId}{args:Array V}{ds:List (DataW c)}{ps:List MemPlace}(j:DataW.TrodAll enc d i e spare held [t0] args.toList ds ps):∃b d0 a,args=#[b]/\ds=[d0]/\ps=a++[]/\DataW.Trod enc d i e spare held t0 b d0 a:=by
 obtain⟨b,r,d0,n,a,p,o,rfl,rfl,k,l⟩:=trodAll_cons j;obtain⟨rfl,rfl,rfl⟩:=trodAll_nil l;exact⟨b,d0,a,by cases args;simp_all,rfl,by simp,k⟩
set_option maxRecDepth 100000 in theorem lifted(os:Os)(W:os.Started)(y:Type)(enc:TypeId×V->y)(x:Stop.Interp):ReturnsInHanded {} checked os 7 .any ((Rows.OpenSpec.upto Rows.allSpec).pre6 enc h f7 Rows.allUptoRow.domain false) (((Rows.OpenSpec.upto Rows.allSpec).at x).post enc h f7 false true false false):=by
 refine returnsInHanded_of_cond (C:=checked) (s:=Rows.OpenSpec.upto Rows.allSpec) (k:=Rows.uptoSmall) rfl own W (by kernel_rfl) func7
  (OpenSpec.witness (enc:=enc) (C:=checked) (s:=Rows.OpenSpec.upto Rows.allSpec) (k:=Rows.uptoSmall) rfl false ⟨#[],#[C J 0 0],[]⟩ 8 (by kernel_rfl) (by kernel_rfl) (by kernel_rfl)
   (x:=([.nil],[],[])) (by kernel_rfl) rfl (by kernel_rfl)) ?_
 intro a z args ds gs before n k _ I _;have hval:∀(o:Nat) s v,f7.params[o]? =E s->args[o]? =E v->Value.okWide h a .any z s v:=n;have e:=k;obtain⟨T,aa,j,G,rfl,_,_⟩:=k;have hA:DataW.TrodAll enc h a 0 (λ_=>true) true f7.params.toList args.toList ds T:=j;rw[params7] at hA hval;obtain⟨w,d0,r,rfl,rfl,rfl,d⟩:=trodAll_one hA;obtain⟨rfl,rfl⟩:=trodVars_none G
 have P:∃b S c,w=C b S c:=okWide_slice underlying22 (hval 0 22 w rfl rfl);obtain⟨b,p,c,rfl,hS,hd⟩:=OT P d;have O:p<=1048576:=by
  obtain⟨_,rfl⟩|⟨A,sp,rfl,Z⟩:=hd
  .omega
  .have:=Ku (es:=A) (sp:=sp) (by simp) I;omega
 clear j n;simp only[dG] at e d;have M:∀i∈r,i.block<a.heap.size:=λi Q=>e.lt i (by simp[Q]);refine(TX b p c O a hS).mono λY X ⟨H,N⟩=>?_;subst H;have l:=N.below;have R:=Below.trod laid (by kernel_rfl) (rP (by kernel_rfl)) d l M;refine⟨_,rfl,_,[],_,[],r++[],[],e,trodAll_cons_mk (shut_bool underlying4 _) trodAll_mk0,?_,rfl,l.frame _,λB=>by cases B⟩;exact trodAll_cons_mk R trodAll_mk0
theorem proved:Rows.AllUptoSaid:=
 OpenClaim.holds_of_cond 7 f7 rfl rfl rfl rfl rfl rfl rfl ⟨rfl,rfl,rfl,rfl,rfl⟩ rfl rfl rfl rfl rfl (by kernel_rfl) func7 (by kernel_rfl)
  (rP (by kernel_rfl)) (by unfold Func.isWrapper;first|(rw[D (by decide+kernel)];kernel_rfl)|(rw[f (by decide+kernel)];exact⟨rfl,rfl⟩))
  (λos c b enc _ a=>lifted os c b enc a)
end Go.Proofs.YthhibagcpjeihaaGreat.allUpto
