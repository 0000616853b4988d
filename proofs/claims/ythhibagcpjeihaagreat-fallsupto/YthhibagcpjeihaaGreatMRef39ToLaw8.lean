import Derived.Test.YthhibagcpjeihaaGreatMRef33ToRef38
import Derived.Test.YthhibagcpjeihaaGreatMLaw2ToRef43
import Derived.Test.YthhibagcpjeihaaGreatMRef19ToRef27
import Derived.Test.YthhibagcpjeihaaGreatMPg1ToWr5
import Derived.Deep.DeepCutAuto
import Derived.Deep.RegionLawGrows
import Derived.Test.YthhibagcpjeihaaGreatMPg6ToBook6N
import Derived.Test.YthhibagcpjeihaaGreatMRef24ToTPl
import Derived.Test.YthhibagcpjeihaaGreatMRef26ToFol4
import Derived.Test.YthhibagcpjeihaaGreatMDsk1ToDsk2
import Derived.Test.YthhibagcpjeihaaGreatMPTape2ToBulkL
import Derived.Test.YthhibagcpjeihaaGreatMPage1ToBook7S
import Derived.Test.YthhibagcpjeihaaGreatMRef14ToRef18
import Derived.Deep.CutRange
import Derived.Test.YthhibagcpjeihaaGreatMRef10ToOpArgs
import Derived.Test.YthhibagcpjeihaaGreatMCellsToEnc
import Derived.Test.YthhibagcpjeihaaGreatMBaseToPut2
import Derived.Deep.MidRow
import Derived.Test.YthhibagcpjeihaaGreatMPg5ToBook6S
open Go.Proofs.Tryz
open Go.Value renaming int->y,pointer->b,slice->C,bool->W,agg->l,tuple->h,ownBlock->az
open Go.IntKind renaming i64->K
open Option renaming none->F,some->E
open Go renaming World->U,Value->V
open Go.Proofs.Tryz renaming prog->T
open Go.Ending renaming returned->g
open Go.Obj renaming cells->v
open Nat renaming lt_of_lt_of_le->aG,le_trans->bF,le_refl->bK,not_lt_zero->dZ,zero_le->fJ
open List renaming length_append->aJ,getElem?_eq_getElem->cK,append_assoc->bI,eq_nil_of_length_eq_zero->fS,length_take->dj,getElem_mem->dD,length_cons->dP,append_nil->dR,take_length->eA,length_nil->im,getD_eq_getElem?_getD->nT,countP_le_length->mg,getElem?_take->lj,countP_cons->kh,length_drop->lX,getElem_append_left->qK,find?_cons->kZ,getElem?_append_right->rz
open Go.World renaming size_alloc->bj,block_lt_of_cell?->jA
open Go.Act renaming eval->Z,put->aP
namespace Go.Proofs.YthhibagcpjeihaaGreat
open Go.RowKit
open M
set_option linter.unusedVariables false
set_option linter.unusedSimpArgs false
set_option maxRecDepth 100000
set_option maxHeartbeats 8000000
theorem Ld(c:N) (i:c.kind=9) (a:e) (f d:Nat):((oF c.p a f d).f.p.at (oF c.p a f d).f.ep,(oF c.p a f d).f.S)=(fT (a.f.p.at a.f.ep) c,dg (a.f.p.at a.f.ep) a.f.S c):=by
 unfold fT dg oF;rw[if_pos i,if_pos i];rfl
theorem Le{r:U} {L:Nat->Nat} {u:Nat} {P:V} {xs:List e} {now:Int} {x:Nat->Option (O×List B)} (f:aF r L u P xs now) (hs:dt xs x) (a:N) (aa: -9223372036854775808<=a.time/\a.time<=9223372036854775807) (Y:0<=now/\now<=4611686018427387000) (hv:xs=[]->P=C F 0 0):Calls T 27 #[b (E ⟨u,0,F⟩),l (Q a)] r λm w'=>m=g (y K (aA now x a).1)/\ew r w' L u (aA now x a).2.1 (aA now x a).2.2:=by
 by_cases n:a.kind=9
 case neg=>exact J8 f hs a aa Y n hv
 have H:¬(a.kind<1\/a.kind>9):=by omega
 have J:a.kind≠8:=by omega
 have I:¬a.kind=1:=by omega
 have D:=λR (X:G No r R)=>(f.mod X (λ_ _ ah=>ah)).find a.m;by_cases hf:1<=a.m/\a.m<=20
 case neg=>
  rw[AF H J hf];obtain⟨kind,d,j,ac,q,p,o,k,time,i⟩:=a;exact(Ai u d j ac q p o k time i r kind (by simp only at *;omega) _ hf D).mono λm w' ⟨s,t⟩=>⟨s,ew.same f hs hv t⟩
 obtain⟨f1,f2⟩|⟨c,hi,f1,f2,f3⟩:=hs.find a.m hf
 ·rw[AG H J hf f2,if_neg I];rw[f1] at D;obtain⟨kind,d,j,ac,q,p,o,k,time,i⟩:=a;exact(Aj u d j ac q p o k time i r kind (by simp only at *;omega) (-1) hf (by omega) I D).mono λm w' ⟨s,t⟩=>⟨s,ew.same f hs hv t⟩
 ·rw[AH H J hf f3,if_neg I];simp only;rw[AE];have M:aH xs[c].f.p xs[c].f.S a now=if a.p.sized=true/\¬(a.p.rows* a.p.w<(ba xs[c].f.S:Int)) then 0 else 4:=by
   unfold aH;rw[if_pos n]
  have ag:=λz w=>Ld a n xs[c] z w;obtain⟨ai,cap,rfl⟩:=f.some (by omega);by_cases A:a.p.sized=true/\¬(a.p.rows* a.p.w<(ba xs[c].f.S:Int))
  ·rw[M,if_pos A,if_pos rfl];obtain⟨kind,d,j,ac,q,p,o,k,time,i⟩:=a;simp only at n;subst n;refine(KX f d j ac q p o k time i hf c hi f1 A).mono ?_;rintro m w' ⟨rfl,ab,z,w,ad,ae,af⟩;refine⟨rfl,⟨_,_,ab,ad,hs.set d hf c hi f1 (oF i xs[c] z w) rfl _ (ag z w),ae,λm=>?_⟩,af⟩;have S:=(List.set_eq_nil_iff _ _).1 m;rw[S] at hi;exact absurd hi (dZ _)
  ·rw[M,if_neg A,if_neg (by decide)];obtain⟨kind,d,j,ac,q,p,o,k,time,i⟩:=a;simp only at n;subst n;exact(KW f d j ac q p o k time i hf c hi f1 A).mono λm w' ⟨s,t⟩=>⟨s,ew.same f hs hv t⟩
set_option maxHeartbeats 4000000
theorem ai.iI{e:U} {f d:Nat->Prop} {i:Nat} {I:z} (c:ai e f i I) (s:∀a,f a->d a) (hl:∀a,d a->a<e.heap.size):ai e d i I:=by
 obtain⟨r,j,k,m,n,o,p,q⟩:=c.ex;exact⟨c.has,c.keep,c.aR,c.may,c.told,⟨r,j,k,m,n,o,p,λa t=>s a (q a t)⟩,hl⟩
theorem ai.kept{e s n:U} {w:Nat->Prop} {m H:Nat} {I:z} {pt:Nat->Option Nat} {P:Int} {fl':Nat->Option (O×List B)} {u:aO} (o:ai e w m I) (J:I.kb=E H) (L:G No e s) (c:cW s I.okp H I.now pt I.fl I.K) (hd:gH s n I.okp H pt P fl' u) (ax:u.tb=I.K.tb):∃af,ai n (grow w e n) m { I with okp:=af,now:=P,fl:=fl',K:=u }/\G w e n/\(∀a,e.heap.size<=a->a<s.heap.size->af a=0)/\G (λa=>I.okp a≠0) s n:=by
 obtain⟨⟨f,ay,Q,R,aA⟩,j⟩:=hd;obtain⟨i,ao,k,S,X,ap,Y,x⟩:=o.ex;have aB:=L.size;have aw:=j.size;have av:∀a,e.heap.size<=a->I.okp a=0:=λa c=>by
  by_cases d:I.okp a=0
  ·exact d
  ·have:=o.lt a (x a (by rw[k a d];omega));omega
 have ad:G w e n:=(L.mono (λ_ _ t=>t.elim)).trans (j.mono (λa _ t=>x a (by rw[k a t];omega)));have p:=o.mod L (λ_ _ t=>t);refine⟨f,⟨?_,?_,?_,?_,?_,?_,?_⟩,ad,λa ar au=>by rw[R a au];exact av a ar,j⟩
 ·have:dA { I with okp:=f,now:=P,fl:=fl',K:=u }=dA I:=by unfold dA;simp only[ax]
  rw[this];exact j.has p.has (λd=>by have:=k m d;omega)
 ·refine⟨λam hb=>?_,λD=>?_⟩
  ·have hb:I.kb=E am:=hb;rw[J] at hb;injection hb with hb;subst hb;obtain⟨_,hf⟩:=p.keep.some H J;have ab:=Gw c.keep.has Q.keep.has aA;refine⟨⟨ay,Q⟩,⟨λr hi N=>by rw[ab r hi];exact hf.un r hi N,λr hi es N=>?_,λa c=>⟨aG (hf.aU a c).1 aw,by show f a=0;rw[R a (hf.aU a c).1];exact(hf.aU a c).2⟩⟩⟩;obtain⟨ae,aq,ag,ah,aj,ak⟩:=hf.is r hi es N
   exact⟨ae,aq,by rw[ab r hi];exact ag,ah,uS j aj (λd=>d (hf.aU ae (by omega)).2),ak⟩
  ·have D:I.kb=F:=D;rw[J] at D;cases D
 ·exact p.aR.mod j (λa c d=>by have:=S a c;have:=k a d;omega)
 ·exact λM A=>(p.may M A).mod j (λa c d=>by have:=Y M A a c;have:=k a d;omega)
 ·exact p.told.mod j (λa c d=>by have:=X a c;have:=k a d;omega)
 ·have q:∀a,i a≠0->a<e.heap.size:=λa c=>o.lt a (x a c);refine⟨λa=>if a<e.heap.size then i a else if f a≠0 then 2 else 0,?_,λa c=>?_,λa c=>?_,λa c=>?_,λa c=>?_,λM A a c=>?_,λa c=>?_⟩
  ·show(if m<e.heap.size then i m else if f m≠0 then 2 else 0)=1;rw[if_pos (q m (by omega))];exact ao
  ·have c:f a≠0:=c;show(if a<e.heap.size then i a else if f a≠0 then 2 else 0)=2;by_cases d:a<e.heap.size
   ·rw[if_pos d];rw[R a (by omega)] at c;exact k a c
   ·rw[if_neg d,if_pos c]
  ·have:=S a c;show(if a<e.heap.size then i a else if f a≠0 then 2 else 0)=3;rw[if_pos (q a (by omega))];exact this
  ·have:=X a c;show(if a<e.heap.size then i a else if f a≠0 then 2 else 0)=4;rw[if_pos (q a (by omega))];exact this
  ·have:=ap a c;show(if a<e.heap.size then i a else if f a≠0 then 2 else 0)=5;rw[if_pos (q a (by omega))];exact this
  ·have:=Y M A a c;show(if a<e.heap.size then i a else if f a≠0 then 2 else 0)=6;rw[if_pos (q a (by omega))];exact this
  ·have c:(if a<e.heap.size then i a else if f a≠0 then 2 else 0)≠0:=c;by_cases d:a<e.heap.size
   ·rw[if_pos d] at c;exact .inl (x a c)
   ·rw[if_neg d] at c;by_cases aa:f a≠0
    ·exact .inr ⟨by omega,Q.keep.aU a aa⟩
    ·rw[if_neg aa] at c;exact absurd rfl c
 ·intro a c;obtain c|c:=c
  ·exact aG (o.lt a c) ad.size
  ·exact c.2
theorem ai.turn{w w':U} {q:Nat->Prop} {i:Nat} {I I':z} {e:qP} (o:ai w q i I) (P:iZ w e) (O:∀a,e.ow a≠0->¬q a) (m:G (λa=>a=i) w w') (ak:X w' i (dA I') 55) (ah:I'.kb=I.kb/\I'.okp=I.okp/\I'.om=I.om/\I'.now=I.now/\I'.fl=I.fl/\I'.K=I.K/\I'.tl=I.tl) (aj:I'.owt=I.owt/\I'.tob=I.tob/\I'.vs=I.vs/\I'.ns=I.ns/\I'.bs=I.bs) (r:(I'.W=e/\I'.mb=I.mb)\/(I'.W=I.W/\I'.mb=E e)):
  ai w' (λa=>q a\/e.ow a≠0) i I':=by
 obtain⟨j,D,H,t,J,L,N,u⟩:=o.ex;obtain⟨R,x,A,S,Y,aa,ab⟩:=ah;obtain⟨B,ad,ae,af,ag⟩:=aj;have p:∀a s,j a=s->s≠0->s≠1->¬a=i:=λa s d ap aq k=>by rw[k,D] at d;omega
 have am:q i:=u i (by omega);have Q:iZ w' e:=P.mod m (λa c d=>by subst d;exact O a c am);have n:∀a,j a≠0->e.ow a=0:=λa c=>by
  by_cases d:e.ow a=0
  ·exact d
  ·exact absurd (u a c) (O a d)
 refine⟨ak,?_,?_,?_,?_,?_,?_⟩
 ·rw[R,x,A,S,Y,aa,ab];exact o.keep.mod m (λa c=>p a _ (H a c) (by omega) (by omega)) (λa c=>p a _ (L a c) (by omega) (by omega))
 ·obtain⟨d,_⟩|⟨d,_⟩:=r
  ·rw[d];exact Q
  ·rw[d];exact o.aR.mod m (λa c=>p a _ (t a c) (by omega) (by omega))
 ·intro M f;obtain⟨_,d⟩|⟨_,d⟩:=r
  ·rw[d] at f;exact(o.may M f).mod m (λa c=>p a _ (N M f a c) (by omega) (by omega))
  ·rw[d] at f;injection f with f;rw[<-f];exact Q
 ·rw[B,ad,ae,af,ag];exact o.told.mod m (λa c=>p a _ (J a c) (by omega) (by omega))
 ·refine⟨λa=>if e.ow a≠0 then(if I'.W.ow a≠0 then 3 else 6) else j a,?_,λa c=>?_,λa c=>?_,λa c=>?_,λa c=>?_,λM f a c=>?_,λa c=>?_⟩
  ·show(if e.ow i≠0 then(if I'.W.ow i≠0 then 3 else 6) else j i)=1;rw[if_neg (by simpa using n i (by omega))];exact D
  ·rw[x] at c;have:=H a c;show(if e.ow a≠0 then(if I'.W.ow a≠0 then 3 else 6) else j a)=2;rw[if_neg (by simpa using n a (by omega))];exact this
  ·show(if e.ow a≠0 then(if I'.W.ow a≠0 then 3 else 6) else j a)=3;by_cases d:e.ow a≠0
   ·rw[if_pos d,if_pos c]
   ·rw[if_neg d];obtain⟨k,_⟩|⟨k,_⟩:=r
    ·rw[k] at c;exact absurd c d
    ·rw[k] at c;exact t a c
  ·rw[B] at c;have:=J a c;show(if e.ow a≠0 then(if I'.W.ow a≠0 then 3 else 6) else j a)=4;rw[if_neg (by simpa using n a (by omega))];exact this
  ·rw[A] at c;have:=L a c;show(if e.ow a≠0 then(if I'.W.ow a≠0 then 3 else 6) else j a)=5;rw[if_neg (by simpa using n a (by omega))];exact this
  ·show(if e.ow a≠0 then(if I'.W.ow a≠0 then 3 else 6) else j a)=6;obtain⟨_,k⟩|⟨ao,k⟩:=r
   ·rw[k] at f;have:=N M f a c;rw[if_neg (by simpa using n a (by omega))];exact this
   ·rw[k] at f;injection f with f;rw[<-f] at c;rw[if_pos c,ao];have:I.W.ow a=0:=by
     by_cases d:I.W.ow a=0
     ·exact d
     ·have:=n a (by rw[t a d];omega);exact absurd this c
    rw[if_neg (by simpa using this)]
  ·have c:(if e.ow a≠0 then(if I'.W.ow a≠0 then 3 else 6) else j a)≠0:=c;by_cases d:e.ow a≠0
   ·exact .inr d
   ·rw[if_neg d] at c;exact .inl (u a c)
 ·intro a c;obtain c|c:=c
  ·exact aG (o.lt a c) m.size
  ·exact aG (P.aR.aU a c) m.size
def da(I:z) (a:N):Int×aO:=cV I.K (ay I.now I.fl) (ag I.now [J I.now a])
theorem Bq{c:aO} {a d:List Int} (e:c.live=false):cV c a d=(17,c):=by
 unfold cV iw gp;simp[e]
theorem Lf(c:aO) (a d:List Int):(cV c a d).2.tb=c.tb:=by
 unfold cV iw gp;simp only
 repeat' split
 all_goals rfl
theorem Br{a:aO} {c:List Int} (d:a.live=true):(gp a c).1=0\/(gp a c).1=15\/(gp a c).1=16:=by
 unfold gp fM;rw[if_neg (by simp[d])];simp only
 repeat' split
 all_goals simp
theorem Lg{c:aO} {a:List Int} (d:c.live=true):((iw c a).1=0/\(iw c a).2.live=true)\/(iw c a).1=15\/(iw c a).1=16:=by
 unfold iw;rw[if_neg (by simp[d])];simp only
 repeat' split
 all_goals simp[d]
theorem Lh{c:aO} {a e:List Int} (f:c.live=true):(cV c a e).1=0\/(cV c a e).1=15\/(cV c a e).1=16:=by
 unfold cV;by_cases i:c.torn=true
 ·rw[if_pos i];obtain⟨d,j⟩|d|d:=Lg (a:=a) f
  ·rw[if_pos d];exact Br j
  ·rw[if_neg (by omega)];exact .inr (.inl d)
  ·rw[if_neg (by omega)];exact .inr (.inr d)
 ·rw[if_neg i];exact Br f
def pI(I:z) (a:N) (I':z):Prop:=
 ((aA I.now I.fl a).1≠0/\∃c,I'={ I with okp:=c })\/
 ((aA I.now I.fl a).1=0/\I.sh=true/\∃c,I'={ I with okp:=c })\/
 ((aA I.now I.fl a).1=0/\I.sh=false/\(da I a).1=0/\∃c d,d.now=(aA I.now I.fl a).2.1/\d.fl=(aA I.now I.fl a).2.2/\
  I'={ I with okp:=c,W:=d,now:=(aA I.now I.fl a).2.1,fl:=(aA I.now I.fl a).2.2,K:=(da I a).2,ch:=I.ch+1,most:=max I.most (bB d.xs) })\/
 ((aA I.now I.fl a).1=0/\I.sh=false/\(da I a).1=15/\∃c,I'={ I with okp:=c,K:=(da I a).2 })\/
 ((aA I.now I.fl a).1=0/\I.sh=false/\(da I a).1=16/\∃c d,d.now=(aA I.now I.fl a).2.1/\d.fl=(aA I.now I.fl a).2.2/\
  I'={ I with okp:=c,K:=(da I a).2,sh:=true,mb:=E d,ch:=I.ch+1 })
theorem tB{d:U} {S:Nat->Prop} {p tb:Nat} {c:u} {cs:Array V} (e:X d p cs 55) (j:cs[0]? =E (b (E ⟨tb,0,F⟩))) (n:ae d S tb c) (hf:c.fuse=0):Calls T 22 #[b (E ⟨p,0,F⟩)] d λf w'=>f=g (W true)/\ae w' S tb c/\G (· =tb) d w':=by
 have a:=ug n 3 (by omega);have hs:eX c 3=(false,c):=by unfold eX;rw[if_pos hf]
 rw[hs] at a;have a:=i a;have s:=e.cell 0;rw[j] at s;have t:=e.lt;clear e n j hf;go_enter func22,ntmps22;go_wp2_with fail;refine(k a).mono ?_;rintro f w ⟨rfl,m,o⟩;have q:=i m;have r:=i o;clear m o a;go_wp2;go_ret;exact⟨rfl,k q,k r⟩
structure qQ (w wx:U) (O:Nat->Prop) (ob b0:Nat) (I1:z) (cs:Array V):Prop where
 one:ai wx (grow O w wx) ob I1
 mod:G O w wx
 box:X wx b0 cs 41
 b0:I1.okp b0=0/\w.heap.size<=b0
theorem qQ.still{n o p:U} {i:Nat->Prop} {k b0:Nat} {f:z} {cs:Array V} (c:qQ n o i k b0 f cs) (d:G No o p):qQ n p i k b0 f cs:=
 ⟨(c.one.mod d (λ_ _ e=>e)).iI (λj a=>a.imp id (λm=>⟨m.1,aG m.2 d.size⟩)) (λj a=>by
  obtain a|a:=a
  ·exact aG (c.one.lt j (.inl a)) d.size
  ·exact a.2),c.mod.trans (d.mono (λ_ _ e=>e.elim)),d.has c.box (λe=>e),c.b0⟩
theorem ai.pJ{m w':U} {x:Nat->Prop} {t:Nat} {I:z} {A:u} (f:ai m x t I) (i:ae w' (λa=>I.okp a=30) I.K.tb A) (d:G (λa=>I.okp a=30) m w'):ai w' x t { I with K:={ I.K with T:=A } }:=by
 obtain⟨O,B,D,H,J,L,N,aa⟩:=f.ex;have j:∀a k,O a=k->k≠2->¬I.okp a=30:=λa k am ao e=>by have:=D a (by omega);omega
 refine⟨d.has f.has (j t _ B (by omega)),⟨λn hb=>?_,λp=>?_⟩,f.aR.mod d (λa c=>j a _ (H a c) (by omega)),λM P=>(f.may M P).mod d (λa c=>j a _ (N M P a c) (by omega)),f.told.mod d (λa c=>j a _ (J a c) (by omega)),⟨O,B,D,H,J,L,N,aa⟩,λa c=>aG (f.lt a c) d.size⟩
 ·obtain⟨⟨pt,e⟩,o⟩:=f.keep.some n hb;have Q:¬I.okp n=30:=by rw[e.keep.aW];omega
  refine⟨⟨pt,⟨⟨d.has e.keep.has Q,e.keep.aW,λa c=>aG (e.keep.aU a c) d.size,e.keep.gone,λk ak aj p hf=>?_⟩,e.ptr,e.file,e.torn,i⟩⟩,?_⟩
  ·obtain⟨b',ad,af,ag⟩:=e.keep.here k ak aj p hf;exact⟨b',ad,af,ag.mod d (λa c ap=>by omega)⟩
  ·have hc:∀s w,m.cell? ⟨n,s,F⟩=E w->w'.cell? ⟨n,s,F⟩=E w:=λs w hc=>by
    have ah:=jA m _ hc;rw[World.cell?_of_block (w:=m) (d.block _ ah Q)];exact hc
   exact⟨λq hi i=>hc _ _ (o.un q hi i),λq hi es i=>by
    obtain⟨r,ab,R,S,X,Y⟩:=o.is q hi es i
    exact⟨r,ab,hc _ _ R,S,uS d X (j r _ (L r (by omega)) (by omega)),Y⟩,λa c=>⟨aG (o.aU a c).1 d.size,(o.aU a c).2⟩⟩
 ·exact⟨i,λa c=>aG ((f.keep.none p).2 a c) d.size⟩
theorem Li(I:z) (e:Nat->Nat) (now:Int) (c:Nat->Option (O×List B)) (a:aO) (d:a.tb=I.K.tb):dA { I with okp:=e,now:=now,fl:=c,K:=a }=dA I:=by
 unfold dA;simp only[d]
theorem Lj(I:z) (a:N):(dV I.now I.fl I.K a).2.2.2.tb=I.K.tb:=by
 unfold dV
 repeat' split
 all_goals first|rfl|exact Lf _ _ _
theorem Lk(I:z) (e:N) {m p f r:Int} {n fl':Nat->Option (O×List B)} {q:aO} (a:dV I.now I.fl I.K e=(m,p,n,q)) (s:aA I.now I.fl e=(f,r,fl')):(f≠0->m=f/\p=I.now/\n=I.fl/\q=I.K)/\(f=0->(da I e).1=m/\(da I e).2=q/\(m=0->p=r/\n=fl')/\(m≠0->p=I.now/\n=I.fl)):=by
 unfold dV at a;rw[s] at a;unfold da;by_cases o:f=0
 ·refine⟨λc=>absurd o c,λ_=>?_⟩;rw[if_neg (by simpa using o)] at a;by_cases hs:(cV I.K (ay I.now I.fl) (ag I.now [J I.now e])).1=0
  ·rw[if_pos hs] at a;simp only[Prod.mk.injEq] at a;obtain⟨d,i,j,k⟩:=a;exact⟨by rw[hs,d],k,λ_=>⟨i.symm,j.symm⟩,λc=>absurd d.symm c⟩
  ·rw[if_neg hs] at a;simp only[Prod.mk.injEq] at a;obtain⟨d,i,j,k⟩:=a;exact⟨d,k,λc=>absurd (d.trans c) hs,λ_=>⟨i.symm,j.symm⟩⟩
 ·refine⟨λ_=>?_,λc=>absurd c o⟩;rw[if_pos o] at a;simp only[Prod.mk.injEq] at a;obtain⟨d,i,j,k⟩:=a;exact⟨d.symm,i.symm,j.symm,k.symm⟩
theorem vU{m:U} {q:Nat->Prop} {j M:Nat} {I:z} (ax:ai m q j I) (aS:I.kb=E M) (a:N) (ck: -9223372036854775808<=a.time/\a.time<=9223372036854775807) (cg:0<=I.now/\I.now<=4611686018427387000) (cO:0<=I.most/\I.most<=1000000) (cM:0<=I.ch/\I.ch<=1099511627776) (x:I.sh= !I.K.live) (b8:I.W.now=I.now/\I.W.fl=I.fl)
  (bc:∀ad pt,cW ad I.okp M I.now pt I.fl I.K->Calls T 25 #[b (E ⟨M,0,F⟩),l (Q a)] ad λf w'=>f=g (y K (dV I.now I.fl I.K a).1)/\gH ad w' I.okp M pt (dV I.now I.fl I.K a).2.1 (dV I.now I.fl I.K a).2.2.1 (dV I.now I.fl I.K a).2.2.2) (bZ:(aA I.now I.fl a).1=0->(da I a).1=15->¬(2* I.most+60* (I.ch+1)+180<=(da I a).2.T.room)) (b1:(aA I.now I.fl a).1=0->(da I a).1=16->(da I a).2.T.fuse=0):
  Calls T 15 #[b (E ⟨j,0,F⟩),l (Q a)] m λf w'=>f=g (W true)/\gR m w' q j (pI I a):=by
 obtain⟨⟨bn,A,w,o⟩,a6⟩:∃cC,dV I.now I.fl I.K a=cC:=⟨_,rfl⟩;obtain⟨⟨b4,aU,aQ⟩,a5⟩:∃cx,aA I.now I.fl a=cx:=⟨_,rfl⟩;have bd:=i (Lk I a a6 a5);have bx:o.tb=I.K.tb:=by
  have b7:=Lj I a;rw[a6] at b7;exact b7
 have bT:=i λ(ad:U) (cp:Nat->Nat) (bD:Nat) (cw:V) (xs:List e) (cQ:aF ad cp bD cw xs I.now) (hs:dt xs I.fl) (hv:xs=[]->cw=C F 0 0)=>(show Calls T 27 #[b (E ⟨bD,0,F⟩),l (Q a)] ad λf w'=>f=g (y K b4)/\ew ad w' cp bD aU aQ from by
  have:=Le cQ hs a ck cg hv
  rw[a5] at this
  exact this)
 have J:=i a5;simp only[a6] at bc;clear a6 a5;have bl:=i ((G.refl No m).alloc (v (Q a) 41));have aE:=i (X.new m (Q a) 41);have aW:=i (ax.mod (k bl) (λ_ _ Y=>Y));obtain⟨⟨pt,bv⟩,_⟩:=(k aW).keep.some M aS;have bO:=i bv;have bG:=i (bc _ pt (bv.aD ((G.refl No _).drew)))
 have bJ:=i λaD (hd:gH (m.alloc (v (Q a) 41)).drew aD I.okp M pt A w o)=>(show ∃n,qQ m aD q j m.heap.size { I with okp:=n,now:=A,fl:=w,K:=o } (Q a) from by
  obtain⟨n,cV,cX,cY,cZ⟩:=ax.kept aS (k bl).drew ((k bO).aD ((G.refl No _).drew)) hd bx
  have ay:m.heap.size<(m.alloc (v (Q a) 41)).drew.heap.size:=(k aE).lt
  refine⟨n,cV,cX,cZ.has (k aE).drew (λf=>?_),cY _ (bK _) ay,bK _⟩
  obtain⟨aN,ak,aM,_,_,_,_,L⟩:=ax.ex
  have:=ax.lt _ (L _ (by rw[aM _ f];omega))
  omega)
 have bP:=i λn now cI (bW:aO) (f:bW.tb=I.K.tb)=>Li I n now cI bW f
 have aZ:=i (show I.sh=true->(da I a).1=17/\(da I a).2=I.K from λf=>by
  rw[x] at f
  have:I.K.live=false:=by simpa using f
  unfold da
  rw[Bq this]
  exact⟨rfl,rfl⟩)
 have aY:=i (show I.sh=false->(da I a).1=0\/(da I a).1=15\/(da I a).1=16 from λf=>by
  rw[x] at f
  exact Lh (by simpa using f))
 have aK:=i bx;have aH:=i bZ;have aI:=i b1;have aa:=i ax;have aL:=i b8;clear ax ck cg bv bc bZ b1 bx x b8;unfold Q at *;go_enter func15,ntmps15;go_upto_region 1 with fail;generalize bz:m.alloc (v #[y K a.kind,y K a.m,y K a.j,y K a.ac,y K a.bN,y K a.bO,y K a.aI,y K a.cls,y K a.time,y K a.p.rows,y K a.p.w,y K a.p.front,y K a.p.I,y K a.p.R,y K a.p.n,y K a.p.f] 41)=c2 at *
 have ak:c2.cell? ⟨j,1,F⟩=E (b (E ⟨M,0,F⟩)):=by
  have:=(k aW).has.cell 1;rw[show(dA I)[1]? =E (fj I.kb) from rfl,aS] at this;exact this
 have cS:=(k aW).has.lt;have cD:=(k aE).cell;have cF:=(k aE).lt;generalize b9:m.heap.size=b0 at *;have cy:=i b9;clear bz b9;go_cut [5] (λbA aD=>bA=y K bn/\Hid (∃n,qQ m aD q j b0 { I with okp:=n,now:=A,fl:=w,K:=o } #[y K a.kind,y K a.m,y K a.j,y K a.ac,y K a.bN,y K a.bO,y K a.aI,y K a.cls,y K a.time,y K a.p.rows,y K a.p.w,y K a.p.front,y K a.p.I,y K a.p.R,y K a.p.n,y K a.p.f]))
 case first=>
  go_region_law (refine eZ rfl 25 _ _ rfl #[b (E ⟨M,0,F⟩),l #[y K a.kind,y K a.m,y K a.j,y K a.ac,y K a.bN,y K a.bO,y K a.aI,y K a.cls,y K a.time,y K a.p.rows,y K a.p.w,y K a.p.front,y K a.p.I,y K a.p.R,y K a.p.n,y K a.p.f]] (by simp[Z,aP]) (λad=>by kernel_rfl) (y K bn) _ (k bG) ?_;intro dd cN)
  all_goals go_wp2
  all_goals go_meet
  all_goals exact⟨rfl,(k bJ) _ cN⟩
 case rest=>
  obtain⟨rfl,aR⟩:=hcut;obtain⟨n,aR⟩:=k aR;have ab:=i aR;have a0:=i (show m.heap.size<=wc.heap.size from aR.mod.size)
  apply_assumption
  clear bG bJ aW aE bl ak cS cD cF aR bO;have a7:=(k ab).one.has;rw[(k bP) n A w o (k aK)] at a7;have aM:wc.cell? ⟨j,2,F⟩=E (b (E ⟨I.W.wb,0,F⟩)):=a7.cell 2;have cT:=a7.lt;have bE:=i (KY (k ab).one.aR.aR (k ab).one.aR.tidy);clear a7;go_wp2_with fail;refine(k bE).mono ?_;rintro f de ⟨rfl,dc,df,c6,aq,cl⟩;have bk:=i ((k ab).still aq.mod)
  have bU:=i ((k bT) _ _ _ _ _ (by have:=aq.aR;rw[(k aL).1] at this;exact this) (by have:=(k ab).one.aR.same.congr aq.len aq.same;rw[(k aL).2] at this;exact this) cl);have bf:=i aq.new;have bm:=i aq.mod;have cE:=(k bk).box.cell;have cG:=(k bk).box.lt;clear bE aq cl aM cT bT;generalize cb:wc.heap.size=r at *;have H:=i cb;clear cb;go_wp2_with fail;refine(k bU).mono ?_;rintro f t ⟨rfl,cR⟩
  obtain⟨⟨ag,P,D,cn,cj,ch,cm⟩,cf⟩:=cR
  have a1:G No wc t:=(k bm).trans' cf (λc d hl=>by
   have:=(k bf) c d
   have:=k H
   omega)
  have a4:=i ((k ab).one.mod a1 (λ_ _ Y=>Y));have bY:=i ((k ab).mod.trans (a1.mono (λ_ _ Y=>Y.elim)))
  have ah:=i (show ∀c,D c≠0->r<=c from λc d=>by
   obtain f|f:=ch c d
   ·have:=(k bf) c f
    have:=k H
    omega
   ·have:=(k bm).size
    have:=k H
    omega)
  have b3:=i (show iZ t ⟨r,D,ag,P,aU,aQ⟩ from⟨cn,cj,cm⟩);have af:=(k a4).has;rw[(k bP) n A w o (k aK)] at af;have bN:=i af;obtain⟨⟨kQ,cd⟩,_⟩:=(k a4).keep.some M aS;have cP:=cd.tape.room;obtain⟨cH,bw,ci⟩:=cP;rw[k aK] at bw;have bQ:=i λaB=>rC I.K.tb o.T.room (t.drewN aB) cH (bw.drewN aB) ci;have bL:=i λaB=>vg I.most I.ch o.T.room cO cM (t.drewN aB)
  have t0:t.cell? ⟨j,0,F⟩=E (b (E ⟨I.K.tb,0,F⟩)):=af.cell 0;have t5:t.cell? ⟨j,5,F⟩=E (y K I.most):=af.cell 5;have t6:t.cell? ⟨j,6,F⟩=E (y K I.ch):=af.cell 6;have t7:t.cell? ⟨j,7,F⟩=E (W I.sh):=af.cell 7;have c0:=af.lt;have bR:=i a1.size;clear cf cn cj ch cm a1 bk bU bf bm cE cG ab af cd bw ci;go_upto_region 4 with fail
  go_cut [8] (λbA aD=>bA=W (decide (2* I.most+60* (I.ch+1)+180<=o.T.room))/\∃aB,aD=t.drewN aB)
  case first=>
   go_quiet (first|(go_at_call 28;exact Calls.quiet_of_same ((k bQ) _))|(go_at_call 21;exact Calls.quiet_of_same ((k bL) _)));go_wp2;go_meet;exact⟨rfl,_,rfl⟩
  case rest=>
   obtain⟨rfl,aC,rfl⟩:=hcut
   apply_assumption
   clear bQ bL;have B:=i ((k a4).mod ((G.refl No t).drewN aC) (λ_ _ Y=>Y));have s:=i ((k bY).drewN aC);have ae:=i ((k b3).mod ((G.refl No t).drewN aC) (λ_ _ Y=>Y));have u:=i ((k bN).drewN aC);have bS:=i (show wc.heap.size<=(t.drewN aC).heap.size from k bR);clear t0 t5 t6 t7 c0 a4 bY b3 bN bR;generalize t.drewN aC=p at *;obtain⟨bo,bp⟩:=k bd;by_cases ay:b4=0
   case neg=>
    obtain⟨rfl,rfl,rfl,rfl⟩:=bo ay;have c5:(bn !=0)=true:=by simpa using ay
    have R:=i (show gR m p q j (pI I a) from⟨⟨_,(k B).iI (λc d=>d.imp id (λO=>⟨O.1,by have:=k bS;omega⟩)) (λc d=>by
     obtain d|d:=d
     ·exact aG ((k aa).lt c d) (k s).size
     ·exact d.2),.inl ⟨by rw[k J];exact ay,n,rfl⟩⟩,k s⟩)
    clear bo bp bd J aL aZ aY aH aI ah H B s ae u;go_wp2;go_ret;exact⟨rfl,k R⟩
   subst ay;obtain⟨cq,cr,ct,cu⟩:=bp rfl;have av:=i (show(aA I.now I.fl a).1=0 by rw[k J]);have aj:=i cq;have aw:=i cr;have cA:=i ct;have bh:=i cu;clear bo bp cq cr ct cu bd;have aX:=i (show ∀c,grow q m wc c->grow q m p c from λc d=>d.imp id (λO=>⟨O.1,by have:=k bS;omega⟩))
   have bM:=i (show ∀c,grow q m p c->c<p.heap.size from λc d=>by
    obtain d|d:=d
    ·exact aG ((k aa).lt c d) (k s).size
    ·exact d.2)
   have cv:p.cell? ⟨j,7,F⟩=E (W I.sh):=(k u).cell 7;have db:=(k u).lt;have c':=(k u).frozen
   cases x:I.sh with
   |true=>
    obtain⟨b5,b6⟩:=(k aZ) x;rw[k aj] at b5;subst b5;rw[k aw] at b6;obtain⟨am,ao⟩:=(k bh) (by omega);subst b6 am ao;have R:=i (show gR m p q j (pI I a) from⟨⟨_,(k B).iI (k aX) (k bM),.inr (.inl ⟨k av,x,n,rfl⟩)⟩,k s⟩);rw[x] at cv;clear J aL aZ aY aH aI ah H B s ae u x;go_wp2;go_ret;exact⟨rfl,k R⟩
   |false=>
    rw[x] at cv;have bi:=i x;have ca:=(k aY) x;rw[k aj] at ca;clear aZ aY x;obtain f|f|f:=ca
    ·subst f;obtain⟨am,ao⟩:=(k cA) rfl;subst am ao;have c8:p.cell? ⟨j,2,F⟩=E (b (E ⟨I.W.wb,0,F⟩)):=(k u).cell 2;have c1:p.cell? ⟨j,6,F⟩=E (y K I.ch):=(k u).cell 6;have bz:K.wrap (I.ch+1)=I.ch+1:=ey _ (by omega) (by omega);have au:G (λc=>c=j) p ((p.setCell ⟨j,2,F⟩ (b (E ⟨r,0,F⟩))).setCell ⟨j,6,F⟩ (y K (I.ch+1))):=((G.refl _ p).at 2 _).at 6 _
     have aT:((dA I).setIfInBounds 2 (b (E ⟨r,0,F⟩))).setIfInBounds 6 (y K (I.ch+1))=dA { I with okp:=n,W:=⟨r,D,ag,P,A,w⟩,now:=A,fl:=w,K:=o,ch:=I.ch+1 }:=by
      unfold dA;rw[<-k aK];rfl
     have ap:=((k u).set 2 (b (E ⟨r,0,F⟩))).set 6 (y K (I.ch+1));rw[aT] at ap
     have a3:=i (show ∀c,D c≠0->¬grow q m wc c from λc d S=>by
      have bq:=(k ah) c d
      have bs:=k H
      have:=(k B).ex
      obtain⟨aN,ak,_,_,_,_,_,L⟩:=this
      obtain S|S:=S
      ·have:=(k aa).lt c S
       have:=(k s).size
       have c3:=k cy
       have bt:=k a0
       omega
      ·omega)
     have bV:=i (Bj (I:={ I with okp:=n,W:=⟨r,D,ag,P,A,w⟩,now:=A,fl:=w,K:=o,ch:=I.ch+1 }) ap ((k ae).mod au (λc d f=>by
      obtain⟨aN,ak,_,_,_,_,_,L⟩:=(k B).ex
      exact(k a3) c d (by rw[f];exact L j (by omega)))) (bB P) rfl)
     have a2:=i au;clear au ap aT;go_wp2_with fail;refine(k bV).mono ?_;rintro f bb ⟨rfl,cc,ce⟩;have a9:=(k a2).trans ce;have aV:=(k B).turn (I':={ I with okp:=n,W:=⟨r,D,ag,P,A,w⟩,now:=A,fl:=w,K:=o,ch:=I.ch+1,most:=max I.most (bB P) }) (k ae) (k a3) a9 cc ⟨rfl,rfl,rfl,rfl,rfl,rfl,rfl⟩ ⟨rfl,rfl,rfl,rfl,rfl⟩ (.inl ⟨rfl,rfl⟩);have bC:=a9.size
     have R:=i (show gR m bb q j (pI I a) from⟨⟨_,aV.iI (λc d=>by
      obtain d|d:=d
      ·exact((k aX) c d).imp id (λO=>⟨O.1,by omega⟩)
      ·have bq:=(k ah) c d
       have bs:=k H
       have bt:=k a0
       have cL:=(k ae).aR.aU c d
       exact .inr ⟨by omega,by omega⟩) (λc d=>by
      obtain d|d:=d
      ·exact aG ((k aa).lt c d) (bF (k s).size bC)
      ·exact d.2),.inr (.inr (.inl ⟨k av,k bi,by rw[k aj],n,⟨r,D,ag,P,A,w⟩,by rw[k J],by rw[k J],by rw[k J,k aw]⟩))⟩,(k s).trans (a9.mono (λc _ f=>by
      obtain⟨aN,ak,_,_,_,_,_,L⟩:=(k aa).ex
      rw[f];exact L j (by omega)))⟩)
     clear cc ce a9 aV bV;go_wp2;go_ret;exact⟨rfl,k R⟩
    ·subst f;obtain⟨am,ao⟩:=(k bh) (by omega);subst am ao;have ar:=(k aH) (k av) (k aj);rw[k aw] at ar;have c4:decide (2* I.most+60* (I.ch+1)+180<=o.T.room)=false:=by simpa using ar
     have R:=i (show gR m p q j (pI I a) from⟨⟨_,(k B).iI (k aX) (k bM),.inr (.inr (.inr (.inl ⟨k av,k bi,k aj,n,by rw[k aw]⟩)))⟩,k s⟩);clear J aL aH aI ah H B s ae u ar;go_wp2;go_ret;exact⟨rfl,k R⟩
    ·subst f;obtain⟨am,ao⟩:=(k bh) (by omega);subst am ao;have ar:=(k aI) (k av) (k aj);rw[k aw] at ar;have cz:=i ar;clear ar aH aI;have c9:p.cell? ⟨j,3,F⟩=E (fj (I.mb.map (·.wb))):=(k u).cell 3;have c1:p.cell? ⟨j,6,F⟩=E (y K I.ch):=(k u).cell 6;have bz:K.wrap (I.ch+1)=I.ch+1:=ey _ (by omega) (by omega)
     have au:G (λc=>c=j) p (((p.setCell ⟨j,7,F⟩ (W true)).setCell ⟨j,3,F⟩ (b (E ⟨r,0,F⟩))).setCell ⟨j,6,F⟩ (y K (I.ch+1))):=(((G.refl _ p).at 7 _).at 3 _).at 6 _;have aT:(((dA I).setIfInBounds 7 (W true)).setIfInBounds 3 (b (E ⟨r,0,F⟩))).setIfInBounds 6 (y K (I.ch+1))=dA { I with okp:=n,K:=o,sh:=true,mb:=E ⟨r,D,ag,P,aU,aQ⟩,ch:=I.ch+1 }:=by
      unfold dA;rw[<-k aK];rfl
     have ap:=(((k u).set 7 (W true)).set 3 (b (E ⟨r,0,F⟩))).set 6 (y K (I.ch+1));rw[aT] at ap
     have a3:=i (show ∀c,D c≠0->¬grow q m wc c from λc d S=>by
      have bq:=(k ah) c d
      have bs:=k H
      obtain S|S:=S
      ·have:=(k aa).lt c S
       have bt:=k a0
       omega
      ·omega)
     have ba:=(k B).turn (I':={ I with okp:=n,K:=o,sh:=true,mb:=E ⟨r,D,ag,P,aU,aQ⟩,ch:=I.ch+1 }) (k ae) (k a3) au ap ⟨rfl,rfl,rfl,rfl,rfl,rfl,rfl⟩ ⟨rfl,rfl,rfl,rfl,rfl⟩ (.inr ⟨rfl,rfl⟩);obtain⟨⟨c7,bu⟩,_⟩:=ba.keep.some M aS;have bH:=i (tB (tb:=o.tb) ba.has rfl bu.tape (k cz));have cB:=i ba;have a2:=i au;have b2:=i (show n o.tb=30 from bu.tape.cd);clear au ap aT ba bu;go_wp2_with fail
     refine(k bH).mono ?_;rintro f bb ⟨rfl,t10,a8⟩;have aV:=(k cB).pJ t10 (a8.mono (λc _ (f:c=o.tb)=>by show n c=30;rw[f];exact k b2));have bC:=bF (k a2).size a8.size
     have co:G q m bb:=((k s).trans ((k a2).mono (λc _ f=>by
      obtain⟨aN,ak,_,_,_,_,_,L⟩:=(k aa).ex
      rw[f];exact L j (by omega)))).trans' a8 (λc (f:c=o.tb) hl=>by
       subst f
       have:=(k B).ex
       obtain⟨aN,ak,aM,_,_,_,_,L⟩:=this
       have:=L o.tb (by rw[aM o.tb (by show n o.tb≠0;rw[k b2];omega)];omega)
       obtain O|O:=this
       ·exact O
       ·omega)
     have R:=i (show gR m bb q j (pI I a) from⟨⟨_,aV.iI (λc d=>by
      obtain d|d:=d
      ·exact((k aX) c d).imp id (λO=>⟨O.1,by omega⟩)
      ·have bq:=(k ah) c d
       have bs:=k H
       have bt:=k a0
       have cL:=(k ae).aR.aU c d
       exact .inr ⟨by omega,by omega⟩) (λc d=>by
      obtain d|d:=d
      ·exact aG ((k aa).lt c d) (bF (k s).size bC)
      ·exact d.2),.inr (.inr (.inr (.inr ⟨k av,k bi,k aj,n,⟨r,D,ag,P,aU,aQ⟩,by rw[k J],by rw[k J],by rw[k aw]⟩)))⟩,co⟩)
     clear t10 a8 aV bH co;go_wp2;go_ret;exact⟨rfl,k R⟩
def du(p:O) (d:List B) (a:Nat):Int×Int×Int:=if a=0 then(0,0,0) else match d[a - 1]? with
 |some c=>(c.row,c.P,p.ep)
 |none=>(0,0,0)
theorem Bs(p:O) (c:List B) (a:Nat) (d:a<c.length):du p c (a+1)=(c[a].row,c[a].P,p.ep):=by
 unfold du;rw[if_neg (by omega),Nat.add_sub_cancel,cK d]
theorem Ll{p:O} {c:List B} (j:L p c) (a:Nat) (f:a<=c.length):bY p (du p c a).1 (du p c a).2.1 (du p c a).2.2=((a:Int),0):=by
 cases a with
 |zero=>rfl
 |succ a=>
  rw[Bs p c a f];obtain⟨d,e⟩:=aM.wf.jd j (i:=a) f;simp only at d e;have i:=d;simp only[O.has,decide_eq_true_eq] at i;unfold bY;rw[if_neg (by omega),if_neg (by simp),if_neg (by simp[d]),e];simp
theorem Bt{p:O} {a:List B} (e:L p a) (c S:Nat) (d:c<=a.length) (hS:1<=S/\S<=30):eP p a (du p a c).1 (du p a c).2.1 (du p a c).2.2 (S:Int)=⟨(a.drop c).take S,(eE (du p a c).1 (du p a c).2.1 ((a.drop c).take S)).1,(eE (du p a c).1 (du p a c).2.1 ((a.drop c).take S)).2,p.ep,decide (c+((a.drop c).take S).length<a.length),0⟩:=by
 unfold eP;rw[if_neg (by omega),Ll e c d];simp
theorem Lm{p:O} {c:List B} (f:L p c) (a S:Nat) (hS:1<=S/\S<=30) (i:a+S<c.length):eP p c (du p c a).1 (du p c a).2.1 (du p c a).2.2 (S:Int)=⟨(c.drop a).take S,(du p c (a+S)).1,(du p c (a+S)).2.1,p.ep,true,0⟩/\(du p c (a+S)).2.2=p.ep/\((c.drop a).take S).length=S/\c.take a++(c.drop a).take S=c.take (a+S):=by
 have hlen:((c.drop a).take S).length=S:=by rw[dj,lX];omega
 obtain⟨d,rfl⟩:∃d,S=d+1:=⟨S - 1,by omega⟩;have e:((c.drop a).take (d+1)).getLast? =E c[a+d]:=by
  rw[List.getLast?_eq_getElem?,hlen,Nat.add_sub_cancel,lj,if_pos (by omega),List.getElem?_drop,cK (by omega)]
 rw[Bt f a (d+1) (by omega) hS,hlen,show a+(d+1)=(a+d)+1 by omega,Bs p c (a+d) (by omega)];refine⟨?_,rfl,rfl,?_⟩
 ·unfold eE;rw[e];simp;omega
 ·exact List.take_add.symm
theorem Ln{p:O} {a:List B} (i:L p a) (c S:Nat) (hS:1<=S/\S<=30) (f:c<=a.length) (k:a.length<=c+S):∃j d,eP p a (du p a c).1 (du p a c).2.1 (du p a c).2.2 (S:Int)=⟨a.drop c,j,d,p.ep,false,0⟩:=by
 have e:(a.drop c).take S=a.drop c:=List.take_of_length_le (by rw[lX];omega);rw[Bt i c S f hS,e];have:decide (c+(a.drop c).length<a.length)=false:=by simp;omega
 rw[this];exact⟨_,_,rfl⟩
def Diff(now:Int) (c:Nat->Option (O×List B)) (e:Int) (fl':Nat->Option (O×List B)):Prop:=
 now≠e\/(now=e/\∃a,1<=a/\a<=20/\(∀d,d<a->c d=fl' d)/\((c a≠F/\fl' a=F)\/∃f j i k,c a=E (f,j)/\fl' a=E (i,k)/\f.ep≠i.ep))
theorem Lo{n now m:Int} {c fl':Nat->Option (O×List B)} {a:N} (k:bh n now c) (hd:aA now c a=(0,m,fl')):Diff m fl' now c:=by
 unfold aA at hd;split at hd
 ·exact absurd hd (by simp)
 ·split at hd
  ·split at hd
   ·injection hd with _ hd;injection hd with t _;exact .inl (by omega)
   ·exact absurd hd (by simp)
  ·split at hd
   ·exact absurd hd (by simp)
   ·rename_i hf;have hf:1<=a.m/\a.m<=20:=by omega
    split at hd
    ·rename_i f;split at hd
     ·split at hd
      ·injection hd with _ hd;injection hd with i j;subst i;subst j;refine .inr ⟨rfl,a.m.toNat,by omega,by omega,λd r=>?_,.inl ⟨by simp,f⟩⟩;show(if d=a.m.toNat then _ else c d)=c d;rw[if_neg (by omega)]
      ·exact absurd hd (by simp)
     ·exact absurd hd (by simp)
    ·rename_i e f;split at hd
     ·exact absurd hd (by simp)
     ·split at hd
      ·injection hd with _ hd;injection hd with i j;subst i;subst j;refine .inr ⟨rfl,a.m.toNat,by omega,by omega,λd r=>?_,.inr ⟨fT e.1 a,dg e.1 e.2 a,e.1,e.2,?_,f,?_⟩⟩
       ·show(if d=a.m.toNat then _ else c d)=c d;rw[if_neg (by omega)]
       ·show(if a.m.toNat=a.m.toNat then _ else _)=_;rw[if_pos rfl]
       ·have q:=k.ep _ e.1 e.2 f;have s:=qO q k.lY;rw[vN,s];omega
      ·rename_i p;injection hd with o _;exact absurd o p
theorem Bu:∀a:List B,cY a+ba a=a.length
 |[]=>rfl
 |d::a=>by
  have e:=Bu a;unfold cY ba at *;rw[kh,kh,dP];by_cases c:d.st=0
  ·rw[if_pos (by simpa using c),if_neg (by simpa using c)];omega
  ·rw[if_neg (by simpa using c),if_pos (by simpa using c)];omega
theorem Bv(c:Nat):∀(xs:List e),xs.Pairwise (λa d=>a.f.num<d.f.num)->(xs.map (λa=>if a.f.num=(c:Int) then gQ a else 0)).sum=(match dW xs c with|none=>0|some a=>60+30* (ba a.2:Int))
 |[],_=>by simp[dW]
 |a::xs,i=>by
  have i:=List.pairwise_cons.1 i;have m:=Bv c xs i.2;rw[List.map_cons,List.sum_cons];by_cases f:a.f.num=(c:Int)
  ·have j:∀ys:List e,(∀d∈ys,a.f.num<d.f.num)->(ys.map (λa=>if a.f.num=(c:Int) then gQ a else 0)).sum=0:=by
    intro ys
    induction ys with
    |nil=>intro _;rfl
    |cons d ys n=>
     intro hy;rw[List.map_cons,List.sum_cons,n (λo j=>hy o (by simp[j])),if_neg (by have:=hy d (by simp);omega)];rfl
   rw[j xs i.1,if_pos f];have hf:dW (a::xs) c=E (a.f.p.at a.f.ep,a.f.S):=by
    unfold dW;rw[kZ];simp[f]
   rw[hf];show gQ a+0=60+30* (ba a.f.S:Int);have p:(a.f.S.length:Int) - (cY a.f.S:Int)=(ba a.f.S:Int):=by
    have:cY a.f.S+ba a.f.S=a.f.S.length:=Bu a.f.S;omega
   unfold gQ;omega
  ·rw[if_neg f];have hf:dW (a::xs) c=dW xs c:=by
    unfold dW;have k:(a.f.num==(c:Int))=false:=by simpa using f
    rw[kZ,k]
   rw[hf,<-m];omega
theorem Lp(c d f:e->Int) (xs:List e) (i:∀a,c a=d a+f a):(xs.map c).sum=(xs.map d).sum+(xs.map f).sum:=by
 induction xs with
 |nil=>rfl
 |cons a xs j=>simp only[List.map_cons,List.sum_cons,j,i];omega
theorem Bw(f:Nat->Option (O×List B)) (xs:List e) (hs:dt xs f):∀c,c<=21->dL f c=200+(xs.map (λa=>if a.f.num<(c:Int) then gQ a else 0)).sum
 |0,_=>by
  have:(xs.map (λa=>if a.f.num<((0:Nat):Int) then gQ a else 0)).sum=0:=by
   have i:∀ys:List e,(∀d∈ys,1<=d.f.num)->(ys.map (λa=>if a.f.num<((0:Nat):Int) then gQ a else 0)).sum=0:=by
    intro ys
    induction ys with
    |nil=>intro _;rfl
    |cons d ys p=>
     intro hy;rw[List.map_cons,List.sum_cons,p (λq i=>hy q (by simp[i])),if_neg (by have:=hy d (by simp);omega)];rfl
   exact i xs (λd hy=>(hs.gP d hy).1)
  rw[this];rfl
 |c+1,r=>by
  have o:=Bw f xs hs c (by omega);have k:=Bv c xs hs.sort;rw[<-hs.eq c (by omega)] at k
  have n:=Lp (λa=>if a.f.num<((c+1:Nat):Int) then gQ a else 0) (λa=>if a.f.num<(c:Int) then gQ a else 0) (λa=>if a.f.num=(c:Int) then gQ a else 0) xs (λa=>by
   by_cases j:a.f.num=(c:Int)
   ·rw[if_pos (by omega),if_neg (by omega),if_pos j];omega
   ·by_cases m:a.f.num<(c:Int)
    ·rw[if_pos (by omega),if_pos m,if_neg j];omega
    ·rw[if_neg (by omega),if_neg m,if_neg j];omega)
  unfold dL;rw[n,k,o]
  cases f c with
  |none=>simp only;omega
  |some a=>simp only;omega
theorem dt.weight{a:Nat->Option (O×List B)} {xs:List e} (hs:dt xs a):bB xs=dL a 21:=by
 rw[Bw a xs hs 21 (by omega)];unfold bB;congr 2;apply List.map_congr_left;intro d c;rw[if_pos (by have:=(hs.gP d c).2;omega)]
theorem vV:∀(c:List (List o)) (a:List o) (now:Int),cG now (c++[a])=cG now c++ag (iz now c) a
 |[],a,now=>by simp[cG,iz]
 |d::c,a,now=>by
  show ag now d++cG (fE now d) (c++[a])=_;rw[vV c a];simp[cG,iz]
theorem jh.snoc:∀ {c:List (List o)} {a:List o} {now:Int},jh now c->dy (iz now c) a->a.length<9223372036854775808->jh now (c++[a])
 |[],a,now,_,d,hl=>⟨⟨d,hl⟩,trivial⟩
 |f::c,a,now,e,d,hl=>⟨e.1,jh.snoc e.2 d hl⟩
theorem vW:∀(c:List (List o)) (a:List o) (now:Int),iz now (c++[a])=fE (iz now c) a
 |[],a,now=>rfl
 |d::c,a,now=>vW c a (fE now d)
theorem Bx{now e:Int} {i fl':Y} {a:N} (hd:aA now i a=(0,e,fl')):fm now (J now a)=e:=by
 have j:a.kind=8->e=now+a.time:=λc=>by
  unfold aA at hd;rw[if_neg (by omega),if_pos c] at hd;split at hd
  ·injection hd with _ hd;injection hd with d _;exact d.symm
  ·exact absurd hd (by simp)
 have k:a.kind≠8->e=now:=λc=>by
  unfold aA at hd
  repeat' split at hd
  all_goals first
   |contradiction
   |(injection hd with m f;injection f with f n;omega)
 unfold fm;by_cases c:a.kind=8
 ·have d:(J now a).kind=6:=by unfold J;simp[c]
  rw[if_pos d,j c];rfl
 ·have d:(J now a).kind≠6:=by
   unfold J;simp only
   repeat' split
   all_goals omega
  rw[if_neg d,k c]
structure nu (T:u) (f:Nat) (now:Int) (fl:Y) (rs:List (List o)) (t:List Int):Prop where
 hf:f<2
 fit:jh 0 rs
 gL:iB 0 eO rs.flatten now fl
 time:iz 0 rs=now
 eq:T.b f=cG 0 rs++t
 low:(cG 0 rs).length<=T.last f
 eS:T.b 2=[]
 ja:T.b 3=[]
def nv(now:Int) (a:List Int):Prop:=a≠[]/\fO now a=F
structure cP (T:u) (f:Nat) (torn:Bool) (now:Int) (fl:Y) (B:Int):Prop where
 ex:∃rs t,nu T f now fl rs t/\(torn=false->t=[])/\(torn=true->nv now t)
 pK:T.b (1 - f)=[]
 last:T.last f=(T.b f).length
 size:((T.b f).length:Int)<=B
def pL(a:u) (c:Nat) (now:Int) (d:Y):Prop:=a.b c=[]\/(nv 0 (a.b c)/\a.last c=(a.b c).length)\/(a.b c=ag 0 (dH now d)/\dH now d≠[])
structure dv (T:u) (now:Int) (fl:Y) (mb:Option (Int×Y)) (B C:Int):Prop where
 ex:∃f rs t,nu T f now fl rs t/\((T.b f).length:Int)<=B/\((T.b (1 - f)).length:Int)<=C/\
  (((t=[]\/(nv now t/\T.last f=(T.b f).length))/\pL T (1 - f) now fl)\/
   (∃c now' fl',mb=E (now',fl')/\aA now fl c=(0,now',fl')/\t=ag now [J now c]/\T.b (1 - f)=[]))
theorem cP.hf{c:u} {a:Nat} {i:Bool} {now:Int} {d:Y} {B:Int} (e:cP c a i now d B):a<2:=by
 obtain⟨j,k,f,_⟩:=e.ex;exact f.hf
theorem cP.close{c:u} {d:Nat} {f:Bool} {now:Int} {e:Y} {B C:Int} (a:cP c d f now e B) (m:0<=C) (n:Option (Int×Y)):dv c now e n B C:=by
 obtain⟨o,p,i,j,k⟩:=a.ex;refine⟨d,o,p,i,a.size,by rw[a.pK];exact m,.inl ⟨?_,.inl a.pK⟩⟩
 cases f with
 |false=>exact .inl (j rfl)
 |true=>exact .inr ⟨k rfl,a.last⟩
theorem cP.used{c:u} {a:Nat} {i:Bool} {now:Int} {f:Y} {B:Int} (e:cP c a i now f B):c.used=(c.b a).length:=by
 obtain⟨m,n,d,_⟩:=e.ex;have:=e.pK;have j:=d.eS;have k:=d.ja;unfold u.used;have hf:=d.hf;have:a=0\/a=1:=by omega
 obtain rfl|rfl:=this
 ·rw[show(1 - 0:Nat)=1 from rfl] at *;simp[*]
 ·rw[show(1 - 1:Nat)=0 from rfl] at *;simp[*]
theorem cP.zero(e:Int) (c:Int) {B:Int} (d:0<=B):cP ⟨λ_=>[],λ_=>0,e,c⟩ 0 false 0 eO B:=
 ⟨⟨[],[],⟨by omega,trivial,⟨rfl,rfl⟩,rfl,rfl,bK _,rfl,rfl⟩,λ_=>rfl,λa=>(by cases a)⟩,rfl,rfl,by simpa using d⟩
theorem cP.fuse{c:u} {d:Nat} {f:Bool} {now:Int} {e:Y} {B:Int} (i:cP c d f now e B) (p:Int):cP (qJ c p) d f now e B:=by
 obtain⟨⟨q,r,a,j,k⟩,m,n,o⟩:=i;exact⟨⟨q,r,⟨a.hf,a.fit,a.gL,a.time,a.eq,a.low,a.eS,a.ja⟩,j,k⟩,m,n,o⟩
theorem dv.fuse{c:u} {now:Int} {d:Y} {e:Option (Int×Y)} {B C:Int} (i:dv c now d e B C) (n:Int):dv (qJ c n) now d e B C:=by
 obtain⟨f,o,p,a,j,k,m⟩:=i.ex;exact⟨f,o,p,⟨a.hf,a.fit,a.gL,a.time,a.eq,a.low,a.eS,a.ja⟩,j,k,m⟩
theorem cP.more{d:u} {e:Nat} {i:Bool} {now:Int} {f:Y} {B c:Int} (a:cP d e i now f B) (j:B<=c):cP d e i now f c:=⟨a.ex,a.pK,a.last,Int.le_trans a.size j⟩
theorem dv.more{d:u} {now:Int} {e:Y} {f:Option (Int×Y)} {B C a c:Int} (j:dv d now e f B C) (p:B<=a) (q:C<=c):dv d now e f a c:=by
 obtain⟨i,r,s,k,m,n,o⟩:=j.ex;exact⟨i,r,s,k,Int.le_trans m p,Int.le_trans n q,o⟩
theorem nu.lay{e T':u} {c:Nat} {now k:Int} {f fl':Y} {i:List (List o)} {a:N} {m:Int} (d:nu e c now f i []) (hF:bh m now f) (hd:aA now f a=(0,k,fl')) (hb:T'.b c=e.b c++ag now [J now a]) (hl:T'.last c=(e.b c++ag now [J now a]).length) (n:T'.b 2=[]) (p:T'.b 3=[]):
  nu T' c k fl' (i++[[J now a]]) []:=by
 have q:=tx hF hd;have j:cG 0 (i++[[J now a]])=e.b c++ag now [J now a]:=by
  rw[vV,d.time,d.eq];simp
 refine⟨d.hf,jh.snoc d.fit ⟨by rw[d.time];exact q,trivial⟩ (by simp),?_,?_,by rw[hb,j];simp,by rw[j,hl];exact bK _,n,p⟩
 ·rw[List.flatten_append];exact tp _ d.gL (tq (.inl ⟨a,rfl,hd⟩))
 ·rw[vW,d.time];exact Bx hd
structure vX (K K':aO) (e:Int) (now now':Int) (fl fl':Y) (B C:Int):Prop where
 ok:e=0->K'.live=true/\cP K'.T K'.file K'.torn now' fl' (B+60)
 space:e=15->K'.live=true/\cP K'.T K'.file K'.torn now fl B/\K.T.room<B+C+60
 dead:e=16->K'.live=false/\K'.T.fuse=0/\dv K'.T now fl (E (now',fl')) (B+60) C
 err:e=0\/e=15\/e=16
 room:K'.T.room=K.T.room
 tb:K'.tb=K.tb
theorem Bz{a:aO} {now n:Int} {k fl':Y} {B C u:Int} {e:N} (m:cP a.T a.file a.torn now k B) (hl:a.live=true) (t:a.torn=false) (hF:bh u now k) (hd:aA now k e=(0,n,fl')) (p:0<=C):vX a (gp a (ag now [J now e])).2 (gp a (ag now [J now e])).1 now n k fl' B C:=by
 have G:=vz now e;have hlen:=uC ((tx hF hd).c (by omega));have L:=m.used;have z:=(m.close p (E (n,fl'))).more (show B<=B+60 by omega) (Int.le_refl C);have A:=m;obtain⟨⟨D,M,f,w,_⟩,s,H,I⟩:=m;obtain rfl:=w t;have hf:=f.hf;unfold gp;rw[if_neg (by simp[hl])];simp only;obtain⟨c,d⟩|⟨c,d,o⟩|⟨c,o,d⟩:=JE a.T a.file (ag now [J now e])
 ·rw[c];generalize (fM a.T a.file (ag now [J now e])).2=i at *;have j:i.b a.file=a.T.b a.file++ag now [J now e]:=by rw[d.b,if_pos rfl]
  have r:i.last a.file=(a.T.b a.file++ag now [J now e]).length:=by rw[d.last,if_pos rfl]
  have x:=f.lay (T':=i) hF hd j r (by rw[d.b,if_neg (by omega)];exact f.eS) (by rw[d.b,if_neg (by omega)];exact f.ja);refine⟨λ_=>⟨by simp,⟨_,[],x,λ_=>rfl,λc=>?_⟩,?_,?_,?_⟩,λc=>by omega,λc=>by omega,.inl rfl,d.room,rfl⟩
  ·have c:a.torn=true:=c;rw[t] at c;cases c
  ·show i.b (1 - a.file)=[];rw[d.b,if_neg (by omega)];exact s
  ·show i.last a.file=(i.b a.file).length;rw[r,j]
  ·show((i.b a.file).length:Int)<=B+60;rw[j,aJ];omega
 ·rw[c,d];refine⟨λc=>by omega,λ_=>⟨by simp,A,by omega⟩,λc=>by omega,.inr (.inl rfl),rfl,rfl⟩
 ·rw[c];generalize (fM a.T a.file (ag now [J now e])).2=i at *;obtain rfl|d:=d
  ·exact⟨λc=>by omega,λc=>by omega,λ_=>⟨by simp,o,z⟩,.inr (.inr rfl),rfl,rfl⟩
  ·have j:i.b a.file=a.T.b a.file++ag now [J now e]:=by rw[d.b,if_pos rfl]
   have q:i.b (1 - a.file)=[]:=by rw[d.b,if_neg (by omega)];exact s
   refine⟨λc=>by omega,λc=>by omega,λ_=>⟨by simp,o,⟨a.file,D,ag now [J now e],⟨hf,f.fit,f.gL,f.time,by rw[j,f.eq];simp,by rw[d.last,if_pos rfl];exact f.low,by rw[d.b,if_neg (by omega)];exact f.eS,by rw[d.b,if_neg (by omega)];exact f.ja⟩,?_,?_,.inr ⟨e,n,fl',rfl,hd,rfl,q⟩⟩⟩,.inr (.inr rfl),d.room,rfl⟩
   ·rw[j,aJ];omega
   ·rw[q];exact p
theorem BC{d:u} {c:Nat} {I:Bool} {now:Int} {a:Y} {B C J:Int} (p:cP d c I now a B) (hF:bh J now a) (w:((ay now a).length:Int)<=C) (O:∀x,x<4->d.last x<=(d.b x).length):((bD d c (ay now a)).1=0/\cP (bD d c (ay now a)).2 (1 - c) false now a C/\(bD d c (ay now a)).2.room=d.room)\/
  ((bD d c (ay now a)).1=15/\(bD d c (ay now a)).2=d/\d.room<B+C)\/((bD d c (ay now a)).1=16/\(bD d c (ay now a)).2.fuse=0/\(bD d c (ay now a)).2.room=d.room/\∀z,dv (bD d c (ay now a)).2 now a z B C):=by
 have hf:=p.hf;have ai:=p.used;have N:0<=C:=by omega
 have P:=p.close N;have r:=Bf hF;have Q:=pG hF;have X:=Bg hF;have S:=nj now a 21;rw[jr] at S;obtain⟨⟨af,ah,i,L,M⟩,q,R,aa⟩:=p;obtain⟨f,m,ad,ae⟩|⟨f,e,H⟩|⟨f,H,e⟩:=Ap d hf (ay now a)
 ·refine .inl ⟨f,?_,ae⟩;generalize (bD d c (ay now a)).2=n at *;have j:n.b (1 - c)=ay now a:=by rw[m,if_neg (by omega),if_pos rfl,q];rfl
  have t:n.last (1 - c)=(ay now a).length:=by
   rw[ad,if_neg (by omega),if_pos rfl];by_cases k:ay now a=[]
   ·have:=O (1 - c) (by omega);rw[q] at this;simp only[im] at this;rw[if_pos k,k];simp only[im];omega
   ·rw[if_neg k,q];rfl
  by_cases k:dH now a=[]
  ·have o:ay now a=[]:=by unfold ay;rw[if_pos k]
   rw[k] at r;refine⟨⟨[],[],⟨by omega,trivial,r,?_,by rw[j,o];rfl,fJ _,?_,?_⟩,λ_=>rfl,λf=>by cases f⟩,?_,by rw[t,j],by rw[j];exact w⟩
   ·exact r.1.symm
   ·rw[m,if_neg (by omega),if_neg (by omega)];exact i.eS
   ·rw[m,if_neg (by omega),if_neg (by omega)];exact i.ja
   ·rw[show 1 - (1 - c)=c by omega,m,if_pos rfl]
  ·have o:ay now a=ag 0 (dH now a):=by unfold ay;rw[if_neg k]
   have D:cG 0 [dH now a]=ay now a:=by rw[o];simp[cG]
   refine⟨⟨[dH now a],[],⟨by omega,⟨⟨Q,by omega⟩,trivial⟩,by simpa using r,X,by rw[j,D];simp,by rw[D,t];exact bK _,?_,?_⟩,λ_=>rfl,λf=>by cases f⟩,?_,by rw[t,j],by rw[j];exact w⟩
   ·rw[m,if_neg (by omega),if_neg (by omega)];exact i.eS
   ·rw[m,if_neg (by omega),if_neg (by omega)];exact i.ja
   ·rw[show 1 - (1 - c)=c by omega,m,if_pos rfl]
 ·exact .inr (.inl ⟨f,e,by omega⟩)
 ·refine .inr (.inr ⟨f,H,?_,?_⟩)
  ·obtain e|⟨_,ab,e⟩:=e
   ·rw[e]
   ·exact e.room
  ·generalize (bD d c (ay now a)).2=n at *;intro z;obtain rfl|⟨k,ab,e⟩:=e
   ·exact P z
   ·have j:n.b (1 - c)=ay now a:=by rw[e.b,if_pos rfl,q];rfl
    have s:n.b c=d.b c:=by rw[e.b,if_neg (by omega)]
    have A:n.last c=d.last c:=by rw[e.last,if_neg (by omega)]
    have G:dH now a≠[]:=λf=>k (by unfold ay;rw[if_pos f]);have o:ay now a=ag 0 (dH now a):=by unfold ay;rw[if_neg G]
    refine⟨c,af,ah,⟨hf,i.fit,i.gL,i.time,by rw[s];exact i.eq,by rw[A];exact i.low,by rw[e.b,if_neg (by omega)];exact i.eS,by rw[e.b,if_neg (by omega)];exact i.ja⟩,by rw[s];exact aa,by rw[j];exact w,.inl ⟨?_,.inr (.inr ⟨by rw[j,o],G⟩)⟩⟩
    cases I with
    |false=>exact .inl (L rfl)
    |true=>exact .inr ⟨M rfl,by rw[s,A];exact R⟩
theorem Lq{a:aO} {now s:Int} {d fl':Y} {B C u:Int} {i:N} (j:cP a.T a.file a.torn now d B) (hl:a.live=true) (hF:bh u now d) (hd:aA now d i=(0,s,fl')) (z:((ay now d).length:Int)<=C) (w:C<=B) (x:∀m,m<4->a.T.last m<=(a.T.b m).length):vX a (cV a (ay now d) (ag now [J now i])).2 (cV a (ay now d) (ag now [J now i])).1 now s d fl' B C:=by
 have q:0<=C:=by omega
 unfold cV;by_cases k:a.torn=true
 ·rw[if_pos k,AZ hl];simp only;obtain⟨c,e,f⟩|⟨c,e,f⟩|⟨c,f,H,e⟩:=BC j hF z x
  ·rw[if_pos c];have n:(cv a (bD a.T a.file (ay now d))).live=true:=by unfold cv;simp[c]
   have r:(cv a (bD a.T a.file (ay now d))).torn=false:=by unfold cv;simp[c]
   have A:(cv a (bD a.T a.file (ay now d))).file=1 - a.file:=by unfold cv;simp[c]
   have D:(cv a (bD a.T a.file (ay now d))).T=(bD a.T a.file (ay now d)).2:=rfl;have G:(cv a (bD a.T a.file (ay now d))).tb=a.tb:=rfl;rw[<-D] at e f;rw[<-A] at e;generalize cv a (bD a.T a.file (ay now d))=O at *;obtain⟨t,o,p,I,L,M⟩:=Bz (by rw[r];exact e) n r hF hd q
   exact⟨λc=>⟨(t c).1,(t c).2.more (by omega)⟩,λc=>⟨(o c).1,(o c).2.1.more w,by have:=(o c).2.2;omega⟩,λc=>⟨(p c).1,(p c).2.1,(p c).2.2.more (by omega) (Int.le_refl _)⟩,I,by rw[L,f],by rw[M,G]⟩
  ·rw[if_neg (by omega),c];have n:(cv a (bD a.T a.file (ay now d)))=a:=by
    unfold cv;rw[e,c];obtain⟨P,Q,i,R,S⟩:=a;simp only at hl;subst hl;rfl
   rw[n];exact⟨λc=>by omega,λ_=>⟨hl,j,by omega⟩,λc=>by omega,.inr (.inl rfl),rfl,rfl⟩
  ·rw[if_neg (by omega),c];exact⟨λc=>by omega,λc=>by omega,λ_=>⟨by unfold cv;simp[c],f,(e _).more (by omega) (Int.le_refl _)⟩,.inr (.inr rfl),H,rfl⟩
 ·rw[if_neg k];exact Bz j hl (by simpa using k) hF hd q
structure Lr (K K':aO) (e:Int) (now:Int) (fl:Y) (B C:Int):Prop where
 ok:e=0->K'.live=true/\cP K'.T K'.file K'.torn now fl C
 space:e=15->K'.live=true/\cP K'.T K'.file K'.torn now fl B/\K.T.room<B+C
 dead:e=16->K'.live=false/\K'.T.fuse=0/\∀mb,dv K'.T now fl mb B C
 err:e=0\/e=15\/e=16
 room:K'.T.room=K.T.room
 tb:K'.tb=K.tb
theorem BD{a:aO} {now:Int} {d:Y} {B C k:Int} (e:cP a.T a.file a.torn now d B) (hl:a.live=true) (hF:bh k now d) (n:((ay now d).length:Int)<=C) (m:∀j,j<4->a.T.last j<=(a.T.b j).length):Lr a (eR now d a).2 (eR now d a).1 now d B C:=by
 unfold eR;rw[if_neg (by simp[hl])];by_cases hs:(a.T.b a.file).length<=(ay now d).length
 ·rw[if_pos hs];exact⟨λ_=>⟨hl,⟨e.ex,e.pK,e.last,by show((a.T.b a.file).length:Int)<=C;omega⟩⟩,λc=>by omega,λc=>by omega,.inl rfl,rfl,rfl⟩
 ·rw[if_neg hs];simp only;obtain⟨c,f,i⟩|⟨c,f,i⟩|⟨c,i,r,f⟩:=BC e hF n m
  ·rw[c];refine⟨λ_=>⟨by unfold cv;simp[c],?_⟩,λc=>by omega,λc=>by omega,.inl rfl,i,rfl⟩;have p:(cv a (bD a.T a.file (ay now d))).torn=false:=by unfold cv;simp[c]
   have q:(cv a (bD a.T a.file (ay now d))).file=1 - a.file:=by unfold cv;simp[c]
   rw[p,q];exact f
  ·rw[c];have o:(cv a (bD a.T a.file (ay now d)))=a:=by
    unfold cv;rw[f,c];obtain⟨s,t,u,w,x⟩:=a;simp only at hl;subst hl;rfl
   rw[o];exact⟨λc=>by omega,λ_=>⟨hl,e,i⟩,λc=>by omega,.inr (.inl rfl),rfl,rfl⟩
  ·rw[c];exact⟨λc=>by omega,λc=>by omega,λ_=>⟨by unfold cv;simp[c],i,f⟩,.inr (.inr rfl),r,rfl⟩
theorem BF{es:List o} {now:Int} (p:dy now es) (hl:es.length<9223372036854775808) (f:List Int) (e:Nat) (j:Int) {a:Nat} (q:a<=(ag now es).length):fZ f e j (ag now es) a=[]\/nv now (fZ f e j (ag now es) a)\/fZ f e j (ag now es) a=ag now es:=by
 have u:=vp f e (ag now es).length a q;have hlen:(ag now es).length=(kK now es).length+1:=by rw[si,aJ];rfl
 have piece:∀(c:Nat) (i:Int),c<(ag now es).length->((ag now es).take c++[i]=ag now es)\/nv now ((ag now es).take c++[i]):=λc i t=>by
  by_cases hb:c<(kK now es).length\/(c=(kK now es).length/\i≠229)
  ·exact .inr ⟨by simp,FH p hl hb⟩
  ·refine .inl ?_;have m:c=(kK now es).length:=by omega
   have s:i=229:=by
    by_cases d:i=229
    ·exact d
    ·exact absurd (.inr ⟨m,d⟩) hb
   rw[m,s,si,List.take_append_of_le_length (bK _),eA]
 unfold fZ;by_cases k:fY f e (ag now es).length a=0
 ·rw[if_pos k];by_cases r:a=0
  ·subst r;exact .inl (by simp)
  ·obtain⟨c,rfl⟩:∃c,a=c+1:=⟨a - 1,by omega⟩;have n:(ag now es).take (c+1)=(ag now es).take c++[(ag now es)[c]'(by omega)]:=by rw[List.take_succ_eq_append_getElem (by omega)]
   rw[n];obtain d|d:=piece c _ (by omega)
   ·exact .inr (.inr d)
   ·exact .inr (.inl d)
 ·rw[if_neg k];obtain d|d:=piece (a+fY f e (ag now es).length a - 1) (bits BinOp.xor .u8 ((ag now es).getD (a+fY f e (ag now es).length a - 1) 0) j) (by omega)
  ·exact .inr (.inr d)
  ·exact .inr (.inl d)
theorem Ls(e:List Int) (d:Nat) (j:Int) (c f:List Int) (a:Nat):fZ e d j (c++f) (c.length+a)=c++fZ e d j f a:=by
 have m:fY e d (c++f).length (c.length+a)=fY e d f.length a:=by
  unfold fY;rw[aJ];split
  ·congr 2;omega
  ·rfl
 unfold fZ;rw[m];by_cases i:fY e d f.length a=0
 ·rw[if_pos i,if_pos i,List.take_length_add_append]
 ·rw[if_neg i,if_neg i];have k:c.length+a+fY e d f.length a - 1=c.length+(a+fY e d f.length a - 1):=by omega
  rw[k,List.take_length_add_append,bI];congr 3;simp only[nT];rw[rz (by omega)];simp
theorem tC(d:List Int) (c:Nat) (f:Int) (a:List Int):fZ d c f a a.length=a:=by
 have e:fY d c a.length a.length=0:=by
  unfold fY;split<;>omega
 unfold fZ;rw[if_pos e,eA]
theorem BG(e:List Int) (d:Nat) (i:Int) (a:List Int) (c:Nat) (f:c<=a.length):(fZ e d i a c).length<=a.length:=by
 have j:=vp e d a.length c f;unfold fZ;split
 ·rw[dj];omega
 ·rw[aJ,dj];simp only[dP,im];omega
theorem tD(d:List Int) (c:Nat) (e:Int) (a:Nat) (f:a<=0):fZ d c e [] a=[]:=by
 obtain rfl:a=0:=by omega
 exact tC d c e []
theorem dv.kR{c:u} {now:Int} {p:Y} {N:Option (Int×Y)} {B C Q:Int} (aa:dv c now p N B C) (hF:bh Q now p) (z:∀f,f<4->c.last f<=(c.b f).length) (d:List Int) (e:Int):dv (iA c d e) now p N B C:=by
 obtain⟨a,m,P,i,ao,ap,ak⟩:=aa.ex;have hf:=i.hf;have ai:=pG hF;have aj:=nj now p 21;rw[jr] at aj;have k:∀f,f<4->(iA c d e).b f=fZ d f e (c.b f) (c.last f):=λf hi=>if_pos hi;have x:∀f,f<4->(iA c d e).last f=((iA c d e).b f).length:=λf hi=>by
  rw[k f hi];exact if_pos hi
 have ab:(iA c d e).b 2=[]:=by
  rw[k 2 (by omega),i.eS];have:=z 2 (by omega);rw[i.eS] at this;exact tD _ _ _ _ (by simpa using this)
 have ad:(iA c d e).b 3=[]:=by
  rw[k 3 (by omega),i.ja];have:=z 3 (by omega);rw[i.ja] at this;exact tD _ _ _ _ (by simpa using this)
 have A:=z a (by omega);have q:=z (1 - a) (by omega);have s:(((iA c d e).b a).length:Int)<=B:=by
  rw[k a (by omega)];have:=BG d a e (c.b a) (c.last a) A;omega
 have t:(((iA c d e).b (1 - a)).length:Int)<=C:=by
  rw[k (1 - a) (by omega)];have:=BG d (1 - a) e (c.b (1 - a)) (c.last (1 - a)) q;omega
 have main:∀L,(iA c d e).b a=cG 0 m++L->nu (iA c d e) a now p m L:=λL n=>
  ⟨hf,i.fit,i.gL,i.time,n,by rw[x a (by omega),n,aJ];omega,ab,ad⟩
 have O:pL c (1 - a) now p->pL (iA c d e) (1 - a) now p:=λo=>by
  unfold pL;rw[x (1 - a) (by omega),k (1 - a) (by omega)];obtain n|⟨n,I⟩|⟨n,I⟩:=o
  ·left;rw[n] at q ⊢;exact tD _ _ _ _ (by simpa using q)
  ·right;left;rw[I,tC];exact⟨n,rfl⟩
  ·rw[n] at q ⊢;obtain j|j|j:=BF ai (by omega) d (1 - a) e q
   ·exact .inl j
   ·exact .inr (.inl ⟨j,rfl⟩)
   ·exact .inr (.inr ⟨j,I⟩)
 obtain⟨H,o⟩|⟨r,am,X,R,hd,S,M⟩:=ak
 ·obtain rfl|⟨H,hl⟩:=H
  ·refine⟨a,m,[],main [] ?_,s,t,.inl ⟨.inl rfl,O o⟩⟩;have D:=i.eq;rw[dR] at D;have aq:=i.low;rw[k a (by omega),dR];have:c.last a=(c.b a).length:=by rw[D] at A ⊢;omega
   rw[this,tC,D]
  ·refine⟨a,m,P,main P ?_,s,t,.inl ⟨.inr ⟨H,x a (by omega)⟩,O o⟩⟩;rw[k a (by omega),hl,tC];exact i.eq
 ·subst S;have ah:dy now [J now r]:=⟨tx hF hd,trivial⟩;have hb:=i.eq;obtain⟨w,ae⟩:∃w,c.last a=(cG 0 m).length+w:=⟨c.last a - (cG 0 m).length,by have:=i.low;omega⟩;have af:w<=(ag now [J now r]).length:=by rw[hb,aJ] at A;omega
  have G:(iA c d e).b a=cG 0 m++fZ d a e (ag now [J now r]) w:=by
   rw[k a (by omega),hb,ae,Ls]
  have o:(iA c d e).b (1 - a)=[]:=by
   rw[k (1 - a) (by omega),M];rw[M] at q;exact tD _ _ _ _ (by simpa using q)
  obtain j|j|j:=BF ah (by simp) d a e af
  ·refine⟨a,m,[],main [] (by rw[G,j]),s,t,.inl ⟨.inl rfl,.inl o⟩⟩
  ·refine⟨a,m,_,main _ G,s,t,.inl ⟨.inr ⟨j,x a (by omega)⟩,.inl o⟩⟩
  ·refine⟨a,m,ag now [J now r],main _ (by rw[G,j]),s,t,.inr ⟨r,am,X,R,hd,rfl,o⟩⟩
structure BH (T T':u) (e:Int) (k:Nat):Prop where
 err:e=0\/e=16
 room:T'.room=T.room
 ok:e=0->T'.b k=T.b k/\T'.last k=(T.b k).length/\T'.b (1 - k)=[]/\T'.b 2=T.b 2/\T'.b 3=T.b 3
 dead:e=16->T'.fuse=0/\(∀j,T'.b j=T.b j)/\∀j,T'.last j=T.last j\/T'.last j=(T.b j).length
theorem Lt(a:u) {c:Nat} (A:c<2) (x:∀w,w<4->a.last w<=(a.b w).length):BH a (fD a c (a.b c).length (a.b (1 - c)).length).2 (fD a c (a.b c).length (a.b (1 - c)).length).1 c:=by
 unfold fD;have B:=x c (by omega);have f:∀f,f=(if 0<(a.b c).length then eX a c else(true,a))->(f.1=true->(∀e,f.2.b e=a.b e)/\(∀e,f.2.last e=if e=c then(a.b c).length else a.last e)/\f.2.room=a.room)/\(f.1=false->f.2=a/\a.fuse=0):=λf d=>by
  subst d;by_cases n:0<(a.b c).length
  ·rw[if_pos n];refine⟨λm=>?_,λm=>JD m⟩;have i:=JC m;refine⟨λe=>?_,i.last,i.room⟩;rw[i.b];split
   ·rename_i d;rw[d]
   ·rfl
  ·rw[if_neg n];refine⟨λ_=>⟨λ_=>rfl,λe=>?_,rfl⟩,λm=>by simp at m⟩;show a.last e=_;split
   ·rename_i d;subst d;omega
   ·rfl
 simp only;have f:=f _ rfl;generalize (if 0<(a.b c).length then eX a c else(true,a))=q at *;by_cases o:q.1=false
 ·rw[if_pos o];obtain⟨j,t⟩:=f.2 o;refine⟨.inr rfl,by simp only[j],λd=>by simp at d,λ_=>⟨by simp only[j];exact t,λe=>by simp only[j],λe=>.inl (by simp only[j])⟩⟩
 rw[if_neg o];obtain⟨k,r,s⟩:=f.1 (by simpa using o);by_cases n:0<(a.b (1 - c)).length
 ·rw[if_pos n];by_cases p:(dQ q.2 (1 - c)).1=false
  ·rw[if_pos p];obtain⟨j,t⟩:=vI p;refine⟨.inr rfl,by simp only[j];exact s,λd=>by simp at d,λ_=>⟨by simp only[j];exact t,λe=>by simp only[j];exact k e,λe=>?_⟩⟩;simp only[j];rw[r];split
   ·rename_i d;rw[d];exact .inr rfl
   ·exact .inl rfl
  ·rw[if_neg p];have i:=vH (by simpa using p:(dQ q.2 (1 - c)).1=true);refine⟨.inl rfl,i.room.trans s,λ_=>⟨?_,?_,?_,?_,?_⟩,λd=>by simp at d⟩
   ·simp only;rw[i.b,if_neg (by omega)];exact k c
   ·simp only;rw[i.last,if_neg (by omega),r,if_pos rfl]
   ·simp only;rw[i.b,if_pos rfl]
   ·simp only;rw[i.b,if_neg (by omega)];exact k 2
   ·simp only;rw[i.b,if_neg (by omega)];exact k 3
 ·rw[if_neg n,if_neg (by simp)];have z:a.b (1 - c)=[]:=fS (by omega);exact⟨.inl rfl,s,λ_=>⟨k c,by simp only;rw[r,if_pos rfl],by simp only;rw[k,z],k 2,k 3⟩,λd=>by simp at d⟩
theorem Lu(a:u) (d:∀c,c<4->a.last c<=(a.b c).length):BH a (dJ a).2 (dJ a).1 (bJ a):=by
 have e:bJ a<2:=by unfold bJ;split<;>omega
 exact Lt a e d
theorem dv.raise{d f:u} {now:Int} {n:Y} {p:Option (Int×Y)} {B C:Int} (x:dv d now n p B C) (D:∀k,k<4->d.last k<=(d.b k).length) (hb:∀j,f.b j=d.b j) (hl:∀j,f.last j=d.last j\/f.last j=(d.b j).length):dv f now n p B C:=by
 obtain⟨e,J,L,c,z,A,G⟩:=x.ex;have hf:=c.hf;have M:=D e (by omega);refine⟨e,J,L,⟨hf,c.fit,c.gL,c.time,by rw[hb];exact c.eq,?_,by rw[hb];exact c.eS,by rw[hb];exact c.ja⟩,by rw[hb];exact z,by rw[hb];exact A,?_⟩
 ·have:=c.low;obtain i|i:=hl e<;>omega
 ·obtain⟨H,o⟩|⟨q,I,w,r,hd,s,t⟩:=G
  ·refine .inl ⟨?_,?_⟩
   ·obtain a|⟨a,i⟩:=H
    ·exact .inl a
    ·refine .inr ⟨a,?_⟩;rw[hb];obtain m|m:=hl e<;>omega
   ·unfold pL at o ⊢;rw[hb];obtain a|⟨a,i⟩|a:=o
    ·exact .inl a
    ·refine .inr (.inl ⟨a,?_⟩);obtain m|m:=hl (1 - e)<;>omega
    ·exact .inr (.inr a)
  ·exact .inr ⟨q,I,w,r,hd,s,by rw[hb];exact t⟩
theorem Lv{e:u} {f:Nat} {now:Int} {k:Y} {c:List (List o)} {d:List Int} (a:nu e f now k c d) (n:d=[]\/nv now d):bG e f=c.flatten.map canon/\iC e f=decide (d=[]):=by
 have j:(c.map λp=>p.map canon).flatten=c.flatten.map canon:=by rw[List.map_flatten]
 unfold bG iC;rw[a.eq];obtain rfl|⟨i,m⟩:=n
 ·rw[dR,uJ a.fit];exact⟨j,by simp⟩
 ·rw[yK a.fit i (by rw[a.time];exact m)];exact⟨j,by simp[i]⟩
theorem Lw{i:u} {j:Nat} {now f:Int} {e fl':Y} {d:List (List o)} {k:Int} {a:N} (c:nu i j now e d (ag now [J now a])) (hF:bh k now e) (hd:aA now e a=(0,f,fl')):jh 0 (d++[[J now a]])/\iB 0 eO (d++[[J now a]]).flatten f fl'/\iz 0 (d++[[J now a]])=f/\i.b j=cG 0 (d++[[J now a]]):=by
 refine⟨jh.snoc c.fit ⟨by rw[c.time];exact tx hF hd,trivial⟩ (by simp),?_,?_,?_⟩
 ·rw[List.flatten_append];exact tp _ c.gL (tq (.inl ⟨a,rfl,hd⟩))
 ·rw[vW,c.time];exact Bx hd
 ·rw[vV,c.time,c.eq]
theorem Lx{c:u} {d:Nat} {i now:Int} {a:Y} (k:pL c d now a) (hF:bh i now a):(bG c d=[]/\iC c d=decide (c.b d=[]))\/(bG c d=(dH now a).map canon/\iC c d=true/\dH now a≠[]/\c.b d=cG 0 [dH now a]):=by
 have n:=pG hF;have o:=nj now a 21;rw[jr] at o;unfold bG iC;obtain j|⟨⟨e,f⟩,_⟩|⟨e,f⟩:=k
 ·left;rw[j];exact⟨rfl,rfl⟩
 ·left;have:=yK (rs:=[]) trivial e f;have m:jM (c.b d)=([],false):=this;rw[m];exact⟨rfl,by simp[e]⟩
 ·right;have p:cG 0 [dH now a]=ag 0 (dH now a):=by simp[cG]
  have:=uJ (rs:=[dH now a]) ⟨⟨n,by omega⟩,trivial⟩;rw[e,<-p,this];exact⟨by simp,rfl,f,rfl⟩
structure Ly (T:u) (now:Int) (fl:Y) (mb:Option (Int×Y)) (B C:Int) (nw:Int) (fw:Y):Prop where
 gL:∀es,es=bG T 0\/es=bG T 1->es.length=(bG T (bJ T)).length->∃es0,es=es0.map canon/\iB 0 eO es0 nw fw
 ok:(dJ T).1=0->cP (dJ T).2 (bJ T) (!(iC T (bJ T))) nw fw B
 dead:(dJ T).1≠0->(dJ T).1=16/\(dJ T).2.fuse=0/\dv (dJ T).2 now fl mb B C
 room:(dJ T).2.room=T.room
theorem dv.opens{a:u} {now:Int} {p:Y} {Q:Option (Int×Y)} {B C ay:Int} (aj:dv a now p Q B C) (hF:bh ay now p) (ak:∀af,af<4->a.last af<=(a.b af).length) (aU:C<=B):∃r w,((r=now/\w=p)\/Q=E (r,w))/\Ly a now p Q B C r w:=by
 have hcs:=Lu a ak;have N:(dJ a).1≠0->(dJ a).1=16/\(dJ a).2.fuse=0/\dv (dJ a).2 now p Q B C:=λk=>by
  obtain d|d:=hcs.err
  ·exact absurd d k
  ·obtain⟨d1,d2,d3⟩:=hcs.dead d;exact⟨d,d1,aj.raise ak d2 d3⟩
 obtain⟨c,z,ah,e,aE,aT,aM⟩:=aj.ex;have hf:=e.hf;have O:=Bf hF;have aH:=pG hF;have aL:=Bg hF;have aI:=nj now p 21;rw[jr] at aI;have aq:∀(r:Int) (w:Y) (A:List (List o)) (D:List Int),bJ a=c->jh 0 A->iB 0 eO A.flatten r w->iz 0 A=r->a.b c=cG 0 A++D->(D=[]\/nv r D)->iC a c=decide (D=[])->(dJ a).1=0->cP (dJ a).2 (bJ a) (!(iC a (bJ a))) r w B:=λr w A D x S X ag M aR aw k=>by
  obtain⟨f,n,s,H,I⟩:=hcs.ok k;rw[x] at f n s ⊢;refine⟨⟨A,D,⟨hf,S,X,ag,by rw[f];exact M,by rw[n,M,aJ];omega,by rw[H];exact e.eS,by rw[I];exact e.ja⟩,λd=>?_,λd=>?_⟩,s,by rw[n,f],by rw[f];exact aE⟩
  ·rw[aw] at d;simpa using d
  ·rw[aw] at d;obtain t|t:=aR
   ·simp[t] at d
   ·exact t
 obtain⟨aO,am⟩|⟨aA,ar,ai,aB,hd,aC,aD⟩:=aM
 ·have ao:ah=[]\/nv now ah:=aO.imp id (λd=>d.1);obtain⟨P,aQ⟩:=Lv e ao;have ab:=Lx am hF;refine⟨now,p,.inl ⟨rfl,rfl⟩,?_⟩;by_cases x:bJ a=c
  ·refine⟨λes q hl=>?_,aq now p z ah x e.fit e.gL e.time e.eq ao aQ,N,hcs.room⟩;rw[x] at hl;have G:es=bG a c\/es=bG a (1 - c):=by
    have:c=0\/c=1:=by omega
    obtain rfl|rfl:=this
    ·exact q
    ·exact q.symm
   obtain rfl|rfl:=G
   ·exact⟨z.flatten,P,e.gL⟩
   ·obtain⟨d,_⟩|⟨d,_⟩:=ab
    ·rw[d,P] at hl;simp only[im,List.length_map] at hl;have m:z.flatten=[]:=fS hl.symm;have j:=e.gL;rw[m] at j;exact⟨[],by rw[d];rfl,j⟩
    ·exact⟨_,d,O⟩
  ·have i:bJ a=1 - c:=by
    have:bJ a=0\/bJ a=1:=by unfold bJ;split<;>simp
    omega
   have aF:(bG a (1 - c)≠[])\/(bG a (1 - c)=[]/\bG a c=[]):=by
    by_cases m:bG a (1 - c)=[]
    ·refine .inr ⟨m,?_⟩;have:c=0\/c=1:=by omega
     obtain rfl|rfl:=this
     ·exfalso;unfold bJ at i;have ae:bG a 1=[]:=m;rw[ae,if_neg (by unfold lO;simp)] at i;omega
     ·have ad:bG a 0=[]:=m;unfold bJ at i;rw[ad] at i;by_cases j:0<(bG a 1).length
      ·rw[if_pos (by unfold lO;simp;omega)] at i;omega
      ·exact fS (by omega)
    ·exact .inl m
   have aS:∀(k:(dJ a).1=0),_:=λk=>hcs.ok k;obtain m|⟨m,ap⟩:=aF
   ·obtain⟨d,_⟩|⟨L,R,au,av⟩:=ab
    ·exact absurd d m
    ·refine⟨λes q hl=>?_,λk=>?_,N,hcs.room⟩
     ·have G:es=bG a c\/es=bG a (1 - c):=by
       have:c=0\/c=1:=by omega
       obtain rfl|rfl:=this
       ·exact q
       ·exact q.symm
      obtain rfl|rfl:=G
      ·exact⟨z.flatten,P,e.gL⟩
      ·exact⟨_,L,O⟩
     ·obtain⟨f,n,s,H,I⟩:=hcs.ok k;rw[i] at f n s ⊢;refine⟨⟨[dH now p],[],⟨by omega,⟨⟨aH,by omega⟩,trivial⟩,by simpa using O,aL,by rw[f,av];simp,by rw[n,av];exact bK _,by rw[H];exact e.eS,by rw[I];exact e.ja⟩,λ_=>rfl,λd=>?_⟩,s,by rw[n,f],by rw[f];omega⟩;rw[R] at d;cases d
   ·rw[P] at ap;have aN:z.flatten=[]:=by simpa using ap
    have j:=e.gL;rw[aN] at j;obtain⟨L,R⟩|⟨L,_,au,_⟩:=ab
    ·refine⟨λes q hl=>?_,λk=>?_,N,hcs.room⟩
     ·rw[i,L] at hl;obtain rfl:=fS hl;exact⟨[],rfl,j⟩
     ·obtain⟨f,n,s,H,I⟩:=hcs.ok k;rw[i] at f n s ⊢;refine⟨⟨[],a.b (1 - c),⟨by omega,trivial,j,j.1.symm,by rw[f];rfl,fJ _,by rw[H];exact e.eS,by rw[I];exact e.ja⟩,λd=>?_,λd=>?_⟩,s,by rw[n,f],by rw[f];omega⟩
      ·rw[R] at d;simpa using d
      ·rw[R] at d;have aK:a.b (1 - c)≠[]:=by simpa using d
       obtain t|⟨t,_⟩|⟨t,ax⟩:=am
       ·exact absurd t aK
       ·rw[j.1];exact t
       ·exfalso;have:=O;rw[j.1,j.2] at ax;exact ax rfl
    ·exact absurd m (by rw[L];simpa using au)
 ·subst aC;obtain⟨S,X,ag,M⟩:=Lw e hF hd;have aa:bG a c=(z++[[J now aA]]).flatten.map canon/\iC a c=true:=by
   unfold bG iC;rw[M,uJ S];exact⟨by rw[List.map_flatten],rfl⟩
  have i:bG a (1 - c)=[]:=by unfold bG;rw[aD];rfl
  have hlen:0<(bG a c).length:=by rw[aa.1];simp
  have x:bJ a=c:=by
   have:c=0\/c=1:=by omega
   obtain rfl|rfl:=this
   ·have ae:bG a 1=[]:=i;unfold bJ;rw[ae,if_neg (by unfold lO;simp)]
   ·have ad:bG a 0=[]:=i;unfold bJ;rw[ad,if_pos (by unfold lO;simp;omega)]
  refine⟨ar,ai,.inr aB,λes q hl=>?_,aq ar ai _ [] x S X ag (by rw[M];simp) (.inl rfl) (by rw[aa.2];simp),N,hcs.room⟩;have G:es=bG a c\/es=bG a (1 - c):=by
   have:c=0\/c=1:=by omega
   obtain rfl|rfl:=this
   ·exact q
   ·exact q.symm
  obtain rfl|rfl:=G
  ·exact⟨_,aa.1,X⟩
  ·rw[x,i] at hl;simp only[im] at hl;omega
theorem BI{a:Int} (c:a<0):eK a<0:=by unfold eK;rw[if_neg (by omega)];exact c
theorem Lz{a:u} (d:Nat) (c:a.fuse<0):(eX a d).2.fuse<0:=by
 unfold eX;split
 ·exact c
 ·exact BI c
theorem LA{a:u} (d:Nat) (c:a.fuse<0):(dQ a d).2.fuse<0:=by
 unfold dQ;split
 ·exact c
 ·exact BI c
theorem LB{a:u} (d:a.fuse<0):(dJ a).2.fuse<0:=by
 unfold dJ fD;have hA:(if 0<(a.b (bJ a)).length then eX a (bJ a) else(true,a)).2.fuse<0:=by
  split
  ·exact Lz _ d
  ·exact d
 generalize (if 0<(a.b (bJ a)).length then eX a (bJ a) else(true,a))=c at *;dsimp only;by_cases e:c.1=false
 ·rw[if_pos e];exact hA
 rw[if_neg e];have i:(if 0<(a.b (1 - bJ a)).length then dQ c.2 (1 - bJ a) else(true,c.2)).2.fuse<0:=by
  split
  ·exact LA _ hA
  ·exact hA
 generalize (if 0<(a.b (1 - bJ a)).length then dQ c.2 (1 - bJ a) else(true,c.2))=j at *;by_cases f:j.1=false
 ·rw[if_pos f];exact i
 ·rw[if_neg f];exact i
theorem BJ{f now:Int} {d:Y} (e:bh f now d):∀a,dL d a<=200+4000* a
 |0=>by unfold dL;omega
 |a+1=>by
  have:=BJ e a;unfold dL;split
  ·omega
  ·rename_i c i;have hl:c.2.length<=120:=aM.wf.gU (e.wf a c.1 c.2 i);have j:ba c.2<=c.2.length:=by unfold ba;exact mg
   show dL d a+(60+30* (ba c.2:Int))<=200+4000* ((a+1:Nat):Int);omega
theorem BK{d now:Int} {a:Y} (c:bh d now a):((ay now a).length:Int)<=100000:=by
 have:=tw c;have:=BJ c 21;omega
structure kS (n:Nat) (I:z):Prop where
 same:I.W.now=I.now/\I.W.fl=I.fl
 ok:bh n I.now I.fl
 may:∀M,I.mb=E M->bh n M.now M.fl/\∃c,aA I.now I.fl c=(0,M.now,M.fl)
 most:dL I.fl 21<=I.most/\I.most<=1000000
 ch:0<=I.ch/\I.ch<=n
 room:¬I.K.T.room<200
 dU:n<=1048577
 file:I.K.file<2
structure js (n:Nat) (I:z):Prop where
 b:kS n I
 tE:dv I.K.T I.now I.fl (I.mb.map λM=>(M.now,M.fl)) (I.most+60* I.ch) I.most
structure bZ (n:Nat) (I:z):Prop where
 b:kS n I
 live:I.K.live=true->(∃b,I.kb=E b)/\I.sh=false/\I.mb=F/\cP I.K.T I.K.file I.K.torn I.now I.fl (I.most+60* I.ch)
 dead:I.K.live=false->dv I.K.T I.now I.fl (I.mb.map λM=>(M.now,M.fl)) (I.most+60* I.ch) I.most/\(I.kb=F\/I.sh=true)
theorem kS.tG{c:Nat} {I:z} (a:kS c I):200<=I.most:=by
 have:=vQ I.fl 21;have:=a.most;omega
theorem bZ.qR{c:Nat} {I:z} (a:bZ c I):js c I:=by
 refine⟨a.b,?_⟩;have f:=a.b.tG
 cases hl:I.K.live with
 |true=>
  obtain⟨_,_,d,e⟩:=a.live hl;rw[d];exact e.close (by omega) F
 |false=>exact(a.dead hl).1
theorem kS.more{c:Nat} {I:z} (a:kS c I) (e:c+1<=1048577):kS (c+1) I:=
 ⟨a.same,a.ok.more (by omega) (by omega),λM d=>⟨(a.may M d).1.more (by omega) (by omega),(a.may M d).2⟩,a.most,by have:=a.ch;omega,a.room,e,a.file⟩
theorem bZ.more{c:Nat} {I:z} (a:bZ c I) (d:c+1<=1048577):bZ (c+1) I:=⟨a.b.more d,a.live,a.dead⟩
theorem ai.ij{d:U} {e:Nat->Prop} {k:Nat} {I:z} (a:ai d e k I):ae d (λj=>I.okp j=30) I.K.tb I.K.T:=by
 cases c:I.kb with
 |none=>exact(a.keep.none c).1
 |some f=>
  obtain⟨⟨pt,i⟩,_⟩:=a.keep.some f c;exact i.tape
theorem ai.kT{k:U} {c:Nat->Prop} {j:Nat} {I:z} (f:ai k c j I) (a:Nat) (i:I.okp a≠0):c a:=by
 obtain⟨r,m,d,n,o,p,q,e⟩:=f.ex;exact e a (by rw[d a i];omega)
theorem ai.qS{f:U} {c:Nat->Prop} {a:Nat} {I:z} (e:ai f c a I):c a:=by
 obtain⟨j,i,_,_,_,_,_,d⟩:=e.ex;exact d a (by omega)
theorem ai.LC{i:U} {d:Nat->Prop} {a:Nat} {I:z} (f:ai i d a I):I.okp a=0:=by
 obtain⟨m,j,e,_,_,_,_,k⟩:=f.ex;by_cases c:I.okp a=0
 ·exact c
 ·have:=e a c;omega
theorem vY{o:U} {n:Nat->Nat} {tb:Nat} {a:u} {now:Int} {p:Y} {s:Option (Int×Y)} {B C N:Int} (t:ae o (λf=>n f=30) tb a) (hS:∀f,n f=30->f<o.heap.size) (hd:dv a now p s B C) (hF:bh N now p) (O:∀x d,s=E (x,d)->bh N x d) (S:¬a.room<200) (X:B<=1099511627776) (J:C<=B) (ad:N<=1000000000):
  ∃k j,((k=now/\j=p)\/s=E (k,j))/\Calls T 20 #[b (E ⟨tb,0,F⟩)] o λi w'=>(∃(r d:Nat) (z:Bool) (c:u),i=g (h #[b (E ⟨r,0,F⟩),y K 0])/\qN o w' n r tb d z c k j/\cP c d z k j B/\c.room=a.room)\/(i=g (h #[b F,y K 16])/\0<=a.fuse/\∃c,ae w' (λf=>n f=30) tb c/\c.fuse=0/\dv c now p s B C/\c.room=a.room/\G (λf=>n f=30) o w'):=by
 have M:=λe (hi:e<4)=>(t.last e hi).1;obtain⟨k,j,w,m⟩:=hd.opens hF M J;have L:bh N k j:=by
  obtain⟨rfl,rfl⟩|i:=w
  ·exact hF
  ·exact O _ _ i
 have hlen:∀e,e<2->(a.b e).length<=1099511627776:=by
  obtain⟨d,af,ag,P,aa,ab,_⟩:=hd.ex;have:=P.hf;intro e hi;by_cases i:e=d
  ·subst i;omega
  ·have:e=1 - d:=by omega
   subst this;omega
 refine⟨k,j,w,(JI t hS S (hlen 0 (by omega)) (hlen 1 (by omega)) (by have:=L.time;omega) m.gL).mono ?_⟩;rintro i w' ⟨A,D⟩;by_cases q:(dJ a).1=0
 ·obtain⟨r,rfl,Q⟩:=A q;exact .inl ⟨r,_,_,_,rfl,Q,m.ok q,m.room⟩
 ·obtain⟨rfl,H,I⟩:=D q;obtain⟨_,d1,d2⟩:=m.dead q;refine .inr ⟨rfl,?_,_,H,d1,d2,m.room,I⟩;by_cases R:a.fuse<0
  ·have:=LB R;omega
  ·omega
theorem vZ{c now:Int} {a:Y} {K:aO} {B:Int} (hF:bh c now a) (hd:cP K.T K.file K.torn now a B):nn now a K:=by
 have d:=BK hF;exact⟨hF.gP 0 (.inl rfl),pG hF,Be hF,hd.hf,by rw[hd.pK];simp only[im];omega⟩
theorem BL{f now:Int} {d:Y} {a:aO} {k:Option (Int×Y)} {B C:Int} (hF:bh f now d) (hd:dv a.T now d k B C) (hf:a.file<2) (m:B<=1099511627776) (p:C<=B):nn now d a/\((a.T.b a.file).length:Int)<=B:=by
 have q:=BK hF;have hlen:∀c,c<2->((a.T.b c).length:Int)<=B:=by
  obtain⟨e,r,s,j,n,o,_⟩:=hd.ex;have:=j.hf;intro c hi;by_cases i:c=e
  ·subst i;omega
  ·have:c=1 - e:=by omega
   subst this;omega
 refine⟨⟨hF.gP 0 (.inl rfl),pG hF,Be hF,hf,?_⟩,hlen _ hf⟩;have:=hlen (1 - a.file) (by omega);omega
theorem ai.BM{q w':U} {Y S:Nat->Prop} {f:Nat} {I I':z} (t:ai q Y f I) (J:G S q w') (hs:∀a,Y a->S a->a=f\/I.okp a≠0) (aI:X w' f (dA I') 55) (P:(I'.kb=I.kb/\I'.okp=I.okp/\I'.om=I.om/\I'.now=I.now/\I'.fl=I.fl/\I'.K=I.K/\I'.tl=I.tl/\∀a,I.okp a≠0->¬S a)\/(oG w' I'.okp I'.om I'.kb I'.now I'.fl I'.K I'.tl/\(∀a,I'.okp a≠0->I.okp a≠0\/(q.heap.size<=a/\a<w'.heap.size))/\∀a,I'.om a=0))
  (af:(I'.W=I.W/\(I'.mb=I.mb\/I'.mb=F))\/(I.mb=E I'.W/\I'.mb=F)) (ag:(I'.owt=I.owt/\I'.tob=I.tob/\I'.vs=I.vs/\I'.ns=I.ns/\I'.bs=I.bs)\/(nr w' I'.owt I'.tob I'.vs I'.ns I'.bs/\(∀a,I'.owt a≠0->q.heap.size<=a/\a<w'.heap.size/\I'.okp a=0))):ai w' (grow Y q w') f I':=by
 obtain⟨o,aQ,B,ak,ab,am,ad,m⟩:=t.ex;have aL:=J.size;have w:∀a,o a≠0->a<q.heap.size:=λa c=>t.lt a (m a c);have Q:∀a N,o a=N->N≠0->N≠1->N≠2->¬S a:=λa N d aR aS p j=>by
  obtain ae|ae:=hs a (m a (by omega)) j
  ·subst ae;omega
  ·have:=B a ae;omega
 have aK:oG w' I'.okp I'.om I'.kb I'.now I'.fl I'.K I'.tl:=by
  obtain⟨aw,x,aa,ax,ay,aA,aB,aC⟩|⟨r,_⟩:=P
  ·rw[aw,x,aa,ax,ay,aA,aB];exact t.keep.mod J aC (λa c=>Q a _ (am a c) (by omega) (by omega) (by omega))
  ·exact r
 have aM:nr w' I'.owt I'.tob I'.vs I'.ns I'.bs:=by
  obtain⟨A,aD,aE,aF,aH⟩|⟨s,_⟩:=ag
  ·rw[A,aD,aE,aF,aH];exact t.told.mod J (λa c=>Q a _ (ab a c) (by omega) (by omega) (by omega))
  ·exact s
 have au:∀M,I.mb=E M->iZ w' M:=λM i=>(t.may M i).mod J (λa c=>Q a _ (ad M i a c) (by omega) (by omega) (by omega));have av:iZ w' I'.W/\∀M,I'.mb=E M->iZ w' M:=by
  obtain⟨k,e⟩|⟨k,e⟩:=af
  ·refine⟨by rw[k];exact t.aR.mod J (λa c=>Q a _ (ak a c) (by omega) (by omega) (by omega)),λM i=>?_⟩;obtain e|e:=e
   ·exact au M (by rw[<-e];exact i)
   ·rw[e] at i;cases i
  ·exact⟨au _ k,λM i=>by rw[e] at i;cases i⟩
 refine⟨aI,aK,av.1,av.2,aM,?_,λa c=>?_⟩
 ·classical
  refine⟨λa=>if a=f then 1 else if I'.okp a≠0 then 2 else if I'.W.ow a≠0 then 3 else if I'.owt a≠0 then 4 else if I'.om a≠0 then 5 else if ∃M,I'.mb=E M/\M.ow a≠0 then 6 else 0,if_pos rfl,?_⟩;have L:∀a,I'.okp a≠0->o a=2\/q.heap.size<=a:=λa c=>by
   obtain⟨_,x,_⟩|⟨_,r,_⟩:=P
   ·exact .inl (B a (by rw[<-x];exact c))
   ·obtain j|j:=r a c
    ·exact .inl (B a j)
    ·exact .inr j.1
  have ah:∀a,I'.om a≠0->o a=5:=λa c=>by
   obtain⟨_,_,aa,_⟩|⟨_,_,r⟩:=P
   ·exact am a (by rw[<-aa];exact c)
   ·exact absurd (r a) c
  have H:∀a,I'.W.ow a≠0->(o a=3/\I'.W=I.W)\/(o a=6/\I.mb=E I'.W/\I'.mb=F):=λa c=>by
   obtain⟨k,_⟩|⟨k,e⟩:=af
   ·exact .inl ⟨ak a (by rw[<-k];exact c),k⟩
   ·exact .inr ⟨ad _ k a c,k,e⟩
  have i:∀M,I'.mb=E M->∀a,M.ow a≠0->o a=6/\I'.W=I.W:=λM i a c=>by
   obtain⟨k,e⟩|⟨_,e⟩:=af
   ·obtain e|e:=e
    ·exact⟨ad M (by rw[<-e];exact i) a c,k⟩
    ·rw[e] at i;cases i
   ·rw[e] at i;cases i
  have aj:∀a,I'.owt a≠0->o a=4\/(q.heap.size<=a/\I'.okp a=0):=λa c=>by
   obtain⟨A,_⟩|⟨_,s⟩:=ag
   ·exact .inl (ab a (by rw[<-A];exact c))
   ·exact .inr ⟨(s a c).1,(s a c).2.2⟩
  have aU:=w f (by omega);refine⟨λa c=>?_,λa c=>?_,λa c=>?_,λa c=>?_,λM R a c=>?_,λa c=>?_⟩
  ·have:=L a c;have n:a≠f:=λd=>by subst d;omega
   show(if a=f then 1 else if I'.okp a≠0 then 2 else _)=2;rw[if_neg n,if_pos c]
  ·have u:=H a c;have hl:=w a (by omega);have n:a≠f:=λd=>by subst d;omega
   have p:¬I'.okp a≠0:=λd=>by have:=L a d;omega
   show(if a=f then 1 else if I'.okp a≠0 then 2 else if I'.W.ow a≠0 then 3 else _)=3;rw[if_neg n,if_neg p,if_pos c]
  ·have D:=aj a c;have n:a≠f:=λd=>by subst d;omega
   have p:¬I'.okp a≠0:=λd=>by
    obtain j|j:=D
    ·have:=L a d;have:=w a (by omega);omega
    ·exact d j.2
   have u:¬I'.W.ow a≠0:=λd=>by
    have:=H a d;have:=w a (by omega);omega
   show(if a=f then 1 else if I'.okp a≠0 then 2 else if I'.W.ow a≠0 then 3 else if I'.owt a≠0 then 4 else _)=4;rw[if_neg n,if_neg p,if_neg u,if_pos c]
  ·have ar:=ah a c;have hl:=w a (by omega);have n:a≠f:=λd=>by subst d;omega
   have p:¬I'.okp a≠0:=λd=>by have:=L a d;omega
   have u:¬I'.W.ow a≠0:=λd=>by have:=H a d;omega
   have D:¬I'.owt a≠0:=λd=>by have:=aj a d;omega
   show(if a=f then 1 else if I'.okp a≠0 then 2 else if I'.W.ow a≠0 then 3 else if I'.owt a≠0 then 4 else if I'.om a≠0 then 5 else _)=5;rw[if_neg n,if_neg p,if_neg u,if_neg D,if_pos c]
  ·have aT:=(i M R a c).1;have hl:=w a (by omega);have n:a≠f:=λd=>by subst d;omega
   have p:¬I'.okp a≠0:=λd=>by have:=L a d;omega
   have u:¬I'.W.ow a≠0:=λd=>by
    obtain j|j:=H a d
    ·omega
    ·have:=j.2.2;rw[this] at R;cases R
   have D:¬I'.owt a≠0:=λd=>by have:=aj a d;omega
   have ar:¬I'.om a≠0:=λd=>by have:=ah a d;omega
   show(if a=f then 1 else if I'.okp a≠0 then 2 else if I'.W.ow a≠0 then 3 else if I'.owt a≠0 then 4 else if I'.om a≠0 then 5 else if ∃M,I'.mb=E M/\M.ow a≠0 then 6 else 0)=6;rw[if_neg n,if_neg p,if_neg u,if_neg D,if_neg ar,if_pos ⟨M,R,c⟩]
  ·have c:(if a=f then 1 else if I'.okp a≠0 then 2 else if I'.W.ow a≠0 then 3 else if I'.owt a≠0 then 4 else if I'.om a≠0 then 5 else if ∃M,I'.mb=E M/\M.ow a≠0 then 6 else 0)≠0:=c;by_cases k:a=f
   ·exact .inl (k ▸ m f (by omega))
   rw[if_neg k] at c;by_cases e:I'.okp a≠0
   ·obtain⟨_,x,_⟩|⟨_,r,_⟩:=P
    ·exact .inl (m a (by rw[B a (by rw[<-x];exact e)];omega))
    ·obtain j|j:=r a e
     ·exact .inl (m a (by rw[B a j];omega))
     ·exact .inr j
   rw[if_neg e] at c;by_cases ao:I'.W.ow a≠0
   ·obtain j|j:=H a ao
    ·exact .inl (m a (by omega))
    ·exact .inl (m a (by omega))
   rw[if_neg ao] at c;by_cases O:I'.owt a≠0
   ·obtain⟨A,_⟩|⟨_,s⟩:=ag
    ·exact .inl (m a (by rw[ab a (by rw[<-A];exact O)];omega))
    ·exact .inr ⟨(s a O).1,(s a O).2.1⟩
   rw[if_neg O] at c;by_cases ap:I'.om a≠0
   ·exact .inl (m a (by rw[ah a ap];omega))
   rw[if_neg ap] at c;by_cases aq:∃M,I'.mb=E M/\M.ow a≠0
   ·obtain⟨M,aN,aO⟩:=aq;exact .inl (m a (by rw[(i M aN a aO).1];omega))
   ·rw[if_neg aq] at c;exact absurd rfl c
 ·obtain c|c:=c
  ·exact aG (t.lt a c) aL
  ·exact c.2
theorem ai.tH{d w':U} {f S:Nat->Prop} {e:Nat} {I I':z} (i:ai d f e I) (J:G S d w') (hs:∀a,f a->S a->a=e) (H:X w' e (dA I') 55) (x:(I'.kb=I.kb/\I'.okp=I.okp/\I'.om=I.om/\I'.now=I.now/\I'.fl=I.fl/\I'.K=I.K/\I'.tl=I.tl)\/(oG w' I'.okp I'.om I'.kb I'.now I'.fl I'.K I'.tl/\(∀a,I'.okp a≠0->d.heap.size<=a/\a<w'.heap.size)/\∀a,I'.om a=0))
  (w:(I'.W=I.W/\(I'.mb=I.mb\/I'.mb=F))\/(I.mb=E I'.W/\I'.mb=F)) (A:(I'.owt=I.owt/\I'.tob=I.tob/\I'.vs=I.vs/\I'.ns=I.ns/\I'.bs=I.bs)\/(nr w' I'.owt I'.tob I'.vs I'.ns I'.bs/\(∀a,I'.owt a≠0->d.heap.size<=a/\a<w'.heap.size/\I'.okp a=0))):ai w' (grow f d w') e I':=
 i.BM J (λa B D=>.inl (hs a B D)) H (x.imp (λ⟨k,m,n,o,p,q,r⟩=>⟨k,m,n,o,p,q,r,λa c u=>by
  have:=hs a (i.kT a c) u
  rw[this] at c
  exact c i.LC⟩) (λ⟨j,s,t⟩=>⟨j,λa c=>.inr (s a c),t⟩)) w A
set_option maxHeartbeats 8000000
theorem LD{w:U} {a1 a2:Option Addr} {a c c1 c2:Nat} {r1 k1 d r2 k2 e:Int} {m1 m2:Bool} (s:d≠e) (hl:a<=120/\c<=120):Calls T 65 #[l #[C a1 a c1,y K r1,y K k1,y K d,W m1],l #[C a2 c c2,y K r2,y K k2,y K e,W m2]] w λr w'=>r=g (W false)/\G No w w':=by
 have j:=i (((G.refl No w).alloc (v #[C a1 a c1,y K r1,y K k1,y K d,W m1] 146)).alloc (v #[C a2 c c2,y K r2,y K k2,y K e,W m2] 146));have n:=i ((X.new w #[C a1 a c1,y K r1,y K k1,y K d,W m1] 146).alloc (v #[C a2 c c2,y K r2,y K k2,y K e,W m2] 146));have m:=i (X.new (w.alloc (v #[C a1 a c1,y K r1,y K k1,y K d,W m1] 146)) #[C a2 c c2,y K r2,y K k2,y K e,W m2] 146)
 have u:(d !=e)=true:=by simpa using s
 go_enter func65,ntmps65;rw[bj] at m;go_upto_region 1 with fail;generalize (w.alloc (v #[C a1 a c1,y K r1,y K k1,y K d,W m1] 146)).alloc (v #[C a2 c c2,y K r2,y K k2,y K e,W m2] 146)=f at *;generalize w.heap.size+1=p at *;generalize w.heap.size=o at *;have x:f.cell? ⟨o,0,F⟩=E (C a1 a c1):=(k n).cell 0;have z:f.cell? ⟨o,3,F⟩=E (y K d):=(k n).cell 3;have A:f.cell? ⟨o,4,F⟩=E (W m1):=(k n).cell 4
 have B:=(k n).lt;have D:f.cell? ⟨p,0,F⟩=E (C a2 c c2):=(k m).cell 0;have H:f.cell? ⟨p,3,F⟩=E (y K e):=(k m).cell 3;have I:f.cell? ⟨p,4,F⟩=E (W m2):=(k m).cell 4;have J:=(k m).lt;by_cases q:a=c
 ·have t:((a:Int) !=(c:Int))=false:=by simp[q]
  subst q
  cases m1 with
  |true=>
   cases m2 with
   |true=>go_wp2;go_ret;exact⟨rfl,k j⟩
   |false=>go_wp2;go_ret;exact⟨rfl,k j⟩
  |false=>
   cases m2 with
   |true=>go_wp2;go_ret;exact⟨rfl,k j⟩
   |false=>go_wp2;go_ret;exact⟨rfl,k j⟩
 ·have t:((a:Int) !=(c:Int))=true:=by simp;omega
  go_wp2;go_ret;exact⟨rfl,k j⟩
set_option maxHeartbeats 4000000
theorem dt.BO{xs:List e} {d:Nat->Option (O×List B)} (f:dt xs d) (a:Int) (hc:¬(1<=a/\a<=20)):cT xs a= -1:=by
 obtain c|⟨j,hi,c,i⟩:=vF xs a
 ·exact c
 ·have:=f.gP _ (dD hi);omega
theorem BP{i:U} {n:Nat->Nat} {j:Nat} {o:V} {xs:List e} {now:Int} {d:Nat->Option (O×List B)} (c:aF i n j o xs now) (hs:dt xs d) (a:Int):Calls T 36 #[b (E ⟨j,0,F⟩),y K a] i λk w'=>k=g (h #[l (gr d a).1,y K (gr d a).2])/\G No i w':=by
 unfold gr;by_cases f:1<=a/\a<=20
 case neg=>
  rw[if_pos f];exact zI c a (hs.BO a f)
 rw[if_neg (by omega)];obtain⟨f1,f2⟩|⟨m,hi,f1,f2,f3⟩:=hs.find a f
 ·rw[f2];exact zI c a f1
 ·rw[f3];obtain⟨p,cap,rfl⟩:=c.some (by omega);exact Ic c a m hi f1
theorem v8(d:Nat->Option (O×List B)) (e:Int):∃a c f:Nat->Int,(gr d e).1=cw a c f:=by
 unfold gr;split
 ·exact⟨λ_=>0,λ_=>0,λ_=>0,rfl⟩
 ·split
  ·exact⟨λ_=>0,λ_=>0,λ_=>0,rfl⟩
  ·exact⟨_,_,_,(H8 _ _).symm⟩
theorem LF{f:U} {c:Nat} (a d e:Nat->Int) (i:X f c cn 91):X ((((((((((((f.setCell ⟨c,0,F⟩ (y K (a 0))).setCell ⟨c,1,F⟩ (y K (a 1))).setCell ⟨c,2,F⟩ (y K (a 2))).setCell ⟨c,3,F⟩ (y K (a 3))).setCell ⟨c,4,F⟩ (y K (d 0))).setCell ⟨c,5,F⟩ (y K (d 1))).setCell ⟨c,6,F⟩ (y K (d 2))).setCell ⟨c,7,F⟩ (y K (d 3))).setCell ⟨c,8,F⟩ (y K (e 0))).setCell ⟨c,9,F⟩ (y K (e 1))).setCell ⟨c,10,F⟩ (y K (e 2))).setCell ⟨c,11,F⟩ (y K (e 3))) c (cw a d e) 91/\G (λx=>x=c) f ((((((((((((f.setCell ⟨c,0,F⟩ (y K (a 0))).setCell ⟨c,1,F⟩ (y K (a 1))).setCell ⟨c,2,F⟩ (y K (a 2))).setCell ⟨c,3,F⟩ (y K (a 3))).setCell ⟨c,4,F⟩ (y K (d 0))).setCell ⟨c,5,F⟩ (y K (d 1))).setCell ⟨c,6,F⟩ (y K (d 2))).setCell ⟨c,7,F⟩ (y K (d 3))).setCell ⟨c,8,F⟩ (y K (e 0))).setCell ⟨c,9,F⟩ (y K (e 1))).setCell ⟨c,10,F⟩ (y K (e 2))).setCell ⟨c,11,F⟩ (y K (e 3))):=by
 unfold cn at i;have j:X (f.setCell ⟨c,0,F⟩ (y K (a 0))) c #[y K (a 0),y K 0,y K 0,y K 0,y K 0,y K 0,y K 0,y K 0,y K 0,y K 0,y K 0,y K 0] 91:=i.set 0 _;have k:X ((f.setCell ⟨c,0,F⟩ (y K (a 0))).setCell ⟨c,1,F⟩ (y K (a 1))) c #[y K (a 0),y K (a 1),y K 0,y K 0,y K 0,y K 0,y K 0,y K 0,y K 0,y K 0,y K 0,y K 0] 91:=j.set 1 _
 have o:X (((f.setCell ⟨c,0,F⟩ (y K (a 0))).setCell ⟨c,1,F⟩ (y K (a 1))).setCell ⟨c,2,F⟩ (y K (a 2))) c #[y K (a 0),y K (a 1),y K (a 2),y K 0,y K 0,y K 0,y K 0,y K 0,y K 0,y K 0,y K 0,y K 0] 91:=k.set 2 _
 have p:X ((((f.setCell ⟨c,0,F⟩ (y K (a 0))).setCell ⟨c,1,F⟩ (y K (a 1))).setCell ⟨c,2,F⟩ (y K (a 2))).setCell ⟨c,3,F⟩ (y K (a 3))) c #[y K (a 0),y K (a 1),y K (a 2),y K (a 3),y K 0,y K 0,y K 0,y K 0,y K 0,y K 0,y K 0,y K 0] 91:=o.set 3 _
 have q:X (((((f.setCell ⟨c,0,F⟩ (y K (a 0))).setCell ⟨c,1,F⟩ (y K (a 1))).setCell ⟨c,2,F⟩ (y K (a 2))).setCell ⟨c,3,F⟩ (y K (a 3))).setCell ⟨c,4,F⟩ (y K (d 0))) c #[y K (a 0),y K (a 1),y K (a 2),y K (a 3),y K (d 0),y K 0,y K 0,y K 0,y K 0,y K 0,y K 0,y K 0] 91:=p.set 4 _
 have r:X ((((((f.setCell ⟨c,0,F⟩ (y K (a 0))).setCell ⟨c,1,F⟩ (y K (a 1))).setCell ⟨c,2,F⟩ (y K (a 2))).setCell ⟨c,3,F⟩ (y K (a 3))).setCell ⟨c,4,F⟩ (y K (d 0))).setCell ⟨c,5,F⟩ (y K (d 1))) c #[y K (a 0),y K (a 1),y K (a 2),y K (a 3),y K (d 0),y K (d 1),y K 0,y K 0,y K 0,y K 0,y K 0,y K 0] 91:=q.set 5 _
 have s:X (((((((f.setCell ⟨c,0,F⟩ (y K (a 0))).setCell ⟨c,1,F⟩ (y K (a 1))).setCell ⟨c,2,F⟩ (y K (a 2))).setCell ⟨c,3,F⟩ (y K (a 3))).setCell ⟨c,4,F⟩ (y K (d 0))).setCell ⟨c,5,F⟩ (y K (d 1))).setCell ⟨c,6,F⟩ (y K (d 2))) c #[y K (a 0),y K (a 1),y K (a 2),y K (a 3),y K (d 0),y K (d 1),y K (d 2),y K 0,y K 0,y K 0,y K 0,y K 0] 91:=r.set 6 _
 have t:X ((((((((f.setCell ⟨c,0,F⟩ (y K (a 0))).setCell ⟨c,1,F⟩ (y K (a 1))).setCell ⟨c,2,F⟩ (y K (a 2))).setCell ⟨c,3,F⟩ (y K (a 3))).setCell ⟨c,4,F⟩ (y K (d 0))).setCell ⟨c,5,F⟩ (y K (d 1))).setCell ⟨c,6,F⟩ (y K (d 2))).setCell ⟨c,7,F⟩ (y K (d 3))) c #[y K (a 0),y K (a 1),y K (a 2),y K (a 3),y K (d 0),y K (d 1),y K (d 2),y K (d 3),y K 0,y K 0,y K 0,y K 0] 91:=s.set 7 _
 have u:X (((((((((f.setCell ⟨c,0,F⟩ (y K (a 0))).setCell ⟨c,1,F⟩ (y K (a 1))).setCell ⟨c,2,F⟩ (y K (a 2))).setCell ⟨c,3,F⟩ (y K (a 3))).setCell ⟨c,4,F⟩ (y K (d 0))).setCell ⟨c,5,F⟩ (y K (d 1))).setCell ⟨c,6,F⟩ (y K (d 2))).setCell ⟨c,7,F⟩ (y K (d 3))).setCell ⟨c,8,F⟩ (y K (e 0))) c #[y K (a 0),y K (a 1),y K (a 2),y K (a 3),y K (d 0),y K (d 1),y K (d 2),y K (d 3),y K (e 0),y K 0,y K 0,y K 0] 91:=t.set 8 _
 have w:X ((((((((((f.setCell ⟨c,0,F⟩ (y K (a 0))).setCell ⟨c,1,F⟩ (y K (a 1))).setCell ⟨c,2,F⟩ (y K (a 2))).setCell ⟨c,3,F⟩ (y K (a 3))).setCell ⟨c,4,F⟩ (y K (d 0))).setCell ⟨c,5,F⟩ (y K (d 1))).setCell ⟨c,6,F⟩ (y K (d 2))).setCell ⟨c,7,F⟩ (y K (d 3))).setCell ⟨c,8,F⟩ (y K (e 0))).setCell ⟨c,9,F⟩ (y K (e 1))) c #[y K (a 0),y K (a 1),y K (a 2),y K (a 3),y K (d 0),y K (d 1),y K (d 2),y K (d 3),y K (e 0),y K (e 1),y K 0,y K 0] 91:=u.set 9 _
 have m:X (((((((((((f.setCell ⟨c,0,F⟩ (y K (a 0))).setCell ⟨c,1,F⟩ (y K (a 1))).setCell ⟨c,2,F⟩ (y K (a 2))).setCell ⟨c,3,F⟩ (y K (a 3))).setCell ⟨c,4,F⟩ (y K (d 0))).setCell ⟨c,5,F⟩ (y K (d 1))).setCell ⟨c,6,F⟩ (y K (d 2))).setCell ⟨c,7,F⟩ (y K (d 3))).setCell ⟨c,8,F⟩ (y K (e 0))).setCell ⟨c,9,F⟩ (y K (e 1))).setCell ⟨c,10,F⟩ (y K (e 2))) c #[y K (a 0),y K (a 1),y K (a 2),y K (a 3),y K (d 0),y K (d 1),y K (d 2),y K (d 3),y K (e 0),y K (e 1),y K (e 2),y K 0] 91:=w.set 10 _
 have n:X ((((((((((((f.setCell ⟨c,0,F⟩ (y K (a 0))).setCell ⟨c,1,F⟩ (y K (a 1))).setCell ⟨c,2,F⟩ (y K (a 2))).setCell ⟨c,3,F⟩ (y K (a 3))).setCell ⟨c,4,F⟩ (y K (d 0))).setCell ⟨c,5,F⟩ (y K (d 1))).setCell ⟨c,6,F⟩ (y K (d 2))).setCell ⟨c,7,F⟩ (y K (d 3))).setCell ⟨c,8,F⟩ (y K (e 0))).setCell ⟨c,9,F⟩ (y K (e 1))).setCell ⟨c,10,F⟩ (y K (e 2))).setCell ⟨c,11,F⟩ (y K (e 3))) c #[y K (a 0),y K (a 1),y K (a 2),y K (a 3),y K (d 0),y K (d 1),y K (d 2),y K (d 3),y K (e 0),y K (e 1),y K (e 2),y K (e 3)] 91:=m.set 11 _
 exact⟨n,(((((((((((((G.refl _ f).at 0 _).at 1 _).at 2 _).at 3 _).at 4 _).at 5 _).at 6 _).at 7 _).at 8 _).at 9 _).at 10 _).at 11 _)⟩
structure jt (w wx:U) (g:Nat) (a b s:Nat->Int):Prop where
 has:X wx g (cw a b s) 91
 mod:G No w wx
theorem jt.still{j k m:U} {d:Nat} {a c i:Nat->Int} (e:jt j k d a c i) (f:G No k m):jt j m d a c i:=⟨f.has e.has (λn=>n),e.mod.trans f⟩
theorem jt.one{f wr e:U} {a c d:Nat->Int} (j:G No f wr) (i:G No wr.drew e):jt f (e.alloc (v #[y K (a 0),y K (a 1),y K (a 2),y K (a 3),y K (c 0),y K (c 1),y K (c 2),y K (c 3),y K (d 0),y K (d 1),y K (d 2),y K (d 3)] 91)) e.heap.size a c d:=
 ⟨X.new e (cw a c d) 91,(j.drew.trans i).alloc _⟩
theorem jt.two{i wr j:U} {a c d:Nat->Int} (f:G No i wr) (e:G No (wr.alloc (v #[y K 0,y K 0,y K 0,y K 0,y K 0,y K 0,y K 0,y K 0,y K 0,y K 0,y K 0,y K 0] 91)).drew j):jt i ((((((((((((j.setCell ⟨wr.heap.size,0,F⟩ (y K (a 0))).setCell ⟨wr.heap.size,1,F⟩ (y K (a 1))).setCell ⟨wr.heap.size,2,F⟩ (y K (a 2))).setCell ⟨wr.heap.size,3,F⟩ (y K (a 3))).setCell ⟨wr.heap.size,4,F⟩ (y K (c 0))).setCell ⟨wr.heap.size,5,F⟩ (y K (c 1))).setCell ⟨wr.heap.size,6,F⟩ (y K (c 2))).setCell ⟨wr.heap.size,7,F⟩ (y K (c 3))).setCell ⟨wr.heap.size,8,F⟩ (y K (d 0))).setCell ⟨wr.heap.size,9,F⟩ (y K (d 1))).setCell ⟨wr.heap.size,10,F⟩ (y K (d 2))).setCell ⟨wr.heap.size,11,F⟩ (y K (d 3))) wr.heap.size a c d:=by
 have n:=e.has (show X (wr.alloc (v #[y K 0,y K 0,y K 0,y K 0,y K 0,y K 0,y K 0,y K 0,y K 0,y K 0,y K 0,y K 0] 91)).drew wr.heap.size cn 91 from(X.new wr cn 91).drew) (λo=>o);obtain⟨k,m⟩:=LF a c d n;refine⟨k,((f.alloc _).drew.trans e).trans' m (λp hi hl=>?_)⟩;have:=f.size;omega
structure lZ (S:Array V) (k b c:Int):Prop where
 size:S.size=25
 eJ:S[0]? =E (y K k)
 eS:S[2]? =E (y K b)
 c3:S[3]? =E (y K c)
structure l7 where
 kb:Nat
 okp:Nat->Nat
 wb:Nat
 LG:Nat->Nat
 v:V
 xs:List e
 now:Int
 fl:Nat->Option (O×List B)
structure ny (w:U) (ob:Nat) (I:l7):Prop where
 tI:w.cell? ⟨ob,1,F⟩=E (b (E ⟨I.kb,0,F⟩))
 tJ:w.cell? ⟨ob,2,F⟩=E (b (E ⟨I.wb,0,F⟩))
 lt:ob<w.heap.size
 keep:oh w I.okp I.kb I.now I.fl
 aR:aF w I.LG I.wb I.v I.xs I.now
 same:dt I.xs I.fl
theorem ny.mod{w w':U} {j:Nat} {I:l7} (a:ny w j I) (e:G No w w') (hs:∀i,No i->¬No i):ny w' j I:=by
 have hc:∀d f,w.cell? d=E f->w'.cell? d=E f:=λd f hc=>by
  have hl:=jA w d hc;unfold World.cell? at hc ⊢;rw[e.block _ hl (λc=>c)];exact hc
 exact⟨hc _ _ a.tI,hc _ _ a.tJ,aG a.lt e.size,a.keep.mod e (λ_ _ c=>c),a.aR.mod e (λ_ _ c=>c),a.same⟩
theorem ai.ask{k:U} {m:Nat->Prop} {j c:Nat} {I:z} (a:ai k m j I) (f:I.kb=E c) (e:I.W.now=I.now/\I.W.fl=I.fl):ny k j ⟨c,I.okp,I.W.wb,I.W.ow,I.W.v,I.W.xs,I.now,I.fl⟩:=by
 obtain⟨⟨pt,n⟩,_⟩:=a.keep.some c f;have d:=a.has.cell 1;rw[show(dA I)[1]? =E (fj I.kb) from rfl,f] at d;have i:=a.aR.aR;have hs:=a.aR.same;rw[e.1] at i;rw[e.2] at hs;exact⟨d,a.has.cell 2,a.has.lt,⟨pt,n.keep⟩,i,hs⟩
theorem LH{a:U} {d t:Nat} {I:l7} (m:ny a d I) {S:Array V} {p q:Int} (hS:lZ S 3 p q):Calls T 17 #[b (E ⟨t,0,F⟩),b (E ⟨d,0,F⟩),l S] a λr w'=>r=g (W true)/\G No a w':=by
 have e:=X.new a S 45;have b0:(a.alloc (v S 45)).cell? ⟨a.heap.size,0,F⟩=E (y K 3):=(e.cell 0).trans hS.eJ;have j:=i ((G.refl No a).alloc (v S 45));have c:=m.mod (k j) (λ_ _ f=>f);obtain⟨pt,n⟩:=c.keep;have o:=i λs=>uz (n.mod ((G.refl No (a.alloc (v S 45))).drewN s) (λ_ _ f=>f));have w:(a.alloc (v S 45)).cell? ⟨d,1,F⟩=E (b (E ⟨I.kb,0,F⟩)):=c.tI
 have x:(a.alloc (v S 45)).cell? ⟨d,2,F⟩=E (b (E ⟨I.wb,0,F⟩)):=c.tJ;have B:(a.alloc (v S 45)).cell? ⟨I.wb,1,F⟩=E (y K I.now):=c.aR.has.cell 1;have z:=c.lt;have A:=c.aR.has.lt;have u:=e.lt;clear m c n e hS;go_enter func17,ntmps17;go_wp2_with fail;go_quiet ((go_at_call 32;exact Calls.quiet_of_same ((k o) _)));go_wp2;go_ret;exact⟨rfl,(k j).drewN _⟩
set_option maxHeartbeats 8000000
theorem BQ{k:U} {q:Nat->Nat} {n:Nat} {r:V} {xs:List e} {now:Int} {m:Nat->Option (O×List B)} (i:aF k q n r xs now) (hs:dt xs m) (a f c d size:Int):Calls T 64 #[b (E ⟨n,0,F⟩),y K a,l #[y K f,y K c,y K d],y K size] k λo w'=>Told k w' o (iY m a f c d size):=by
 unfold iY;by_cases j:1<=a/\a<=20
 case neg=>
  rw[if_pos j];exact AR i a f c d size (hs.BO a j)
 rw[if_neg (by omega)];obtain⟨f1,f2⟩|⟨p,hi,f1,f2,f3⟩:=hs.find a j
 ·rw[f2];exact AR i a f c d size f1
 ·rw[f3];obtain⟨s,cap,rfl⟩:=i.some (by omega);exact K7 i a f c d size p hi f1
theorem LI{p:O} {d:List B} {e a c size:Int}:(eP p d e a c size).S.length<=30:=by
 unfold eP;split
 ·simp
 ·split
  ·simp
  ·simp only[dj];omega
theorem LJ(d:Nat->Option (O×List B)) (e f a c size:Int):(iY d e f a c size).S.length<=30:=by
 unfold iY;split
 ·simp
 ·split
  ·simp
  ·exact LI
def z.ju(a:z) (R:fG):z:=if R.err=0 then { a with n0:=R.r,n1:=R.c,n2:=R.ep } else a
structure kd (w w':U) (F:Nat->Prop) (yb ob:Nat) (J:z) (R:fG) (lv av bv:V) (la:List Nat):Prop where
 ex:∃av' rb,fH w' F av' (la++[rb])/\X w' yb #[lv,av',bv] 34/\∀g,av'.ownBlock=E g->av.ownBlock=E g\/w.heap.size<=g
 one:X w' ob (dA (J.ju R)) 55
 mod:G (λg=>g=yb\/g=ob\/av.ownBlock=E g) w w'
theorem BS{i w p q:U} {f:Nat->Prop} {j e D:Nat} {u:z} {R:fG} {lv k A B x:V} {o:List Nat} {hs:Array V} (M:fH i f k o) (s:G No i w) (hd:td w p j o.length lv k A B (o.map te) x D hs) (N:f j) (J:f e) (hF:∀c,f c->c<i.heap.size) (hl:∀a,B.ownBlock=E a->i.heap.size<=a) (r:G (λc=>c=e) p q) (L:X q e (dA (u.ju R)) 55) (I:e≠j):kd i q f j e u R lv k A o:=by
 have Q:=s.size;have S:=hd.mod.size;refine⟨⟨x,D,(M.more s hd N hl (λc n=>⟨hF c n,n⟩)).mod (r.mono (S':=f) (λc _ m=>by subst m;exact J)) (λ_ _ t=>t),r.has hd.has (λm=>I m.symm),λa H=>?_⟩,L,?_⟩
 ·obtain d|d:=(hd.own a H).2
  ·exact .inl d
  ·exact .inr (by omega)
 ·have O:G (λa=>a=j\/a=e\/k.ownBlock=E a) i p:=(s.mono (S':=λa=>a=j\/a=e\/k.ownBlock=E a) (λ_ _ t=>t.elim)).trans' hd.mod (λc n P=>by
   obtain d|d|d:=n
   ·exact .inl d
   ·have:=hl c d;omega
   ·exact .inr (.inr d))
  exact O.trans (r.mono (λ_ _ m=>.inr (.inl m)))
theorem LM{f:U} {B:Nat->Prop} {t j:Nat} {I:l7} {p:z} {lv J R:V} {ag:List Nat} {n r c e size:Int} (hA:ny f j I) (aH:X f j (dA p) 55) (hy:X f t #[lv,J,R] 34) (bd:fH f B J ag) (bf:B t) (bc:B j) (hF:∀ao,B ao->ao<f.heap.size) (ba:ag.length<=1099511627776):Calls T 38 #[b (E ⟨t,0,F⟩),b (E ⟨j,0,F⟩),y K n,l #[y K r,y K c,y K e],y K size] f λae w'=>ae=g (W true)/\kd f w' B t j p (iY I.fl n r c e size) lv J R ag:=by
 have hlen:=LJ I.fl n r c e size;obtain⟨a,am⟩:∃a,iY I.fl n r c e size=a:=⟨_,rfl⟩;have M:G No f (f.alloc (v #[y K r,y K c,y K e] 43)):=(G.refl No f).alloc _;have aR:=i (X.new f #[y K r,y K c,y K e] 43)
 have aV:=i (λm (s:G No (f.alloc (v #[y K r,y K c,y K e] 43)) m)=>(show Calls T 63 #[b (E ⟨I.kb,0,F⟩),y K n,l #[y K r,y K c,y K e],y K size] m λae w'=>Told m w' ae a from by
  have:=AQ (hA.mod (M.trans s) (λ_ d _=>d)).keep n r c e size
  rw[am] at this
  exact this))
 have a0:=i (λm (s:G No (f.alloc (v #[y K r,y K c,y K e] 43)) m)=>(show Calls T 64 #[b (E ⟨I.wb,0,F⟩),y K n,l #[y K r,y K c,y K e],y K size] m λae w'=>Told m w' ae a from by
  have A:=hA.mod (M.trans s) (λ_ d _=>d)
  have:=BQ A.aR A.same n r c e size
  rw[am] at this
  exact this))
 have aN:=i (λm (s:G No (f.alloc (v #[y K r,y K c,y K e] 43)) m)=>(hA.mod (M.trans s) (λ_ d _=>d)).tI);have aO:=i (λm (s:G No (f.alloc (v #[y K r,y K c,y K e] 43)) m)=>(hA.mod (M.trans s) (λ_ d _=>d)).tJ);rw[am] at hlen ⊢;have aX:=i hlen;have a3:=i M;have bo:=i aH;have bp:=i hy;have aj:=i bd;have aw:=i bf;have aZ:=i bc;have aU:=i hF;have aW:=i ba;have aL:=aH.lt;have bP:=i aL
 clear hA aH hy bd bf bc hF ba am hlen M aL;go_enter func38,ntmps38;go_upto_region 1 with fail;generalize f.alloc (v #[y K r,y K c,y K e] 43)=b4 at *;generalize bb:f.heap.size=bS at *;have aT:=i bb;clear bb;refine K8 (k aN) (k aR) (k aV) _ _ _ _ _ _ _ _ _ _ _ _ _ _ _ _ _ _ _ _ _ _ _ _ _ _ _ _ _ _ _ _ _ _ _ _ _ _ _ _ _ _ _ _ _ _ _ _ _ _ _ _ _ _ _ _ _ ?_
 intro b6 b7 b8 b9 ca cb cc cd b5 ce cf Q b2 bQ au;go_upto_region 2 with fail;have ai:=i (k au).1;refine K9 (λm s=>(k aO) m ((k ai).trans s)) ((k ai).has (k aR) (λd=>d)) (λm s=>(k a0) m ((k ai).trans s)) _ _ _ _ _ _ _ _ _ _ _ _ _ _ _ _ _ _ _ _ _ _ _ _ _ _ _ _ _ _ _ _ _ _ _ _ _ _ _ _ _ _ _ _ _ _ _ _ _ _ _ _ _ _ _ _ _ ?_;intro ch ci cj ck cl cm cn co cg cp cq x b3 u aS;obtain⟨aK,bi,ap,bD⟩:=k au
 obtain⟨aq,bk,aI,bh⟩:=k aS;have D:=i (aq.has bi (λd=>d));have H:=i bk;obtain⟨P,S,rfl⟩:=aC ap.1;obtain⟨bt,bu,rfl⟩:=aC aI.1;have ax:=i (aq.owns ap.1 (λ_ _ d=>d));have a2:=i aI.1;have a4:=i ap.2;have bs:=i (aK.trans aq);have bO:=i (bF aK.size bh);have a9:=i (Bm (r:=a.r) (c:=a.c) (e:=a.ep) (more:=a.more) (k ax) (k a2) (by have:=k aX;omega));have aM:u.cell? ⟨Q,0,F⟩=E (C P a.S.length S):=(k D).cell 0
 have bE:u.cell? ⟨Q,1,F⟩=E (y K a.r):=(k D).cell 1;have bG:u.cell? ⟨Q,2,F⟩=E (y K a.c):=(k D).cell 2;have bH:u.cell? ⟨Q,3,F⟩=E (y K a.ep):=(k D).cell 3;have bJ:u.cell? ⟨Q,4,F⟩=E (W a.more):=(k D).cell 4;have bL:u.cell? ⟨x,0,F⟩=E (C bt a.S.length bu):=(k H).cell 0;have bl:u.cell? ⟨x,1,F⟩=E (y K a.r):=(k H).cell 1;have bm:u.cell? ⟨x,2,F⟩=E (y K a.c):=(k H).cell 2
 have bn:u.cell? ⟨x,3,F⟩=E (y K a.ep):=(k H).cell 3;have bM:u.cell? ⟨x,4,F⟩=E (W a.more):=(k H).cell 4;clear aK bi ap bD aq bk aI bh au aS ai aV a0 aN aO;go_wp2_with fail;refine(k a9).mono ?_;rintro bT ak ⟨rfl,ah⟩;have bq:=i ah;have a7:=i (ah.has (k D) (λd=>d));have a8:=i (ah.has (k H) (λd=>d));have a1:=i (ah.owns (k ax) (λ_ _ d=>d));clear aM bE bG bH bJ bL bl bm bn bM ah D H ax a2 a9
 have ab:=i (((k a3).trans (k bs)).trans (k bq));have L:=i ((k ab).has (k bp) (λd=>d));have aa:=i ((k ab).owns (k aj).row (λ_ _ d=>d));have aM:ak.cell? ⟨Q,0,F⟩=E (C P a.S.length S):=(k a7).cell 0;have bN:=(k L).lt;go_upto_region 4 with fail;have aY:=i (show a.S.length+3<=1000000 from by have:=k aX;omega);have ad:=i (⟨_,k a1⟩:bw 63 6 ak (C P a.S.length S) a.S.length)
 have ay:=i (show ∀o,(C P a.S.length S).ownBlock=E o->o≠t/\J.ownBlock≠E o from λo aF=>by
  obtain⟨cap,bx,_,A,_⟩:=bw.owns (k ad) aF
  refine⟨A.ne (k L) (by decide),λe=>?_⟩
  obtain⟨_,aD|⟨bA,bv,bz,rfl,_,af,_⟩⟩:=k aa
  ·rw[aD.1] at e;simp[az] at e
  ·simp[az] at e
   subst e
   exact A.ne af (by decide) rfl)
 have aB:=i (show J.ownBlock≠E t from λe=>(k aj).nh t e (k aw));have CALL:=i (Ah (ov:=R) (lv:=lv) (k L) (k aa) (k aW) (k ad) (k aY) (k ay) (k aB));have aQ:=i (Ah (w:=ak.drew) (ov:=R) (lv:=lv) (k L) (k aa) (k aW) (k ad) (k aY) (k ay) (k aB));go_region_law (refine eZ rfl 66 _ _ rfl #[b (E ⟨t,1,F⟩),C P a.S.length S] (by simp[Z,aP]) (λm=>by kernel_rfl) (h #[]) _ (k aQ) ?_;intro w bB)
 obtain⟨bR,b1,hs,aE⟩:=bB;have av:=i aE
 have aA:=i (show ∀o cs O,X ak o cs O->O≠34->O≠63->O≠60->X w o cs O from λo cs O A t1 t2 t3=>aE.mod.has A (by
  rintro(e|e|e)
  ·subst e;exact A.ne (k L) t1 rfl
  ·obtain⟨cap,bx,_,af,_⟩:=bw.owns (k ad) e
   exact A.ne af t2 rfl
  ·obtain⟨_,aD|⟨bA,bv,bz,rfl,_,af,_⟩⟩:=k aa
   ·rw[aD.1] at e;simp[az] at e
   ·simp[az] at e
    subst e
    exact A.ne af t3 rfl))
 have N:=(k aA) x _ _ (k a8) (by decide) (by decide) (by decide);have q:=(k aA) j _ _ ((k ab).has (k bo) (λd=>d)) (by decide) (by decide) (by decide);have bl:w.cell? ⟨x,1,F⟩=E (y K a.r):=N.cell 1;have bm:w.cell? ⟨x,2,F⟩=E (y K a.c):=N.cell 2;have bn:w.cell? ⟨x,3,F⟩=E (y K a.ep):=N.cell 3;have sl:=N.lt;have bW:w.cell? ⟨j,8,F⟩=E (y K p.n0):=q.cell 8;have bY:w.cell? ⟨j,9,F⟩=E (y K p.n1):=q.cell 9
 have bV:w.cell? ⟨j,10,F⟩=E (y K p.n2):=q.cell 10;have bZ:=q.frozen;have aL:=q.lt;have a6:=i (show j≠t from q.ne ((k av).has) (by decide));have bU:x≠j:=N.ne q (by decide);have a5:=i (show ∀o,(C P a.S.length S).ownBlock=E o->f.heap.size<=o from λo aF=>bF (k a3).size ((k a4) o aF));have q:=i q;clear aE N aM bN CALL aQ L aa ad ay aB a1 a7 a8 aA a4;by_cases Y:a.err=0
 ·have bC:(a.err==0)=true:=by simp[Y]
  have ar:=i (show kd f (((w.setCell ⟨j,8,F⟩ (y K a.r)).setCell ⟨j,9,F⟩ (y K a.c)).setCell ⟨j,10,F⟩ (y K a.ep)) B t j p a lv J R ag from by
   refine BS (k aj) (k ab).drew (k av) (k aw) (k aZ) (by rw[k aT];exact k aU) (k a5) ((((G.refl (λao=>ao=j) w).at 8 _).at 9 _).at 10 _) ?_ (k a6)
   have e:p.ju a={ p with n0:=a.r,n1:=a.c,n2:=a.ep }:=if_pos Y
   rw[e]
   exact(((k q).set 8 _).set 9 _).set 10 _)
  clear Y;go_wp2;go_ret;exact⟨rfl,k ar⟩
 ·have bC:(a.err==0)=false:=by simp[Y]
  have ar:=i (show kd f w B t j p a lv J R ag from by
   refine BS (k aj) (k ab).drew (k av) (k aw) (k aZ) (by rw[k aT];exact k aU) (k a5) (G.refl _ _) ?_ (k a6)
   have e:p.ju a=p:=if_neg Y
   rw[e]
   exact k q)
  clear Y;go_wp2;go_ret;exact⟨rfl,k ar⟩
theorem BT{p:O} {c:List B} (k:L p c) (a:Nat) (r:a<c.length):∃(i:List B) (f d:Int) (m:Bool),eP p c (du p c a).1 (du p c a).2.1 (du p c a).2.2 30=⟨i,f,d,p.ep,m,0⟩/\i.length<=30/\(m=true->a+30<c.length/\du p c (a+30)=(f,d,p.ep)):=by
 by_cases j:a+30<c.length
 ·obtain⟨e,o,q,_⟩:=Lm k a 30 (by omega) j;exact⟨_,_,_,_,e,by omega,λ_=>⟨j,by rw[<-o]⟩⟩
 ·obtain⟨f,d,e⟩:=Ln k a 30 (by omega) (by omega) (by omega);exact⟨_,_,_,_,e,by rw[lX];omega,λn=>by cases n⟩
theorem BU{c:Nat->Option (O×List B)} {a:Nat} (d:1<=a/\a<=20) (hf:c a=F):(gr c a).2=2:=by
 unfold gr;rw[if_neg (by omega),Int.toNat_natCast,hf]
theorem BV{c:Nat->Option (O×List B)} {a:Nat} {d:O×List B} (e:1<=a/\a<=20) (hf:c a=E d):(gr c a).2=0:=by
 unfold gr;rw[if_neg (by omega),Int.toNat_natCast,hf]
theorem v9{e:Nat->Option (O×List B)} {a:Nat} {p:O} {f:List B} (k:1<=a/\a<=20) (hf:e a=E (p,f)) (i c d j:Int):iY e a i c d j=eP p f i c d j:=by
 unfold iY;rw[if_neg (by omega),Int.toNat_natCast,hf]
structure Alike (r:Bool) (fl fl':Nat->Option (O×List B)) (aZ:Nat):Prop where
 same:∀n,n<aZ->fl n=fl' n
 yes:r=true->aZ=21
 no:r=false->1<=aZ/\aZ<=20/\((fl aZ≠F/\fl' aZ=F)\/∃p l p' l',fl aZ=E (p,l)/\fl' aZ=E (p',l')/\p.ep≠p'.ep)
theorem alike{c:Bool} {now a:Int} {e fl':Nat->Option (O×List B)} (n:(c=true/\now=a/\e=fl')\/(c=false/\Diff now e a fl')):(c=false/\now≠a)\/(now=a/\∃o,Alike c e fl' o):=by
 obtain⟨rfl,rfl,rfl⟩|⟨rfl,f|⟨rfl,p,i,j,k,m⟩⟩:=n
 ·exact .inr ⟨rfl,21,λ_ _=>rfl,λ_=>rfl,λd=>by cases d⟩
 ·exact .inl ⟨rfl,f⟩
 ·exact .inr ⟨rfl,p,k,λd=>(by cases d),λ_=>⟨i,j,m⟩⟩
structure pM (w wx:U) (ab:Nat) (fl:Nat->Option (O×List B)) (n aZ g:Nat) (more:Bool) (r c e:Int):Prop where
 box:X wx ab #[y K r,y K c,y K e] 43
 mod:G No w wx
 we:w.heap.size<=ab
 on:more=true->∃p l k,fl n=E (p,l)/\k<l.length/\l.length - k<g/\(r,c,e)=du p l k/\(n=aZ->k=0)
 off:more=false->n<aZ
theorem pM.still{o p q:U} {c:Nat} {f:Nat->Option (O×List B)} {m k i:Nat} {more:Bool} {n d e:Int} (a:pM o p c f m k i more n d e) (j:G No p q):pM o q c f m k i more n d e:=
 ⟨j.has a.box (λr=>r),a.mod.trans j,a.we,a.on,a.off⟩
theorem BW{n:U} {c0 c1:Nat->Nat} {cj bL:Nat} {c5:V} {xs:List e} {now aq N:Int} {j fl':Nat->Option (O×List B)} (b2:oh n c0 cj now j) (a8:aF n c1 bL c5 xs aq) (hs:dt xs fl') (hF:bh N now j) (b4:bh N aq fl') (t:Bool) (cc:(t=true/\now=aq/\j=fl')\/(t=false/\Diff now j aq fl')):
  Calls T 74 #[b (E ⟨cj,0,F⟩),b (E ⟨bL,0,F⟩)] n λm w'=>m=g (W t)/\G No n w':=by
 have af:=i λo (u:G No n o)=>b2.mod u (λ_ _ c=>c);have ah:=i λo (u:G No n o)=>a8.mod u (λ_ _ c=>c);have ag:=i hs;have ae:=i hF;have au:=i b4;obtain⟨pt,aI⟩:=b2;have bR:=i λa=>uz (aI.mod ((G.refl No n).drewN a) (λ_ _ c=>c));have c6:n.cell? ⟨bL,1,F⟩=E (y K aq):=a8.has.cell 1;have ck:=a8.has.lt;have bf:=i (alike cc);clear aI a8 hs hF b4 cc;go_enter func74,ntmps74;go_upto_region 1 with fail
 go_cut [23] from 17 to 23 (λc4 aT=>∃bZ:Bool,c4=W bZ/\Hid (bZ=(now !=aq))/\Hid (G No n aT))
 case first=>
  go_quiet ((go_at_call 32;exact Calls.quiet_of_same ((k bR) _)));go_wp2;go_meet;exact⟨_,rfl,rfl,(G.refl No n).drewN _⟩
 case rest=>
  obtain⟨b1,rfl,aV,bm⟩:=hcut
  apply_assumption
  clear c6 ck bR;obtain⟨rfl,ak⟩|⟨rfl,s,hA⟩:=k bf
  ·obtain rfl:b1=true:=by rw[k aV];simpa using ak
   clear aV bf af ah ag ae au ak;go_wp2;go_ret;exact⟨rfl,k bm⟩
  obtain rfl:b1=false:=by rw[k aV];simp
  clear aV;have I:=i hA;have dc:1<=s/\s<=21:=by
   cases t with
   |true=>have:=hA.yes rfl;omega
   |false=>have:=hA.no rfl;omega
  clear bf hA;go_wp2_with fail;go_loopw [5] (λbH wr=>∃a:Nat,bH=y K (a:Nat)/\1<=a/\a<=s/\Hid (G No n wr)) (λbH _=>21 - (intOf bH).toNat)
  case atStart=>exact⟨1,rfl,by omega,by omega,bm⟩
  case round=>
   obtain⟨a,rfl,de,dg,bn⟩:=hrel;clear bm;by_cases df:a<=20
   case neg=>
    have cO:¬((a:Int)<=20):=by omega
    obtain rfl:t=true:=by
     cases t with
     |true=>rfl
     |false=>have:=(k I).no rfl;omega
    clear af ah ag ae au I;go_wp2;go_ret;exact⟨rfl,k bn⟩
   have cO:(a:Int)<=20:=by omega
   have dh:K.wrap ((a:Int)+1)=((a+1:Nat):Int):=by rw[aB _ (by omega) (by omega)];rfl
   obtain⟨c8,c9,cs,b5⟩:=v8 j (a:Nat);obtain⟨R,S,cs',b6⟩:=v8 fl' (a:Nat);have aW:=i λo (u:G No n o)=>zD ((k af) o u) (a:Nat);have aX:=i λo (u:G No n o)=>BP ((k ah) o u) (k ag) (a:Nat);rw[b5] at aW;rw[b6] at aX;unfold cw at aW aX
   have aU:=i (show(j a=F->(gr j (a:Nat)).2=2)/\((∃c,j a=E c)->(gr j (a:Nat)).2=0)/\(fl' a=F->(gr fl' (a:Nat)).2=2)/\((∃c,fl' a=E c)->(gr fl' (a:Nat)).2=0) from
    ⟨BU (by omega),λ⟨c,ao⟩=>BV (by omega) ao,BU (by omega),λ⟨c,ao⟩=>BV (by omega) ao⟩)
   clear b5 b6;generalize (gr j (a:Nat)).2=a5 at *;generalize (gr fl' (a:Nat)).2=cD at *;go_wp2_with fail;refine((k aW) wr (k bn)).mono ?_;rintro m w3 ⟨rfl,cl⟩;have bo:=i ((k bn).trans cl);clear cl aW;go_wp2_with fail;refine((k aX) _ ((k bo).alloc _)).mono ?_;rintro m ct ⟨rfl,cm⟩;have bT:=i (((k bo).alloc _).trans cm);clear cm aX;go_upto_if 42 with fail
   have aZ:=i ((k bT).alloc (v #[y K (R 0),y K (R 1),y K (R 2),y K (R 3),y K (S 0),y K (S 1),y K (S 2),y K (S 3),y K (cs' 0),y K (cs' 1),y K (cs' 2),y K (cs' 3)] 91));generalize ct.alloc (v #[y K (R 0),y K (R 1),y K (R 2),y K (R 3),y K (S 0),y K (S 1),y K (S 2),y K (S 3),y K (cs' 0),y K (cs' 1),y K (cs' 2),y K (cs' 3)] 91)=bJ at *;generalize cV:w3.heap.size=dv at *
   generalize cW:ct.heap.size=dw at *;clear bo bT cV cW;by_cases aH:j a≠F/\fl' a=F
   ·obtain⟨Y,p,a4,bt⟩:=k aU;obtain⟨c,ao⟩:∃c,j a=E c:=Option.ne_none_iff_exists'.1 aH.1;obtain rfl:=p ⟨c,ao⟩;obtain rfl:=a4 aH.2;obtain rfl:t=false:=by
     cases t with
     |false=>rfl
     |true=>
      have:=(k I).yes rfl;have:=(k I).same a (by omega);rw[ao,aH.2] at this
      cases this
    clear Y p a4 bt aU af ah ag ae au I;go_wp2;go_ret;exact⟨rfl,k aZ⟩
   have bz:(j a=F/\fl' a=F/\a<s)\/∃f d q L,j a=E (f,d)/\fl' a=E (q,L)/\(a<s->f=q/\d=L)/\(a=s->t=false/\f.ep≠q.ep):=by
    by_cases aK:a<s
    ·have cg:=(k I).same a aK
     cases hf:j a with
     |none=>exact .inl ⟨rfl,by rw[<-cg,hf],aK⟩
     |some c=>exact .inr ⟨c.1,c.2,c.1,c.2,rfl,by rw[<-cg,hf],λ_=>⟨rfl,rfl⟩,λm=>by omega⟩
    ·have ak:a=s:=by omega
     have cd:t=false:=by
      cases t with
      |false=>rfl
      |true=>have:=(k I).yes rfl;omega
     obtain⟨_,_,aj⟩:=(k I).no cd;rw[<-ak] at aj;obtain aj|⟨f,d,q,L,bv,bw,cG⟩:=aj
     ·exact absurd aj aH
     ·exact .inr ⟨f,d,q,L,bv,bw,λm=>by omega,λ_=>⟨cd,cG⟩⟩
   have cL:a5=cD/\(a5=0\/a5=2/\a<s)/\(a5=0->∃f d,j a=E (f,d)):=by
    obtain⟨Y,p,a4,bt⟩:=k aU;obtain⟨r,ad,bu⟩|⟨f,d,q,L,r,ad,_⟩:=bz
    ·rw[Y r,a4 ad];exact⟨rfl,.inr ⟨rfl,bu⟩,λm=>by omega⟩
    ·rw[p ⟨_,r⟩,bt ⟨_,ad⟩];exact⟨rfl,.inl rfl,λ_=>⟨f,d,r⟩⟩
   obtain⟨rfl,cP,ch⟩:=cL;have bN:=i bz;have bl:=i ch;clear bz aH aU ch;obtain rfl|⟨rfl,dd⟩:=cP
   case inr=>
    have bU:=i ((k aZ).alloc (v #[y K 0,y K 0,y K 0] 43));clear bN bl I af ah ag ae au;go_wp2_with fail;go_loopw [11] (λbG aT=>bG=W false/\Hid (G No n aT)) (λ_ _=>0)
    case atStart=>exact⟨rfl,bU⟩
    case round=>
     obtain⟨rfl,cz⟩:=hrel;clear bU;go_wp2;go_roundw
     ·exact⟨a+1,rfl,by omega,by omega,cz⟩
     ·simp[intOf];omega
   have bQ:=i (show pM n (bJ.alloc (v #[y K 0,y K 0,y K 0] 43)) bJ.heap.size j a s 122 true 0 0 0 from⟨X.new _ _ _,(k aZ).alloc _,(k aZ).size,λm=>by
    obtain⟨f,d,z⟩:=(k bl) rfl
    have am:=(k ae).wf _ _ _ z
    have db:d.length<=120:=aM.wf.gU am
    have bx:=am.bounds
    simp only at bx
    have hlen:=am.len
    simp only at hlen
    have bD:0<d.length:=by
     have:0<f.rows* f.w:=Int.mul_pos (by omega) (by omega)
     omega
    exact⟨f,d,0,z,bD,by omega,rfl,λ_=>rfl⟩,λm=>by cases m⟩)
   clear bl;go_wp2_with fail;generalize da:bJ.heap.size=ai at *;go_loopg [11] 122 (λcE bG aT=>∃more c2 cA cC,bG=W more/\Hid (pM n aT ai j a s cE more c2 cA cC))
   case atStart=>exact⟨_,_,_,_,rfl,bQ⟩
   case round=>
    obtain⟨more,aR,aA,aD,rfl,J⟩:=hrel;clear bQ
    cases more with
    |false=>
     have cb:=(k J).off rfl;have bp:=i (k J).mod;clear J;go_wp2;go_roundw
     ·exact⟨a+1,rfl,by omega,by omega,bp⟩
     ·simp[intOf];omega
    |true=>
     obtain⟨f,d,aa,z,aI,b8,a6,ca⟩:=(k J).on rfl;have am:=(k ae).wf _ _ _ z;obtain⟨P,D,w,A,bC,b3,bA⟩:=BT am aa aI;have bb:aR=(du f d aa).1:=by rw[<-a6]
     have bc:aA=(du f d aa).2.1:=by rw[<-a6]
     have bd:aD=(du f d aa).2.2:=by rw[<-a6]
     have ce:iY j a aR aA aD 30=⟨P,D,w,f.ep,A,0⟩:=by rw[v9 (by omega) z,bb,bc,bd];exact bC
     have cT:∃(Q:List B) (H x p:Int) (M:Bool),iY fl' a aR aA aD 30=⟨Q,H,x,p,M,0⟩/\Q.length<=30/\((Q=P/\H=D/\x=w/\p=f.ep/\M=A/\a<s)\/(f.ep≠p/\t=false)):=by
      obtain⟨r,_⟩|⟨di,ck,q,L,r,ad,bu,aj⟩:=k bN
      ·rw[z] at r;cases r
      ·rw[z] at r;injection r with r;injection r with r cF;subst r;subst cF;by_cases aK:a<s
       ·obtain⟨rfl,rfl⟩:=bu aK;exact⟨P,D,w,f.ep,A,by rw[v9 (by omega) ad,bb,bc,bd];exact bC,b3,.inl ⟨rfl,rfl,rfl,rfl,rfl,aK⟩⟩
       ·obtain⟨bv,bw⟩:=aj (by omega);have bE:=(k au).wf _ _ _ ad;have bx:=bE.bounds;simp only at bx;have hlen:=bE.len;simp only at hlen;have bD:0<L.length:=by
         have:0<q.rows* q.w:=Int.mul_pos (by omega) (by omega);omega
        obtain⟨cu,c3,cB,cX,cR,cH,_⟩:=BT bE 0 bD;obtain rfl:=ca (by omega);refine⟨cu,c3,cB,q.ep,cX,?_,cH,.inr ⟨bw,bv⟩⟩;rw[v9 (by omega) ad,bb,bc,bd];exact cR
     obtain⟨Q,H,x,p,M,cf,cI,b7⟩:=cT;have bi:=i λo (u:G No n o)=>AQ ((k af) o u) a aR aA aD 30;have bk:=i λo (u:G No n o)=>BQ ((k ah) o u) (k ag) a aR aA aD 30;rw[ce] at bi;rw[cf] at bk
     have bS:=i (λ(m:A=true)=>(show ∃f d k',j a=E (f,d)/\k'<d.length/\d.length - k'<d.length - aa/\(D,w,f.ep)=du f d k' from by
      obtain⟨aO,aQ⟩:=bA m
      exact⟨f,d,aa+30,z,aO,by omega,aQ.symm⟩))
     have bP:=i b8;obtain⟨aE,b9⟩:∃aE,aE=d.length - aa:=⟨_,rfl⟩;rw[<-b9] at bP
     have bS:=i (show A=true->∃q d k',j a=E (q,d)/\k'<d.length/\d.length - k'<aE/\(D,w,f.ep)=du q d k' from λm=>by
      obtain⟨aO,aQ⟩:=bA m
      exact⟨f,d,aa+30,z,aO,by omega,aQ.symm⟩)
     have cv:=i b7;have bO:=i (show P.length<=120/\Q.length<=120 by omega);clear z aI b8 a6 ca am bC b3 bA bb bc bd ce cf cI b7 b9;generalize f.ep=Y at *;have a2:=(k J).box.cell;have a3:=(k J).box.lt;go_wp2_with fail;refine((k bi) _ (k J).mod).mono ?_;rintro m aS ⟨⟨dp,rfl,a7,cM⟩,cn⟩;obtain⟨ay,aL,rfl⟩:=aC a7;have cx:=i a7
     have aw:=i (((k J).still cn).still ((G.refl No aS).alloc (v #[C ay P.length aL,y K D,y K w,y K Y,W A] 146)));have bV:=i (((G.refl No aS).alloc (v #[C ay P.length aL,y K D,y K w,y K Y,W A] 146)).owns a7 (λ_ _ c=>c));have bW:=i (X.new aS #[C ay P.length aL,y K D,y K w,y K Y,W A] 146);clear a7 cM cn bi J a2 a3;go_upto_region 14 with fail;generalize cQ:aS.heap.size=dk at *
     generalize aS.alloc (v #[C ay P.length aL,y K D,y K w,y K Y,W A] 146)=dr at *;clear cQ cx;have a2:=(k aw).box.cell;have a3:=(k aw).box.lt;go_wp2_with fail;refine((k bk) _ (k aw).mod).mono ?_;rintro m ar ⟨⟨dq,rfl,bB,cN⟩,ba⟩;obtain⟨a1,a9,rfl⟩:=aC bB;have aN:G No ar (ar.alloc (v #[C a1 Q.length a9,y K H,y K x,y K p,W M] 146)):=(G.refl No ar).alloc _;have aY:=i (((k aw).still ba).still aN)
     have bq:=i (aN.owns (ba.owns (k bV) (λ_ _ c=>c)) (λ_ _ c=>c));have bs:=i (aN.owns bB (λ_ _ c=>c));have a0:=i (aN.has (ba.has (k bW) (λc=>c)) (λc=>c));have ax:=i (X.new ar #[C a1 Q.length a9,y K H,y K x,y K p,W M] 146);clear bB cN ba aN bk aw bV bW a2 a3;go_upto_region 15 with fail;generalize cS:ar.heap.size=dl at *
     generalize ar.alloc (v #[C a1 Q.length a9,y K H,y K x,y K p,W M] 146)=c7 at *;clear cS;have co:=(k a0).cell;have cp:=(k a0).lt;have cq:=(k ax).cell;have cr:=(k ax).lt;obtain⟨rfl,rfl,rfl,rfl,rfl,cb⟩|⟨ak,rfl⟩:=k cv
     ·have av:=i (Bm (r:=H) (c:=x) (e:=p) (more:=M) (k bq) (k bs) (k bO).1);go_wp2_with fail;refine(k av).mono ?_;rintro m bM ⟨rfl,ap⟩;have ab:=i ((k aY).still ap);have bY:=i (ap.has (k ax) (λc=>c));clear ap av co cp cq cr a0 ax bq bs aY;have dm:=(k bY).cell;have dn:=(k bY).lt;have a3:=(k ab).box.lt;have c':=(k ab).box.frozen;have a2:=(k ab).box.cell
      have cy:=i (show pM n (((bM.setCell ⟨ai,0,F⟩ (y K H)).setCell ⟨ai,1,F⟩ (y K x)).setCell ⟨ai,2,F⟩ (y K p)) ai j a s aE M H x p from
       ⟨(((k ab).box.set 0 _).set 1 _).set 2 _,(k ab).mod.trans' ((((G.refl (λci=>ci=ai) bM).at 0 _).at 1 _).at 2 _) (λci m hl=>by have:=(k ab).we;omega),(k ab).we,λm=>by
        obtain⟨q,L,k',aO,aQ,cY,cZ⟩:=(k bS) m
        exact⟨q,L,k',aO,aQ,cY,cZ,λm=>by omega⟩,λ_=>cb⟩)
      go_wp2_with fail;go_roundg aE
      case measure=>exact k bP
      case rel=>exact⟨_,_,_,_,rfl,cy⟩
     ·have av:=i (LD (w:=c7) (a1:=ay) (a2:=a1) (c1:=aL) (c2:=a9) (r1:=D) (k1:=w) (r2:=H) (k2:=x) (m1:=A) (m2:=M) ak (k bO));go_wp2_with fail;refine(k av).mono ?_;rintro m bM ⟨rfl,ap⟩;have bp:=i ((k aY).mod.trans ap);clear ap av co cp cq cr a0 ax bq bs aY;go_wp2;go_ret;exact⟨rfl,k bp⟩
set_option maxHeartbeats 4000000
theorem LO{f:U} {A aA:Nat} {I:l7} (ae:ny f A I) {S:Array V} {m aq:Int} (hS:lZ S 5 m aq):Calls T 17 #[b (E ⟨aA,0,F⟩),b (E ⟨A,0,F⟩),l S] f λad w'=>ad=g (W true)/\G No f w':=by
 have H:=(G.refl No f).alloc (v S 45);have af:=ae.mod H (λ_ _ j=>j);have q:=i λa (e:G No (f.alloc (v S 45)) a)=>af.mod e (λ_ _ j=>j);have u:=X.new f S 45;have ao:=(u.cell 0).trans hS.eJ
 have B:=i λa (e:G No (f.alloc (v S 45)) a)=>(show a.cell? ⟨f.heap.size,2,F⟩=E (y K m)/\f.heap.size<a.heap.size from
  ⟨((e.has u (λj=>j)).cell 2).trans hS.eS,(e.has u (λj=>j)).lt⟩)
 have ab:=i λa (e:G No (f.alloc (v S 45)) a)=>H.trans e;have aF:=u.lt;clear ae af hS H u;obtain⟨c,d,cs,ah⟩:=v8 I.fl m;have Y:=i ah;generalize ag:(gr I.fl m).2=r at *;have Q:=i ag;clear ah ag;go_enter func17,ntmps17;go_upto_region 9 with fail;generalize f.alloc (v S 45)=s at *;generalize f.heap.size=aE at *;have ar:s.cell? ⟨A,1,F⟩=E (b (E ⟨I.kb,0,F⟩)):=((k q) _ (G.refl _ _)).tI
 have ax:=((k q) _ (G.refl _ _)).lt;obtain⟨ak,_⟩:=(k B) _ (G.refl _ _);have w:=i λa (e:G No s a)=>zD ((k q) _ e).keep m;have x:=i λa (e:G No s a)=>BP ((k q) _ e).aR ((k q) _ e).same m;rw[k Y,k Q] at w x;unfold cw at w x;go_cut [11,12] (λM N P=>∃J,M=b (E ⟨J,0,F⟩)/\N=y K r/\Hid (jt s P J c d cs))
 case first=>
  have n:=i (G.refl No s)
  go_region_law (first
   |(refine eZ rfl 35 _ _ rfl #[b (E ⟨I.kb,0,F⟩),y K m] (by simp[Z,aP]) (λa=>by kernel_rfl) (h #[l #[y K (c 0),y K (c 1),y K (c 2),y K (c 3),y K (d 0),y K (d 1),y K (d 2),y K (d 3),y K (cs 0),y K (cs 1),y K (cs 2),y K (cs 3)],y K r]) _ ((k w) s.drew (k n).drew) ?_;intro O o)
   |(refine eZ rfl 35 _ _ rfl #[b (E ⟨I.kb,0,F⟩),y K m] (by simp[Z,aP]) (λa=>by kernel_rfl) (h #[l #[y K (c 0),y K (c 1),y K (c 2),y K (c 3),y K (d 0),y K (d 1),y K (d 2),y K (d 3),y K (cs 0),y K (cs 1),y K (cs 2),y K (cs 3)],y K r]) _ ((k w) _ ((k n).alloc _).drew) ?_;intro O o;have p:=(o.has (show X (s.alloc (v #[y K 0,y K 0,y K 0,y K 0,y K 0,y K 0,y K 0,y K 0,y K 0,y K 0,y K 0,y K 0] 91)).drew s.heap.size #[y K 0,y K 0,y K 0,y K 0,y K 0,y K 0,y K 0,y K 0,y K 0,y K 0,y K 0,y K 0] 91 from(X.new _ _ _).drew) (λj=>j));have aB:=p.cell;have aC:=p.frozen;have aD:=p.lt;clear p))
  all_goals go_wp2
  all_goals go_meet
  all_goals first
   |with_reducible exact⟨_,rfl,rfl,i (jt.one (k n) o)⟩
   |with_reducible exact⟨_,rfl,rfl,i (jt.two (k n) o)⟩
 case rest=>
  obtain⟨J,rfl,rfl,t⟩:=hcut
  apply_assumption
  have D:=i λa (e:G No wc a)=>(k x) a ((k t).mod.trans e);have au:wc.cell? ⟨A,2,F⟩=E (b (E ⟨I.wb,0,F⟩)):=((k q) _ (k t).mod).tJ;have ay:=((k q) _ (k t).mod).lt;obtain⟨am,ap⟩:=(k B) _ (k t).mod;clear ar ax ak w x ao;go_upto_region 10 with fail;go_cut [13,14] (λM N P=>∃L,M=b (E ⟨L,0,F⟩)/\N=y K r/\Hid (jt wc P L c d cs))
  case first=>
   have n:=i (G.refl No wc)
   go_region_law (first
    |(refine eZ rfl 36 _ _ rfl #[b (E ⟨I.wb,0,F⟩),y K m] (by simp[Z,aP]) (λa=>by kernel_rfl) (h #[l #[y K (c 0),y K (c 1),y K (c 2),y K (c 3),y K (d 0),y K (d 1),y K (d 2),y K (d 3),y K (cs 0),y K (cs 1),y K (cs 2),y K (cs 3)],y K r]) _ ((k D) wc.drew (k n).drew) ?_;intro O o)
    |(refine eZ rfl 36 _ _ rfl #[b (E ⟨I.wb,0,F⟩),y K m] (by simp[Z,aP]) (λa=>by kernel_rfl) (h #[l #[y K (c 0),y K (c 1),y K (c 2),y K (c 3),y K (d 0),y K (d 1),y K (d 2),y K (d 3),y K (cs 0),y K (cs 1),y K (cs 2),y K (cs 3)],y K r]) _ ((k D) _ ((k n).alloc _).drew) ?_;intro O o;have p:=(o.has (show X (wc.alloc (v #[y K 0,y K 0,y K 0,y K 0,y K 0,y K 0,y K 0,y K 0,y K 0,y K 0,y K 0,y K 0] 91)).drew wc.heap.size #[y K 0,y K 0,y K 0,y K 0,y K 0,y K 0,y K 0,y K 0,y K 0,y K 0,y K 0,y K 0] 91 from(X.new _ _ _).drew) (λj=>j));have aB:=p.cell;have aC:=p.frozen;have aD:=p.lt;clear p))
   all_goals go_wp2
   all_goals go_meet
   all_goals first
    |with_reducible exact⟨_,rfl,rfl,i (jt.one (k n) o)⟩
    |with_reducible exact⟨_,rfl,rfl,i (jt.two (k n) o)⟩
  case rest=>
   obtain⟨L,rfl,rfl,z⟩:=hcut
   apply_assumption
   have t1:=((k t).still (k z).mod).has;have t2:=(k z).has;have d1:=t1.cell;have d2:=t2.cell;have av:=t1.lt;have aw:=t2.lt;have R:=i λa=>Kk c d cs a;have aa:=i (((k ab) _ (k t).mod).trans (k z).mod);have aH:(r==r)=true:=by simp
   unfold cw at d1 d2 R;clear t1 t2 t z au ay am ap D q B ab Y Q;go_wp2_with fail;refine((k R) _).mono ?_;rintro ad aI ⟨rfl,ai⟩;have aj:=i ((k aa).trans ai);clear ai aa d1 d2 av aw;go_wp2;go_ret;exact⟨rfl,k aj⟩
def ptrTo(a:Nat):V:=b (E ⟨a,0,F⟩)
def ma(who:Nat->Nat) (c:Nat) (lv:V):Nat->Prop:=λa=>who a≠0\/a=c\/lv.ownBlock=E a
structure dM (P:Nat->z->Prop) (B:U->(Nat->Prop)->Prop) (w0 w:U) (who:Nat->Nat) (yb:Nat) (lv av bv:V) (os:List Nat) (n:Nat):Prop where
 has:X w yb #[lv,av,bv] 34
 row:w.ownsRow 0 48 1 lv os.length (os.map ptrTo)
 pN:∀j (hj:j<os.length),∃I,ai w (λk=>who k=j+1) os[j] I/\P n I
 ik:∀k,who k≠0->w0.heap.size<=k/\k<w.heap.size
 ke:who yb=0/\w0.heap.size<=yb
 jw:∀k,lv.ownBlock=E k->who k=0/\w0.heap.size<=k/\k≠yb
 nz:os.length<=n
 top:∀k,who k<=os.length
 mod:G No w0 w
 book:B w (ma who yb lv)
def me(B:U->(Nat->Prop)->Prop):Prop:=∀d w' a e,B d a->G a d w'->(∀c,c<d.heap.size->e c->a c)->B w' e
theorem dM.still{e:Nat->z->Prop} {B:U->(Nat->Prop)->Prop} (t:me B) {o n w':U} {who:Nat->Nat} {p:Nat} {lv f i:V} {os:List Nat} {m:Nat} (a:dM e B o n who p lv f i os m) (d:G No n w'):dM e B o w' who p lv f i os m:=
 ⟨d.has a.has (λc=>c),d.owns a.row (λ_ _ c=>c),λw u=>by
  obtain⟨q,r,s⟩:=a.pN w u
  exact⟨q,r.mod d (λ_ _ c=>c),s⟩,λk j=>⟨(a.ik k j).1,aG (a.ik k j).2 d.size⟩,a.ke,a.jw,a.nz,a.top,a.mod.trans d,t _ _ _ _ a.book (d.mono (λ_ _ c=>c.elim)) (λ_ _ c=>c)⟩
theorem dM.more{d:Nat->z->Prop} {B:U->(Nat->Prop)->Prop} (o:∀c I,d c I->d (c+1) I) {j i:U} {who:Nat->Nat} {k:Nat} {lv e f:V} {os:List Nat} {c:Nat} (a:dM d B j i who k lv e f os c):dM d B j i who k lv e f os (c+1):=
 ⟨a.has,a.row,λq p=>by
  obtain⟨I,m,n⟩:=a.pN q p
  exact⟨I,m,o _ _ n⟩,a.ik,a.ke,a.jw,by have:=a.nz;omega,a.top,a.mod,a.book⟩
theorem ai.owns{f:U} {c d:Nat->Prop} {e:Nat} {I:z} (i:ai f c e I) (j:∀a,c a↔d a):ai f d e I:=by
 have:c=d:=funext λa=>propext (j a);rw[<-this];exact i
theorem dM.step{m:Nat->z->Prop} {B:U->(Nat->Prop)->Prop} (G:me B) (H:∀k I,m k I->m (k+1) I) {t e w':U} {who:Nat->Nat} {w:Nat} {lv q r:V} {os:List Nat} {k j:Nat} (c:dM m B t e who w lv q r os k) (O:j<os.length) {R:z->Prop} (J:∀I',R I'->m (k+1) I') (hd:gR e w' (λa=>who a=j+1) os[j] R):
  ∃u,dM m B t w' u w lv q r os (k+1)/\∀a,a<e.heap.size->u a=who a:=by
 obtain⟨⟨I',A,D⟩,i⟩:=hd;have L:∀a,e.heap.size<=a->who a=0:=λa d=>by
  by_cases n:who a=0
  ·exact n
  ·have:=(c.ik a n).2;omega
 have Q:=c.has.lt
 refine⟨λa=>if e.heap.size<=a/\a<w'.heap.size then j+1 else who a,⟨i.has c.has (by rw[c.ke.1];omega),i.owns c.row (λa d=>by rw[(c.jw a d).1];omega),λs hi=>?_,λa d=>?_,?_,λa d=>?_,by have:=c.nz;omega,λa=>?_,c.mod.trans' i (λa d hl=>by have:=(c.ik a (by rw[d];omega)).1;omega),G _ _ _ _ c.book (i.mono (λa _ (n:who a=j+1)=>Or.inl (by omega))) (λa d=>by unfold ma;simp only[if_neg (show ¬(e.heap.size<=a/\a<w'.heap.size) by omega)];exact id)⟩,λa d=>if_neg (by omega)⟩
 ·by_cases n:s=j
  ·subst n;refine⟨I',A.owns (λa=>?_),J _ D⟩;unfold grow;by_cases f:e.heap.size<=a/\a<w'.heap.size
   ·simp only[if_pos f];exact⟨λ_=>trivial,λ_=>.inr f⟩
   ·simp only[if_neg f];exact⟨λo=>o.elim (λp=>p) (λp=>absurd p f),λo=>.inl o⟩
  ·obtain⟨x,M,N⟩:=c.pN s hi;refine⟨x,(M.mod i (λa d o=>by omega)).owns (λa=>?_),H _ _ N⟩;by_cases f:e.heap.size<=a/\a<w'.heap.size
   ·simp only[if_pos f];have:=L a f.1;omega
   ·simp only[if_neg f]
 ·have d:(if e.heap.size<=a/\a<w'.heap.size then j+1 else who a)≠0:=d;by_cases f:e.heap.size<=a/\a<w'.heap.size
  ·exact⟨by have:=c.mod.size;omega,f.2⟩
  ·rw[if_neg f] at d;exact⟨(c.ik a d).1,aG (c.ik a d).2 i.size⟩
 ·rw[if_neg (by omega)];exact c.ke
 ·have P:=iX c.row a d;show(if e.heap.size<=a/\a<w'.heap.size then j+1 else who a)=0/\_;rw[if_neg (by omega)];exact c.jw a d
 ·show(if e.heap.size<=a/\a<w'.heap.size then j+1 else who a)<=_;have:=c.top a;split<;>omega
theorem dM.add{n:Nat->z->Prop} {B:U->(Nat->Prop)->Prop} (O:me B) (Q:∀j I,n j I->n (j+1) I) {D k w':U} {who:Nat->Nat} {m p:Nat} {lv r s t:V} {os:List Nat} {j:Nat} (d:dM n B D k who m lv s t os j) {i:Nat->Prop} {I:z} (P:n (j+1) I) (w:ai w' i p I) (o:∀a,i a->k.heap.size<=a)
  (q:G (λa=>a=m\/lv.ownBlock=E a) k w') (R:X w' m #[r,s,t] 34) (aa:w'.ownsRow 0 48 1 r (os.length+1) (os.map ptrTo++[ptrTo p])) (hl:∀a,r.ownBlock=E a->¬i a/\(lv.ownBlock=E a\/k.heap.size<=a)):∃H,dM n B D w' H m r s t (os++[p]) (j+1)/\∀a,a<k.heap.size->H a=who a:=by
 classical
 have x:∀a,k.heap.size<=a->who a=0:=λa e=>by
  by_cases c:who a=0
  ·exact c
  ·have:=(d.ik a c).2;omega
 have ae:=d.has.lt;have Y:∀a,who a≠0->¬(a=m\/lv.ownBlock=E a):=λa e c=>by
  obtain rfl|c:=c
  ·exact e d.ke.1
  ·exact e (d.jw a c).1
 refine⟨λa=>if i a then os.length+1 else who a,⟨R,?_,λu hi=>?_,λa e=>?_,?_,λa e=>?_,?_,λa=>?_,?_,O _ _ _ _ d.book (q.mono (λa _ c=>Or.inr c)) (λa e c=>by
  have S:¬i a:=λc=>by have:=o a c;omega
  unfold ma at c ⊢
  simp only[if_neg S] at c
  obtain c|c|c:=c
  ·exact .inl c
  ·exact .inr (.inl c)
  ·obtain A|A:=(hl a c).2
   ·exact .inr (.inr A)
   ·omega)⟩,λa e=>if_neg (λc=>by have:=o a c;omega)⟩
 ·rw[aJ,List.map_append];exact aa
 ·by_cases c:u<os.length
  ·obtain⟨L,ab,ad⟩:=d.pN u c;rw[qK c];refine⟨L,(ab.mod q (λa e=>Y a (by rw[e];omega))).owns (λa=>?_),Q _ _ ad⟩;by_cases f:i a
   ·simp only[if_pos f];have:=x a (o a f);omega
   ·simp only[if_neg f]
  ·have M:u=os.length:=by simp at hi;omega
   subst M;have N:(os++[p])[os.length]'hi=p:=by simp
   rw[N];refine⟨I,w.owns (λa=>?_),P⟩;by_cases f:i a
   ·simp only[if_pos f];exact⟨λ_=>trivial,λ_=>f⟩
   ·simp only[if_neg f];refine⟨λJ=>absurd J f,λJ=>?_⟩;exfalso;have:=d.top a;omega
 ·have e:(if i a then os.length+1 else who a)≠0:=e;by_cases f:i a
  ·exact⟨by have:=o a f;have:=d.mod.size;omega,w.lt a f⟩
  ·rw[if_neg f] at e;exact⟨(d.ik a e).1,aG (d.ik a e).2 q.size⟩
 ·rw[if_neg (λc=>by have:=o m c;omega)];exact d.ke
 ·show(if i a then os.length+1 else who a)=0/\_;rw[if_neg (hl a e).1];obtain c|c:=(hl a e).2
  ·exact d.jw a c
  ·exact⟨x a c,by have:=d.mod.size;omega,by omega⟩
 ·have:=d.nz;simp only[aJ,dP,im];omega
 ·show(if i a then os.length+1 else who a)<=_;have:=d.top a;simp only[aJ,dP,im];split<;>omega
 ·refine d.mod.trans' q (λa e hl=>?_);obtain rfl|c:=e
  ·have:=d.ke.2;omega
  ·have:=(d.jw a c).2.1;omega
end Go.Proofs.YthhibagcpjeihaaGreat
