import Derived.Test.YthhibagcpjeihaaGreatWn
import Derived.Test.YthhibagcpjeihaaGreatWm
open Go.Proofs.Tryz
open Go.Addr renaming mk->u
open Go.Value renaming int->F,pointer->g,tuple->aq
open Go.IntKind renaming i64->K
open Option renaming none->J,some->E
open Go renaming World->U
open Go.Proofs.Tryz renaming prog->h
open Go.Ending renaming returned->q
set_option linter.unusedVariables false
set_option linter.unusedSimpArgs false
set_option maxRecDepth 100000
set_option maxHeartbeats 4000000
namespace Go.Proofs.YthhibagcpjeihaaGreat
open Go.RowKit
open M
structure Ht (T T':aH) (e:Int) (k:Nat):Prop where
 err:e=0\/e=16
 ay:T'.ay=T.ay
 ok:e=0->T'.b k=T.b k/\T'.last k=(T.b k).length/\T'.b (1 - k)=[]/\T'.b 2=T.b 2/\T'.b 3=T.b 3
 dead:e=16->T'.fuse=0/\(∀j,T'.b j=T.b j)/\∀j,T'.last j=T.last j\/T'.last j=(T.b j).length
variable {P:Nat} {w Q:Int} {p:Option (Int×aQ)} {S:aQ} {o:aH} {j:Nat->Prop} {k:U} {I:List (List aD)}
theorem Tf(a:aH)(z:P<2)(x:∀w,w<4->a.last w<=(a.b w).length):Ht a (ig a P (a.b P).length (a.b (1 - P)).length).2 (ig a P (a.b P).length (a.b (1 - P)).length).1 P:=by
 unfold ig;have A:=x P (by omega);have d:∀d,d=(if 0<(a.b P).length then gS a P else(true,a))->(d.1=true->(∀c,d.2.b c=a.b c)/\(∀c,d.2.last c=if c=P then(a.b P).length else a.last c)/\d.2.ay=a.ay)/\(d.1=false->d.2=a/\a.fuse=0):=λd b=>by
  subst b;by_cases l:0<(a.b P).length
  .rw[D l];refine⟨λk=>?_,λk=>QT k⟩;have e:=QS k;refine⟨λc=>?_,e.last,e.ay⟩;rw[e.b];split
   .rename_i b;rw[b]
   .rfl
  .rw[f l];refine⟨λ_=>⟨λ_=>rfl,λc=>?_,rfl⟩,λk=>by simp at k⟩;show a.last c=_;split
   .rename_i b;subst b;omega
   .rfl
 simp only;have d:=d _ rfl;generalize (if 0<(a.b P).length then gS a P else(true,a))=p at *;by_cases n:p.1=false
 .rw[D n];obtain⟨i,v⟩:=d.2 n;refine⟨.inr rfl,by simp only[i],λb=>by simp at b,λ_=>⟨by simp only[i];exact v,λc=>by simp only[i],λc=>.inl (by simp only[i])⟩⟩
 rw[f n];obtain⟨j,r,s⟩:=d.1 (by simpa using n);by_cases l:0<(a.b (1 - P)).length
 .rw[D l];by_cases o:(fO p.2 (1 - P)).1=false
  .rw[D o];obtain⟨i,v⟩:=Aw o;refine⟨.inr rfl,by simp only[i];exact s,λb=>by simp at b,λ_=>⟨by simp only[i];exact v,λc=>by simp only[i];exact j c,λc=>?_⟩⟩;simp only[i];rw[r];split
   .rename_i b;rw[b];exact .inr rfl
   .exact .inl rfl
  .rw[f o];have e:=Av (by simpa using o:(fO p.2 (1 - P)).1=true);refine⟨.inl rfl,e.ay.trans s,λ_=>⟨?_,?_,?_,?_,?_⟩,λb=>by simp at b⟩
   .simp only;rw[e.b,f (by omega)];exact j P
   .simp only;rw[e.last,f (by omega),r,D rfl]
   .simp only;rw[e.b,D rfl]
   .simp only;rw[e.b,f (by omega)];exact j 2
   .simp only;rw[e.b,f (by omega)];exact j 3
 .rw[f l,f (by simp)];have y:a.b (1 - P)=[]:=iC (by omega);exact⟨.inl rfl,s,λ_=>⟨j P,by simp only;rw[r,D rfl],by simp only;rw[j,y],j 2,j 3⟩,λb=>by simp at b⟩
theorem Tg(a:aH)(c:∀b,b<4->a.last b<=(a.b b).length):Ht a (fF a).2 (fF a).1 (cZ a):=by
 have d:cZ a<2:=by unfold cZ;split<;>omega
 exact Tf a d c
theorem eU.raise{e:aH}{B C:Int}(A:eU o w S p B C)(I:∀l,l<4->o.last l<=(o.b l).length)(b:∀j,e.b j=o.b j)(k:∀j,e.last j=o.last j\/e.last j=(o.b j).length):eU e w S p B C:=by
 obtain⟨d,Q,R,c,G,H,N⟩:=A.ex;have M:=c.jz;have T:=I d (by omega);refine⟨d,Q,R,⟨M,c.fit,c.jA,c.time,by rw[b];exact c.eq,?_,by rw[b];exact c.fU,by rw[b];exact c.kQ⟩,by rw[b];exact G,by rw[b];exact H,?_⟩
 .have:=c.low;obtain i|i:=k d<;>omega
 .obtain⟨O,r⟩|⟨s,P,z,v,hd,x,y⟩:=N
  .refine .inl ⟨?_,?_⟩
   .obtain a|⟨a,i⟩:=O
    .exact .inl a
    .refine .inr ⟨a,?_⟩;rw[b];obtain n|n:=k d<;>omega
   .unfold tC at r ⊢;rw[b];obtain a|⟨a,i⟩|a:=r
    .exact .inl a
    .refine .inr (.inl ⟨a,?_⟩);obtain n|n:=k (1 - d)<;>omega
    .exact .inr (.inr a)
  .exact .inr ⟨s,P,z,v,hd,x,by rw[b];exact y⟩
theorem Th{b:List Int}(a:qo o P w S I b)(i:b=[]\/qp w b):cW o P=I.flatten.map canon/\kj o P=decide (b=[]):=by
 have d:(I.map λj=>j.map canon).flatten=I.flatten.map canon:=by rw[Ti]
 unfold cW kj;rw[a.eq];obtain rfl|⟨c,e⟩:=i
 .rw[dG,z' a.fit];exact⟨d,by simp⟩
 .rw[Fa a.fit c (by rw[a.time];exact e)];exact⟨d,by simp[c]⟩
theorem Tj{fl':aQ}{c:Int}{a:aK}(b:qo o P w S I (aT w [aP w a]))(hF:cJ c w S)(hd:br w S a=(0,Q,fl')):lh 0 (I++[[aP w a]])/\ki 0 gJ (I++[[aP w a]]).flatten Q fl'/\kh 0 (I++[[aP w a]])=Q/\o.b P=dN 0 (I++[[aP w a]]):=by
 refine⟨lh.snoc b.fit ⟨by rw[b.time];exact xT hF hd,trivial⟩ (by simp),?_,?_,?_⟩
 .rw[Sk];exact xP _ b.jA (xQ (.inl ⟨a,rfl,hd⟩))
 .rw[AM,b.time];exact G4 hd
 .rw[AL,b.time,b.eq]
theorem Tk(d:tC o P Q S)(hF:cJ w Q S):(cW o P=[]/\kj o P=decide (o.b P=[]))\/(cW o P=(fD Q S).map canon/\kj o P=true/\fD Q S≠[]/\o.b P=dN 0 [fD Q S]):=by
 have i:=tA hF;have j:=qm Q S 21;rw[lB] at j;unfold cW kj;obtain c|⟨⟨a,b⟩,_⟩|⟨a,b⟩:=d
 .left;rw[c];exact⟨rfl,rfl⟩
 .left;have:=Fa (rs:=[]) trivial a b;have e:lY (o.b P)=([],false):=this;rw[e];exact⟨rfl,by simp[a]⟩
 .right;have k:dN 0 [fD Q S]=aT 0 (fD Q S):=by simp[dN]
  have:=z' (rs:=[fD Q S]) ⟨⟨i,by omega⟩,trivial⟩;rw[a,<-k,this];exact⟨by simp,rfl,b,rfl⟩
structure Tl (T:aH) (now:Int) (fl:aQ) (mb:Option (Int×aQ)) (B C:Int) (nw:Int) (fw:aQ):Prop where
 jA:∀es,es=cW T 0\/es=cW T 1->es.length=(cW T (cZ T)).length->∃es0,es=es0.map canon/\ki 0 gJ es0 nw fw
 ok:(fF T).1=0->dW (fF T).2 (cZ T) (!(kj T (cZ T))) nw fw B
 dead:(fF T).1≠0->(fF T).1=16/\(fF T).2.fuse=0/\eU (fF T).2 now fl mb B C
 ay:(fF T).2.ay=T.ay
theorem eU.opens{B C:Int}(ak:eU o w S p B C)(hF:cJ Q w S)(am:∀ag,ag<4->o.last ag<=(o.b ag).length)(aY:C<=B):∃v z,((v=w/\z=S)\/p=E (v,z))/\Tl o w S p B C v z:=by
 have hcs:=Tg o am;have T:(fF o).1≠0->(fF o).1=16/\(fF o).2.fuse=0/\eU (fF o).2 w S p B C:=λk=>by
  obtain b|b:=hcs.err
  .exact absurd b k
  .obtain⟨d1,d2,d3⟩:=hcs.dead b;exact⟨b,d1,ak.raise am d2 d3⟩
 obtain⟨a,G,ai,c,aF,aX,aO⟩:=ak.ex;have aI:=c.jz;have W:=GV hF;have aJ:=tA hF;have aN:=GW hF;have aK:=qm w S 21;rw[lB] at aK;have au:∀(v:Int) (z:aQ) (H:List (List aD)) (I:List Int),cZ o=a->lh 0 H->ki 0 gJ H.flatten v z->kh 0 H=v->o.b a=dN 0 H++I->(I=[]\/qp v I)->kj o a=decide (I=[])->(fF o).1=0->dW (fF o).2 (cZ o) (!(kj o (cZ o))) v z B:=λv z H I A Z aa ah R aU ay k=>by
  obtain⟨d,n,x,N,O⟩:=hcs.ok k;rw[A] at d n x ⊢;refine⟨⟨H,I,⟨aI,Z,aa,ah,by rw[d];exact R,by rw[n,R,bG];omega,by rw[N];exact c.fU,by rw[O];exact c.kQ⟩,λb=>?_,λb=>?_⟩,x,by rw[n,d],by rw[d];exact aF⟩
  .rw[ay] at b;simpa using b
  .rw[ay] at b;obtain y|y:=aU
   .simp[y] at b
   .exact y
 obtain⟨aS,ao⟩|⟨aA,av,aj,aB,hd,aC,aE⟩:=aO
 .have ap:ai=[]\/qp w ai:=aS.imp id (λb=>b.1);obtain⟨X,aT⟩:=Th c ap;have ad:=Tk ao hF;refine⟨w,S,.inl ⟨rfl,rfl⟩,?_⟩;by_cases A:cZ o=a
  .refine⟨λr s i=>?_,au w S G ai A c.fit c.jA c.time c.eq ap aT,T,hcs.ay⟩;rw[A] at i;have M:r=cW o a\/r=cW o (1 - a):=by
    have:a=0\/a=1:=by omega
    obtain rfl|rfl:=this
    .exact s
    .exact s.symm
   obtain rfl|rfl:=M
   .exact⟨G.flatten,X,c.jA⟩
   .obtain⟨b,_⟩|⟨b,_⟩:=ad
    .rw[b,X] at i;simp only[iR,ui] at i;have l:G.flatten=[]:=iC i.symm;have j:=c.jA;rw[l] at j;exact⟨[],by rw[b];rfl,j⟩
    .exact⟨_,b,W⟩
  .have e:cZ o=1 - a:=by
    have:cZ o=0\/cZ o=1:=by unfold cZ;split<;>simp
    omega
   have aG:(cW o (1 - a)≠[])\/(cW o (1 - a)=[]/\cW o a=[]):=by
    by_cases l:cW o (1 - a)=[]
    .refine .inr ⟨l,?_⟩;have:a=0\/a=1:=by omega
     obtain rfl|rfl:=this
     .exfalso;unfold cZ at e;have af:cW o 1=[]:=l;rw[af,f (by unfold pd;simp)] at e;omega
     .have ae:cW o 0=[]:=l;unfold cZ at e;rw[ae] at e;by_cases j:0<(cW o 1).length
      .rw[D (by unfold pd;simp;omega)] at e;omega
      .exact iC (by omega)
    .exact .inl l
   have aW:∀(k:(fF o).1=0),_:=λk=>hcs.ok k;obtain l|⟨l,ar⟩:=aG
   .obtain⟨b,_⟩|⟨P,Y,aw,ax⟩:=ad
    .exact absurd b l
    .refine⟨λr s i=>?_,λk=>?_,T,hcs.ay⟩
     .have M:r=cW o a\/r=cW o (1 - a):=by
       have:a=0\/a=1:=by omega
       obtain rfl|rfl:=this
       .exact s
       .exact s.symm
      obtain rfl|rfl:=M
      .exact⟨G.flatten,X,c.jA⟩
      .exact⟨_,P,W⟩
     .obtain⟨d,n,x,N,O⟩:=hcs.ok k;rw[e] at d n x ⊢;refine⟨⟨[fD w S],[],⟨by omega,⟨⟨aJ,by omega⟩,trivial⟩,by simpa using W,aN,by rw[d,ax];simp,by rw[n,ax];exact cz _,by rw[N];exact c.fU,by rw[O];exact c.kQ⟩,λ_=>rfl,λb=>?_⟩,x,by rw[n,d],by rw[d];omega⟩;rw[Y] at b;cases b
   .rw[X] at ar;have aR:G.flatten=[]:=by simpa using ar
    have j:=c.jA;rw[aR] at j;obtain⟨P,Y⟩|⟨P,_,aw,_⟩:=ad
    .refine⟨λr s i=>?_,λk=>?_,T,hcs.ay⟩
     .rw[e,P] at i;obtain rfl:=iC i;exact⟨[],rfl,j⟩
     .obtain⟨d,n,x,N,O⟩:=hcs.ok k;rw[e] at d n x ⊢;refine⟨⟨[],o.b (1 - a),⟨by omega,trivial,j,j.1.symm,by rw[d];rfl,gr _,by rw[N];exact c.fU,by rw[O];exact c.kQ⟩,λb=>?_,λb=>?_⟩,x,by rw[n,d],by rw[d];omega⟩
      .rw[Y] at b;simpa using b
      .rw[Y] at b;have aL:o.b (1 - a)≠[]:=by simpa using b
       obtain y|⟨y,_⟩|⟨y,az⟩:=ao
       .exact absurd y aL
       .rw[j.1];exact y
       .exfalso;have:=W;rw[j.1,j.2] at az;exact az rfl
    .exact absurd l (by rw[P];simpa using aw)
 .subst aC;obtain⟨Z,aa,ah,R⟩:=Tj c hF hd;have ab:cW o a=(G++[[aP w aA]]).flatten.map canon/\kj o a=true:=by
   unfold cW kj;rw[R,z' Z];exact⟨by rw[Ti],rfl⟩
  have e:cW o (1 - a)=[]:=by unfold cW;rw[aE];rfl
  have aZ:0<(cW o a).length:=by rw[ab.1];simp
  have A:cZ o=a:=by
   have:a=0\/a=1:=by omega
   obtain rfl|rfl:=this
   .have af:cW o 1=[]:=e;unfold cZ;rw[af,f (by unfold pd;simp)]
   .have ae:cW o 0=[]:=e;unfold cZ;rw[ae,D (by unfold pd;simp;omega)]
  refine⟨av,aj,.inr aB,λr s i=>?_,au av aj _ [] A Z aa ah (by rw[R];simp) (.inl rfl) (by rw[ab.2];simp),T,hcs.ay⟩;have M:r=cW o a\/r=cW o (1 - a):=by
   have:a=0\/a=1:=by omega
   obtain rfl|rfl:=this
   .exact s
   .exact s.symm
  obtain rfl|rfl:=M
  .exact⟨_,ab.1,aa⟩
  .rw[A,e] at i;simp only[iR] at i;omega
theorem Hu(a:w<0):gD w<0:=by unfold gD;rw[f (by omega)];exact a
theorem Tm(b:Nat)(a:o.fuse<0):(gS o b).2.fuse<0:=by
 unfold gS;split
 .exact a
 .exact Hu a
theorem Tn(b:Nat)(a:o.fuse<0):(fO o b).2.fuse<0:=by
 unfold fO;split
 .exact a
 .exact Hu a
theorem To(b:o.fuse<0):(fF o).2.fuse<0:=by
 unfold fF ig;have hA:(if 0<(o.b (cZ o)).length then gS o (cZ o) else(true,o)).2.fuse<0:=by
  split
  .exact Tm _ b
  .exact b
 generalize (if 0<(o.b (cZ o)).length then gS o (cZ o) else(true,o))=a at *;dsimp only;by_cases c:a.1=false
 .rw[D c];exact hA
 rw[f c];have e:(if 0<(o.b (1 - cZ o)).length then fO a.2 (1 - cZ o) else(true,a.2)).2.fuse<0:=by
  split
  .exact Tn _ hA
  .exact hA
 generalize (if 0<(o.b (1 - cZ o)).length then fO a.2 (1 - cZ o) else(true,a.2))=i at *;by_cases d:i.1=false
 .rw[D d];exact e
 .rw[f d];exact e
theorem Hv(c:cJ w Q S):∀a,fH S a<=200+4000* a
 |0=>by unfold fH;omega
 |a+1=>by
  have:=Hv c a;unfold fH;split
  .omega
  .rename_i b d;have e:b.2.length<=120:=bV.wf.jO (c.wf a b.1 b.2 d);have i:cG b.2<=b.2.length:=by unfold cG;exact oF
   show fH S a+(60+30* (cG b.2:Int))<=200+4000* ((a+1:Nat):Int);omega
theorem Hw(a:cJ w Q S):((a9 Q S).length:Int)<=100000:=by
 have:=xS a;have:=Hv a 21;omega
structure oi (n:Nat) (I:aG):Prop where
 same:I.W.now=I.now/\I.W.fl=I.fl
 ok:cJ n I.now I.fl
 may:∀M,I.mb=E M->cJ n M.now M.fl/\∃c,br I.now I.fl c=(0,M.now,M.fl)
 most:fH I.fl 21<=I.most/\I.most<=1000000
 ch:0<=I.ch/\I.ch<=n
 ay:¬I.K.T.ay<200
 fg:n<=1048577
 file:I.K.file<2
structure lC (n:Nat) (I:aG):Prop where
 b:oi n I
 yd:eU I.K.T I.now I.fl (I.mb.map λM=>(M.now,M.fl)) (I.most+60* I.ch) I.most
structure dw (n:Nat) (I:aG):Prop where
 b:oi n I
 live:I.K.live=true->(∃b,I.kb=E b)/\I.sh=false/\I.mb=J/\dW I.K.T I.K.file I.K.torn I.now I.fl (I.most+60* I.ch)
 dead:I.K.live=false->eU I.K.T I.now I.fl (I.mb.map λM=>(M.now,M.fl)) (I.most+60* I.ch) I.most/\(I.kb=J\/I.sh=true)
theorem oi.ye{I:aG}(a:oi P I):200<=I.most:=by
 have:=AK I.fl 21;have:=a.most;omega
theorem dw.vm{I:aG}(a:dw P I):lC P I:=by
 refine⟨a.b,?_⟩;have e:=a.b.ye
 cases b:I.K.live with
 |true=>
  obtain⟨_,_,c,d⟩:=a.live b;rw[c];exact d.close (by omega) J
 |false=>exact(a.dead b).1
theorem oi.more{I:aG}(a:oi P I)(c:P+1<=1048577):oi (P+1) I:=
 ⟨a.same,a.ok.more (by omega) (by omega),λM b=>⟨(a.may M b).1.more (by omega) (by omega),(a.may M b).2⟩,a.most,by have:=a.ch;omega,a.ay,c,a.file⟩
theorem dw.more{I:aG}(a:dw P I)(b:P+1<=1048577):dw (P+1) I:=⟨a.b.more b,a.live,a.dead⟩
theorem aO.j2{I:aG}(a:aO k j P I):aS k (λe=>I.okp e=30) I.K.tb I.K.T:=by
 cases b:I.kb with
 |none=>exact(a.keep.none b).1
 |some c=>
  obtain⟨⟨i,d⟩,_⟩:=a.keep.some c b;exact d.tape
theorem aO.oo{I:aG}(d:aO k j P I)(a:Nat)(e:I.okp a≠0):j a:=by
 obtain⟨r,i,b,l,n,o,p,c⟩:=d.ex;exact c a (by rw[b a e];omega)
theorem aO.vn{I:aG}(b:aO k j P I):j P:=by
 obtain⟨d,c,_,_,_,_,_,a⟩:=b.ex;exact a P (by omega)
theorem aO.Tp{I:aG}(c:aO k j P I):I.okp P=0:=by
 obtain⟨i,d,b,_,_,_,_,e⟩:=c.ex;by_cases a:I.okp P=0
 .exact a
 .have:=b P a;omega
theorem AZ{n:Nat->Nat}{tb:Nat}{B C N:Int}(x:aS k (λd=>n d=30) tb o)(hS:∀d,n d=30->d<k.heap.size)(hd:eU o w S p B C)(hF:cJ N w S)(T:∀z b,p=E (z,b)->cJ N z b)(Z:¬o.ay<200)(aa:B<=1099511627776)(P:C<=B)(ae:N<=1000000000):∃j i,((j=w/\i=S)\/p=E (j,i))/\Calls h 20 #[g (E (u tb 0 J))] k λe w'=>
   (∃(s b:Nat) (A:Bool) (a:aH),e=q (aq #[g (E (u s 0 J)),F K 0])/\uV k w' n s tb b A a j i/\dW a b A j i B/\a.ay=o.ay)\/(e=q (aq #[g J,F K 16])/\0<=o.fuse/\∃a,aS w' (λd=>n d=30) tb a/\a.fuse=0/\eU a w S p B C/\a.ay=o.ay/\G (λd=>n d=30) k w'):=by
 have R:=λc (hi:c<4)=>(x.last c hi).1;obtain⟨j,i,y,l⟩:=hd.opens hF R P;have Q:cJ N j i:=by
  obtain⟨rfl,rfl⟩|e:=y
  .exact hF
  .exact T _ _ e
 have v:∀c,c<2->(o.b c).length<=1099511627776:=by
  obtain⟨b,af,ag,W,ab,ad,_⟩:=hd.ex;have:=W.jz;intro c hi;by_cases e:c=b
  .subst e;omega
  .have:c=1 - b:=by omega
   subst this;omega
 refine⟨j,i,y,(PH x hS Z (v 0 (by omega)) (v 1 (by omega)) (by have:=Q.time;omega) l.jA).mono ?_⟩;rintro e w' ⟨H,I⟩;by_cases r:(fF o).1=0
 .obtain⟨s,rfl,X⟩:=H r;exact .inl ⟨s,_,_,_,rfl,X,l.ok r,l.ay⟩
 .obtain⟨rfl,M,O⟩:=I r;obtain⟨_,d1,d2⟩:=l.dead r;refine .inr ⟨rfl,?_,_,M,d1,d2,l.ay,O⟩;by_cases Y:o.fuse<0
  .have:=To Y;omega
  .omega
theorem A5{K:bU}{B:Int}(hF:cJ w Q S)(hd:dW K.T K.file K.torn Q S B):qn Q S K:=by
 have a:=Hw hF;exact⟨hF.iw 0 (.inl rfl),tA hF,GR hF,hd.jz,by rw[hd.tB];simp only[iR];omega⟩
theorem Hx{a:bU}{B C:Int}(hF:cJ w Q S)(hd:eU a.T Q S p B C)(d:a.file<2)(k:B<=1099511627776)(o:C<=B):qn Q S a/\((a.T.b a.file).length:Int)<=B:=by
 have r:=Hw hF;have e:∀b,b<2->((a.T.b b).length:Int)<=B:=by
  obtain⟨c,s,v,j,l,n,_⟩:=hd.ex;have:=j.jz;intro b hi;by_cases i:b=c
  .subst i;omega
  .have:b=1 - c:=by omega
   subst this;omega
 refine⟨⟨hF.iw 0 (.inl rfl),tA hF,GR hF,d,?_⟩,e _ d⟩;have:=e (1 - a.file) (by omega);omega
theorem aO.Hy{w':U}{S:Nat->Prop}{I I':aG}(w:aO k j P I)(O:G S k w')(aK:∀a,j a->S a->a=P\/I.okp a≠0)(aI:X w' P (dO I') 55)(W:(I'.kb=I.kb/\I'.okp=I.okp/\I'.om=I.om/\I'.now=I.now/\I'.fl=I.fl/\I'.K=I.K/\I'.tl=I.tl/\∀a,I.okp a≠0->¬S a)\/(rC w' I'.okp I'.om I'.kb I'.now I'.fl I'.K I'.tl/\(∀a,I'.okp a≠0->I.okp a≠0\/(k.heap.size<=a/\a<w'.heap.size))/\∀a,I'.om a=0))
  (af:(I'.W=I.W/\(I'.mb=I.mb\/I'.mb=J))\/(I.mb=E I'.W/\I'.mb=J))(ag:(I'.owt=I.owt/\I'.tob=I.tob/\I'.vs=I.vs/\I'.ns=I.ns/\I'.bs=I.bs)\/(oc w' I'.owt I'.tob I'.vs I'.ns I'.bs/\(∀a,I'.owt a≠0->k.heap.size<=a/\a<w'.heap.size/\I'.okp a=0))):aO w' (grow j k w') P I':=by
 obtain⟨p,aR,B,aj,ab,ak,ad,n⟩:=w.ex;have aL:=O.size;have y:∀a,p a≠0->a<k.heap.size:=λa b=>w.lt a (n a b);have Y:∀a R,p a=R->R≠0->R≠1->R≠2->¬S a:=λa R c aS aT r i=>by
  obtain ae|ae:=aK a (n a (by omega)) i
  .subst ae;omega
  .have:=B a ae;omega
 have aJ:rC w' I'.okp I'.om I'.kb I'.now I'.fl I'.K I'.tl:=by
  obtain⟨ax,z,aa,ay,az,aA,aB,aC⟩|⟨s,_⟩:=W
  .rw[ax,z,aa,ay,az,aA,aB];exact w.keep.mod O aC (λa b=>Y a _ (ak a b) (by omega) (by omega) (by omega))
  .exact s
 have aN:oc w' I'.owt I'.tob I'.vs I'.ns I'.bs:=by
  obtain⟨A,aD,aE,aF,aH⟩|⟨v,_⟩:=ag
  .rw[A,aD,aE,aF,aH];exact w.told.mod O (λa b=>Y a _ (ab a b) (by omega) (by omega) (by omega))
  .exact v
 have av:∀M,I.mb=E M->kO w' M:=λM e=>(w.may M e).mod O (λa b=>Y a _ (ad M e a b) (by omega) (by omega) (by omega));have aw:kO w' I'.W/\∀M,I'.mb=E M->kO w' M:=by
  obtain⟨l,d⟩|⟨l,d⟩:=af
  .refine⟨by rw[l];exact w.bM.mod O (λa b=>Y a _ (aj a b) (by omega) (by omega) (by omega)),λM e=>?_⟩;obtain d|d:=d
   .exact av M (by rw[<-d];exact e)
   .rw[d] at e;cases e
  .exact⟨av _ l,λM e=>by rw[d] at e;cases e⟩
 refine⟨aI,aJ,aw.1,aw.2,aN,?_,λa b=>?_⟩
 .classical
  refine⟨λa=>if a=P then 1 else if I'.okp a≠0 then 2 else if I'.W.ow a≠0 then 3 else if I'.owt a≠0 then 4 else if I'.om a≠0 then 5 else if ∃M,I'.mb=E M/\M.ow a≠0 then 6 else 0,D rfl,?_⟩;have Q:∀a,I'.okp a≠0->p a=2\/k.heap.size<=a:=λa b=>by
   obtain⟨_,z,_⟩|⟨_,s,_⟩:=W
   .exact .inl (B a (by rw[<-z];exact b))
   .obtain i|i:=s a b
    .exact .inl (B a i)
    .exact .inr i.1
  have ah:∀a,I'.om a≠0->p a=5:=λa b=>by
   obtain⟨_,_,aa,_⟩|⟨_,_,s⟩:=W
   .exact ak a (by rw[<-aa];exact b)
   .exact absurd (s a) b
  have N:∀a,I'.W.ow a≠0->(p a=3/\I'.W=I.W)\/(p a=6/\I.mb=E I'.W/\I'.mb=J):=λa b=>by
   obtain⟨l,_⟩|⟨l,d⟩:=af
   .exact .inl ⟨aj a (by rw[<-l];exact b),l⟩
   .exact .inr ⟨ad _ l a b,l,d⟩
  have e:∀M,I'.mb=E M->∀a,M.ow a≠0->p a=6/\I'.W=I.W:=λM e a b=>by
   obtain⟨l,d⟩|⟨_,d⟩:=af
   .obtain d|d:=d
    .exact⟨ad M (by rw[<-d];exact e) a b,l⟩
    .rw[d] at e;cases e
   .rw[d] at e;cases e
  have ai:∀a,I'.owt a≠0->p a=4\/(k.heap.size<=a/\I'.okp a=0):=λa b=>by
   obtain⟨A,_⟩|⟨_,v⟩:=ag
   .exact .inl (ab a (by rw[<-A];exact b))
   .exact .inr ⟨(v a b).1,(v a b).2.2⟩
  have aW:=y P (by omega);refine⟨λa b=>?_,λa b=>?_,λa b=>?_,λa b=>?_,λM Z a b=>?_,λa b=>?_⟩
  .have:=Q a b;have o:a≠P:=λc=>by subst c;omega
   show(if a=P then 1 else if I'.okp a≠0 then 2 else _)=2;rw[f o,D b]
  .have x:=N a b;have au:=y a (by omega);have o:a≠P:=λc=>by subst c;omega
   have r:¬I'.okp a≠0:=λc=>by have:=Q a c;omega
   show(if a=P then 1 else if I'.okp a≠0 then 2 else if I'.W.ow a≠0 then 3 else _)=3;rw[f o,f r,D b]
  .have H:=ai a b;have o:a≠P:=λc=>by subst c;omega
   have r:¬I'.okp a≠0:=λc=>by
    obtain i|i:=H
    .have:=Q a c;have:=y a (by omega);omega
    .exact c i.2
   have x:¬I'.W.ow a≠0:=λc=>by
    have:=N a c;have:=y a (by omega);omega
   show(if a=P then 1 else if I'.okp a≠0 then 2 else if I'.W.ow a≠0 then 3 else if I'.owt a≠0 then 4 else _)=4;rw[f o,f r,f x,D b]
  .have ar:=ah a b;have au:=y a (by omega);have o:a≠P:=λc=>by subst c;omega
   have r:¬I'.okp a≠0:=λc=>by have:=Q a c;omega
   have x:¬I'.W.ow a≠0:=λc=>by have:=N a c;omega
   have H:¬I'.owt a≠0:=λc=>by have:=ai a c;omega
   show(if a=P then 1 else if I'.okp a≠0 then 2 else if I'.W.ow a≠0 then 3 else if I'.owt a≠0 then 4 else if I'.om a≠0 then 5 else _)=5;rw[f o,f r,f x,f H,D b]
  .have aU:=(e M Z a b).1;have au:=y a (by omega);have o:a≠P:=λc=>by subst c;omega
   have r:¬I'.okp a≠0:=λc=>by have:=Q a c;omega
   have x:¬I'.W.ow a≠0:=λc=>by
    obtain i|i:=N a c
    .omega
    .have:=i.2.2;rw[this] at Z;cases Z
   have H:¬I'.owt a≠0:=λc=>by have:=ai a c;omega
   have ar:¬I'.om a≠0:=λc=>by have:=ah a c;omega
   show(if a=P then 1 else if I'.okp a≠0 then 2 else if I'.W.ow a≠0 then 3 else if I'.owt a≠0 then 4 else if I'.om a≠0 then 5 else if ∃M,I'.mb=E M/\M.ow a≠0 then 6 else 0)=6;rw[f o,f r,f x,f H,f ar,D ⟨M,Z,b⟩]
  .have b:(if a=P then 1 else if I'.okp a≠0 then 2 else if I'.W.ow a≠0 then 3 else if I'.owt a≠0 then 4 else if I'.om a≠0 then 5 else if ∃M,I'.mb=E M/\M.ow a≠0 then 6 else 0)≠0:=b;by_cases l:a=P
   .exact .inl (l ▸ n P (by omega))
   rw[f l] at b;by_cases d:I'.okp a≠0
   .obtain⟨_,z,_⟩|⟨_,s,_⟩:=W
    .exact .inl (n a (by rw[B a (by rw[<-z];exact d)];omega))
    .obtain i|i:=s a d
     .exact .inl (n a (by rw[B a i];omega))
     .exact .inr i
   rw[f d] at b;by_cases am:I'.W.ow a≠0
   .obtain i|i:=N a am
    .exact .inl (n a (by omega))
    .exact .inl (n a (by omega))
   rw[f am] at b;by_cases T:I'.owt a≠0
   .obtain⟨A,_⟩|⟨_,v⟩:=ag
    .exact .inl (n a (by rw[ab a (by rw[<-A];exact T)];omega))
    .exact .inr ⟨(v a T).1,(v a T).2.1⟩
   rw[f T] at b;by_cases ao:I'.om a≠0
   .exact .inl (n a (by rw[ah a ao];omega))
   rw[f ao] at b;by_cases ap:∃M,I'.mb=E M/\M.ow a≠0
   .obtain⟨M,aP,aQ⟩:=ap;exact .inl (n a (by rw[(e M aP a aQ).1];omega))
   .rw[f ap] at b;exact absurd rfl b
 .obtain b|b:=b
  .exact bj (w.lt a b) aL
  .exact b.2
theorem aO.yg{w':U}{S:Nat->Prop}{I I':aG}(c:aO k j P I)(N:G S k w')(d:∀a,j a->S a->a=P)(M:X w' P (dO I') 55)(z:(I'.kb=I.kb/\I'.okp=I.okp/\I'.om=I.om/\I'.now=I.now/\I'.fl=I.fl/\I'.K=I.K/\I'.tl=I.tl)\/(rC w' I'.okp I'.om I'.kb I'.now I'.fl I'.K I'.tl/\(∀a,I'.okp a≠0->k.heap.size<=a/\a<w'.heap.size)/\∀a,I'.om a=0))
  (y:(I'.W=I.W/\(I'.mb=I.mb\/I'.mb=J))\/(I.mb=E I'.W/\I'.mb=J))(A:(I'.owt=I.owt/\I'.tob=I.tob/\I'.vs=I.vs/\I'.ns=I.ns/\I'.bs=I.bs)\/(oc w' I'.owt I'.tob I'.vs I'.ns I'.bs/\(∀a,I'.owt a≠0->k.heap.size<=a/\a<w'.heap.size/\I'.okp a=0))):aO w' (grow j k w') P I':=
 c.Hy N (λa B H=>.inl (d a B H)) M (z.imp (λ⟨i,l,n,o,p,r,s⟩=>⟨i,l,n,o,p,r,s,λa b x=>by
  have:=d a (c.oo a b) x
  rw[this] at b
  exact b c.Tp⟩) (λ⟨e,v,w⟩=>⟨e,λa b=>.inr (v a b),w⟩)) y A
end Go.Proofs.YthhibagcpjeihaaGreat
