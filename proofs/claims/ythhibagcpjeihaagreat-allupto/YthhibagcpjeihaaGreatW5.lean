import Derived.Test.YthhibagcpjeihaaGreatW2
import Derived.Test.YthhibagcpjeihaaGreatW3
open Go.Proofs.Tryz
open Go.Addr renaming mk->u,add_mid->dE
open Go.Value renaming int->F,pointer->g,slice->C,bool->L,agg->t,ownBlock->aV
open Go.IntKind renaming i64->K
open Option renaming none->J,some->E
open Go renaming World->U,Value->V
open Go.Proofs.Tryz renaming prog->h,underlying61->qT
open Go.Ending renaming returned->q
open Go.Obj renaming cells->m
open Go.Act renaming eval->aM
set_option linter.unusedVariables false
set_option linter.unusedSimpArgs false
set_option maxRecDepth 100000
set_option maxHeartbeats 4000000
namespace Go.Proofs.YthhibagcpjeihaaGreat
open Go.RowKit
open M
theorem Kv(b:List z)(a:Nat)(hi:a<b.length):ew (b.take (a+1))=ew (b.take a)+if b[a].st=0 then 1 else 0:=by
 unfold ew;rw[mD,du hi];simp only[qS,qO,yS,lD]
theorem ur(a:List z):ew a<=a.length:=oF
theorem CH(b:Int)(a:List z):fI b a<=a.length:=oF
theorem Kw(c:Int)(b:List z)(a:Nat)(hi:a<b.length):fI c (b.take (a+1))=fI c (b.take a)+if (b[a].ev&&decide (c<=b[a].cl))=true then 1 else 0:=by
 unfold fI;rw[mD,du hi];simp only[qS,qO,yS]
theorem wj(gf k n j:Nat)(c:List z)(d:U)(o:bE d n j c)(I:c.length<=1000)(G:d.cell? ⟨gf,k+8,J⟩=E (C (E (u n 0 J)) c.length j)):Calls h 58 #[g (E (u gf k J))] d λe w'=>e=q (F K (ew c:Nat))/\w'=d:=by
 have w:=l o;clear o;go_enter func58,ntmps58;go_wp2_with fail;go_loopw [3,4] (λy i wr=>∃a:Nat,y=F K (ew (c.take a):Nat)/\i=F K a/\a<=c.length/\wr=d) (λ_ i _=>c.length - (intOf i).toNat)
 case atStart=>exact⟨0,rfl,rfl,by omega,rfl⟩
 case round=>
  obtain⟨a,rfl,rfl,hi,rfl⟩:=hrel;by_cases p:a<c.length
  .have x:(a:Int)<(c.length:Int):=by omega
   have B:(0:Int)<=a:=by omega
   have A:=(b w).st a p;have H:K.wrap ((a:Int)+1)=((a+1:Nat):Int):=by rw[bh _ (by omega) (by omega)];rfl
   have M:ew (c.take a)<=a:=by have:=ur (c.take a);rw[eO] at this;omega
   have v:=l (Kv c a p);by_cases r:c[a].st=0
   .have s:K.wrap ((ew (c.take a):Nat)+1:Int)=((ew (c.take (a+1)):Nat):Int):=by
     rw[b v,D r,bh _ (by omega) (by omega)];rfl
    go_wp2;exact⟨⟨a+1,rfl,rfl,by omega,trivial⟩,by simp[intOf];omega⟩
   .have s:ew (c.take a)=ew (c.take (a+1)):=by rw[b v,f r];rfl
    go_wp2;exact⟨⟨a+1,by rw[s],rfl,by omega,trivial⟩,by simp[intOf];omega⟩
  .have x:¬(a:Int)<(c.length:Int):=by omega
   have e:a=c.length:=by omega
   subst e;rw[fN];go_wp2;go_ret;exact⟨rfl,rfl⟩
theorem Ky(gf H I B:Nat)(c:List z)(d:Int)(r:U)(p:bE r I B c)(ai:c.length<=1000)(M:r.cell? ⟨gf,H+8,J⟩=E (C (E (u I 0 J)) c.length B)):Calls h 91 #[g (E (u gf H J)),F K d] r λk w'=>k=q (F K (fI d c:Nat))/\G No r w':=by
 have s:=l p;have v:=l M;have S:=jk r _ M;clear p M;go_enter func91,ntmps91;go_wp2_with fail;go_loopw [5,6] (λT N wr=>∃a:Nat,T=F K (fI d (c.take a):Nat)/\N=F K a/\a<=c.length/\Hid (G No r wr)) (λ_ N _=>c.length - (intOf N).toNat)
 case atStart=>exact⟨0,rfl,rfl,by omega,G.refl _ _⟩
 case round=>
  obtain⟨a,rfl,rfl,hi,i⟩:=hrel;have ag:wr.cell? ⟨gf,H+8,J⟩=E (C (E (u I 0 J)) c.length B):=by
   have Q:=b v;unfold World.cell? at Q ⊢;rw[(b i).block gf S (λO=>O)];exact Q
  by_cases n:a<c.length
  .have R:(a:Int)<(c.length:Int):=by omega
   have ad:(0:Int)<=a:=by omega
   have j:=(b s).mod (b i) (λO=>O);have W:=j.row a n;have X:=j.ae a n;have Y:=j.st a n;have Z:=j.pa a n;have aa:=j.cl a n;have ab:=j.un a n;clear j;have ah:K.wrap ((a:Int)+1)=((a+1:Nat):Int):=by rw[bh _ (by omega) (by omega)];rfl
   have aj:fI d (c.take a)<=a:=by have:=CH d (c.take a);rw[eO] at this;omega
   have y:=l (Kw d c a n);have x:(c[a].ev&&decide (d<=c[a].cl))=false->fI d (c.take a)=fI d (c.take (a+1)):=λp=>by rw[b y,p];rfl
   have A:(c[a].ev&&decide (d<=c[a].cl))=true->K.wrap ((fI d (c.take a):Nat)+1:Int)=((fI d (c.take (a+1)):Nat):Int):=λp=>by
    rw[b y,D p,bh _ (by omega) (by omega)];rfl
   by_cases e:c[a].st=1\/c[a].st=2
   .have o:c[a].ev=true:=by unfold z.ev;simpa using e
    by_cases P:c[a].cl>=d
    .have w:=A (by rw[o];simpa using P);clear A x y s v o;obtain e|e:=e
     .go_wp2;exact⟨⟨a+1,rfl,rfl,by omega,(b i).alloc _⟩,by simp[intOf];omega⟩
     .go_wp2;exact⟨⟨a+1,rfl,rfl,by omega,(b i).alloc _⟩,by simp[intOf];omega⟩
    .have w:=x (by rw[o];simpa using P);clear A x y s v o;obtain e|e:=e
     .go_wp2;exact⟨⟨a+1,by first|rfl|rw[w],rfl,by omega,(b i).alloc _⟩,by simp[intOf];omega⟩
     .go_wp2;exact⟨⟨a+1,by first|rfl|rw[w],rfl,by omega,(b i).alloc _⟩,by simp[intOf];omega⟩
   .have o:c[a].ev=false:=by unfold z.ev;simpa using e
    have w:=x (by rw[o];rfl);have ae:¬c[a].st=1:=λk=>e (.inl k);have af:¬c[a].st=2:=λk=>e (.inr k);clear A x y s v o e;go_wp2;exact⟨⟨a+1,by first|rfl|rw[w],rfl,by omega,(b i).alloc _⟩,by simp[intOf];omega⟩
  .have R:¬(a:Int)<(c.length:Int):=by omega
   have k:a=c.length:=by omega
   subst k;rw[fN];clear s v;go_wp2;go_ret;exact⟨rfl,b i⟩
theorem CI(gf N O M:Nat)(c:List z)(i e:Int)(j:U)(k:bE j O M c)(am:c.length<=1000)(Q:j.cell? ⟨gf,N+8,J⟩=E (C (E (u O 0 J)) c.length M)):Calls h 85 #[g (E (u gf N J)),t #[F K i,F K e]] j λx w'=>G No j w'/\((∃a,∃hi:a<c.length,c[a].row=i/\c[a].ae=e/\x=q (F K (a:Nat)))\/((∀a,∀hi:a<c.length,¬(c[a].row=i/\c[a].ae=e))/\x=q (F K (-1)))):=by
 have o:=l k;have r:=l Q;have aa:=jk j _ Q;have T:=l (X.new j #[F K i,F K e] 36);have W:=l ((G.refl No j).alloc (m #[F K i,F K e] 36));clear k Q;go_enter func85,ntmps85;go_wp2_with fail;go_loopw [5] (λR wr=>∃a:Nat,R=F K a/\a<=c.length/\Hid (∀d,∀v:d<c.length,d<a->¬(c[d].row=i/\c[d].ae=e))/\Hid (G No j wr)/\Hid (X wr j.heap.size #[F K i,F K e] 36)) (λR _=>c.length - (intOf R).toNat)
 case atStart=>exact⟨0,rfl,by omega,λd v k=>absurd k (fK _),W,T⟩
 case round=>
  obtain⟨a,rfl,hi,p,n,w⟩:=hrel;have ai:wr.cell? ⟨gf,N+8,J⟩=E (C (E (u O 0 J)) c.length M):=by
   have B:=b r;unfold World.cell? at B ⊢;rw[(b n).block gf aa (λS=>S)];exact B
  clear T W;by_cases P:a<c.length
  .have Y:(a:Int)<(c.length:Int):=by omega
   have ah:(0:Int)<=a:=by omega
   have H:=(b o).mod (b n) (λS=>S);have af:=H.row a P;have ag:=H.ae a P;have ad:wr.cell? (u j.heap.size 0 J)=E (F K i):=(b w).T 0;have ae:wr.cell? (u j.heap.size 1 J)=E (F K e):=(b w).T 1;clear H;have aj:K.wrap ((a:Int)+1)=((a+1:Nat):Int):=by rw[bh _ (by omega) (by omega)];rfl
   have s:=l (λ(B:¬(c[a].row=i/\c[a].ae=e)) (d:Nat) (v:d<c.length) (ak:d<a+1)=>(show ¬(c[d].row=i/\c[d].ae=e) from by
    by_cases x:d=a
    .subst x;exact B
    .exact(b p) d v (by omega)))
   by_cases y:c[a].row=i
   .have d2:(c[a].row==i)=true:=by simp[y]
    by_cases A:c[a].ae=e
    .have d3:(c[a].ae==e)=true:=by simp[A]
     clear o r p s;go_wp2_with fail;go_quiet (fail);go_wp2;go_ret;exact⟨(b n).drewN _,.inl ⟨a,P,y,A,rfl⟩⟩
    .have d3:(c[a].ae==e)=false:=by simp[A]
     have I:=l ((b s) (λk=>A k.2));clear o r p s;go_wp2_with fail;go_quiet (fail);go_wp2;exact⟨⟨a+1,rfl,by omega,I,(b n).drewN _,(b w).drewN _⟩,by simp[intOf];omega⟩
   .have d2:(c[a].row==i)=false:=by simp[y]
    have I:=l ((b s) (λk=>y k.1));clear o r p s;go_wp2_with fail;go_quiet (fail);go_wp2;exact⟨⟨a+1,rfl,by omega,I,(b n).drewN _,(b w).drewN _⟩,by simp[intOf];omega⟩
  .have Y:¬(a:Int)<(c.length:Int):=by omega
   clear o r;go_wp2;go_ret;exact⟨b n,.inr ⟨λd v ab Z=>(b p) d v (by omega) ⟨ab,Z⟩,rfl⟩⟩
structure aB where
 f:bV
 g:Nat
 cap:Nat
def cg(x:aB):Array V:=
 #[F K x.f.num,F K x.f.c.rows,F K x.f.c.y,F K x.f.c.Z,F K x.f.c.af,F K x.f.c.ag,F K x.f.c.ai,F K x.f.c.aj,
  C (E (u x.g 0 J)) x.f.Y.length x.cap,F K x.f.ep]
structure eP (w:U) (gf cap:Nat) (xs:List aB):Prop where
 cur:∃cur,X w gf cur 134/\cur.size=cap* 10/\∀i (h:i<xs.length) j,j<10->cur[i* 10+j]? =(cg xs[i])[j]?
 le:xs.length<=cap
 max:cap<=maxLen
variable {w:List aB}
theorem eP.T{b:U}{gf c:Nat}(d:eP b gf c w)(a:Nat)(hi:a<w.length)(j:Nat)(k:j<10):b.cell? ⟨gf,a* 10+j,J⟩=(cg w[a])[j]? :=by
 obtain⟨l,e,n,i⟩:=d.cur;rw[e.T];exact i a hi j k
theorem eP.lt{a:U}{gf b:Nat}(c:eP a gf b w):gf<a.heap.size:=by
 obtain⟨e,d,_⟩:=c.cur;exact d.lt
theorem eP.mod{w w':U}{gf b:Nat}{c:List aB}{S:Nat->Prop}(a:eP w gf b c)(l:G S w w')(k:¬S gf):eP w' gf b c:=by
 obtain⟨d,e,i,j⟩:=a.cur;exact⟨⟨d,l.e e k,i,j⟩,a.le,a.max⟩
def CJ(e:U)(d:V)(a:List aB):Prop:=
 (a=[]/\d=C J 0 0)\/∃c b,d=C (E (u c 0 J)) a.length b/\eP e c b a
def dF(d:List aB)(b:Int):Int:=match d.findIdx? (λc=>c.f.num==b) with|some a=>(a:Int)|none=> -1
theorem Kz{b:Int}(a:Nat)(hi:a<w.length)(d:w[a].f.num=b)(e:∀j,∀c:j<w.length,j<a->w[j].f.num≠b):dF w b=a:=by
 unfold dF;have:w.findIdx? (λi=>i.f.num==b)=E a:=by
  rw[jC];exact⟨hi,by simpa using d,λj c=>by simpa using e j (by omega) c⟩
 rw[this]
theorem KA{a:Int}(d:∀j,∀b:j<w.length,w[j].f.num≠a):dF w a= -1:=by
 unfold dF;have:w.findIdx? (λc=>c.f.num==a)=J:=by
  rw[nd];intro c e;obtain⟨j,b,rfl⟩:=kB e;simpa using d j b
 rw[this]
theorem KB(y:Nat)(c:List aB)(x:V)(k:Int)(j:U)(R:j.cell? (u y 0 J)=E x)(H:CJ j x c)(Q:c.length<=1000):Calls h 52 #[g (E (u y 0 J)),F K k] j λr w'=>r=q (F K (dF c k))/\w'=j:=by
 obtain⟨rfl,rfl⟩|⟨A,M,rfl,w⟩:=H
 .go_enter func52,ntmps52;go_wp2_with fail;go_loopw [5] (λn wr=>n=F K 0/\wr=j) (λ_ _=>0)
  case atStart=>exact⟨rfl,rfl⟩
  case round=>
   obtain⟨rfl,rfl⟩:=hrel;go_wp2;go_ret;exact⟨rfl,rfl⟩
 .have o:=l w;clear w;go_enter func52,ntmps52;go_wp2_with fail;go_loopw [5] (λn wr=>∃a:Nat,n=F K a/\a<=c.length/\Hid (∀d,∀i:d<c.length,d<a->c[d].f.num≠k)/\wr=j) (λn _=>c.length - (intOf n).toNat)
  case atStart=>exact⟨0,rfl,by omega,λd i B=>absurd B (fK _),rfl⟩
  case round=>
   obtain⟨a,rfl,hi,e,rfl⟩:=hrel;by_cases s:a<c.length
   .have G:(a:Int)<(c.length:Int):=by omega
    have N:(0:Int)<=a:=by omega
    have I:wr.cell? ⟨A,a* 10,J⟩=E (F K c[a].f.num):=(b o).T a s 0 (by omega);have O:K.wrap ((a:Int)+1)=((a+1:Nat):Int):=by rw[bh _ (by omega) (by omega)];rfl
    by_cases v:c[a].f.num=k
    .have p:=l (Kz a s v (b e));clear o e;go_wp2;go_ret;exact⟨by rw[b p];rfl,rfl⟩
    .have z:=l (show ∀d,∀i:d<c.length,d<a+1->c[d].f.num≠k from λd i P=>by
      by_cases r:d=a
      .subst r;exact v
      .exact(b e) d i (by omega))
     clear o e;go_wp2;exact⟨⟨a+1,rfl,by omega,z,trivial⟩,by simp[intOf];omega⟩
   .have G:¬(a:Int)<(c.length:Int):=by omega
    have p:=l (KA (λd i=>(b e) d i (by omega)));clear o e;go_wp2;go_ret;exact⟨by rw[b p];rfl,rfl⟩
def lO(p:O)(a:List z):Nat->Int
 |0=>ew a
 |b+1=>qy p a b
theorem KC(p:O)(b:List z)(a:Nat):lO p b (a+1)=min (lO p b a) (p.cD a - fI (a:Int) b):=by
 cases a with
 |zero=>rfl
 |succ a=>rfl
theorem yT(gf o A y:Nat)(p:O)(c:List z)(d:Nat)(ap:d<4)(e:U)(N:bE e A y c)(X:c.length<=1000)(s:e.cell? ⟨gf,o+8,J⟩=E (C (E (u A 0 J)) c.length y))(au:0<=p.af/\p.af<=200/\0<=p.ag/\p.ag<=200/\0<=p.ai/\p.ai<=200/\0<=p.aj/\p.aj<=200)(T:∀j,j<4->e.cell? ⟨gf,o+4+j,J⟩=E (F K (p.cD j))):
  Calls h 61 #[g (E (u gf o J)),F K d] e λn w'=>n=q (F K (M.leftOf p c d))/\G No e w':=by
 have S:=l (wj gf o A y c e N X s)
 have H:=l λr (B:G No e r) (j:Int)=>Ky gf o A y c j r (N.mod B (λv=>v)) X (by
  unfold World.cell? at s ⊢
  rw[B.block gf (jk e _ s) (λv=>v)]
  exact s)
 have w:=l λr (B:G No e r) (j:Nat) (ab:j<4)=>(show r.cell? ⟨gf,o+4+j,J⟩=E (F K (p.cD j)) by
  have Q:=T j ab
  have ad:=jk e _ Q
  unfold World.cell? at Q ⊢
  rw[B.block gf ad (λv=>v)]
  exact Q)
 clear N s T;go_enter func61,ntmps61;go_wp2_with fail;refine(b S).mono ?_;rintro n af ⟨rfl,rfl⟩;clear S;go_wp2_with fail;go_loopw [5,6] (λae R wr=>∃a:Nat,ae=F K (lO p c a)/\R=F K a/\a<=d+1/\Hid (G No af wr)) (λ_ R _=>d+1 - (intOf R).toNat)
 case atStart=>exact⟨0,rfl,rfl,by omega,G.refl _ _⟩
 case round=>
  obtain⟨a,rfl,rfl,hi,i⟩:=hrel;by_cases ak:a<=d
  .have aa:(a:Int)<=(d:Int):=by omega
   have aj:(0:Int)<=a:=by omega
   have ao:(a:Int)<4:=by omega
   have ar:K.wrap ((a:Int)+1)=((a+1:Nat):Int):=by rw[bh _ (by omega) (by omega)];rfl
   have ah:=(b w) _ (b i) a (by omega);have W:=CH (a:Int) c;have Y:0<=p.cD a/\p.cD a<=200:=by
    have:a=0\/a=1\/a=2\/a=3:=by omega
    obtain rfl|rfl|rfl|rfl:=this<;>simp only[O.cD]<;>omega
   have av:K.wrap (p.cD a - (fI (a:Int) c:Nat))=p.cD a - (fI (a:Int) c:Nat):=bh _ (by omega) (by omega);have x:=l (KC p c a);by_cases am:p.cD a - (fI (a:Int) c:Nat)<lO p c a
   .have k:=l (show p.cD a - (fI (a:Int) c:Nat)=lO p c (a+1) by rw[b x];omega);clear x W Y;go_wp2_with fail;go_region_with (go_at_call 91;refine((b H) _ (b i).drew a).mono ?_;rintro n ag ⟨rfl,P⟩;have Z:=(b w) _ ((b i).drew.trans P) a (by omega))
    all_goals go_wp2
    all_goals exact⟨⟨a+1,by rw[b k],rfl,by omega,(b i).drew.trans (by assumption)⟩,by simp[intOf];omega⟩
   .have k:=l (show lO p c a=lO p c (a+1) by rw[b x];omega);clear x W Y;go_wp2_with fail;go_region_with (go_at_call 91;refine((b H) _ (b i).drew a).mono ?_;rintro n ag ⟨rfl,P⟩;have Z:=(b w) _ ((b i).drew.trans P) a (by omega))
    all_goals go_wp2
    all_goals exact⟨⟨a+1,by rw[b k],rfl,by omega,(b i).drew.trans (by assumption)⟩,by simp[intOf];omega⟩
  .have aa:¬(a:Int)<=(d:Int):=by omega
   have n:a=d+1:=by omega
   subst n;have k:=l (show M.leftOf p c d=max (lO p c (d+1)) 0 from rfl);clear H w;by_cases ai:lO p c (d+1)<0
   .have I:=l (show max (lO p c (d+1)) 0=0 by omega);go_wp2;go_ret;exact⟨by rw[b k,b I];rfl,b i⟩
   .have I:=l (show max (lO p c (d+1)) 0=lO p c (d+1) by omega);go_wp2;go_ret;exact⟨by rw[b k,b I];rfl,b i⟩
theorem uu(p:O)(a:U):Calls h 82 #[fX p] a λb w'=>b=q (L p.aY)/\G No a w':=by
 unfold fX O.aY;by_cases c:p.rows>=1
 .by_cases d:p.rows<=20
  .by_cases e:p.y>=1
   .by_cases i:p.y<=6
    .by_cases j:p.Z>=0
     .by_cases k:p.Z<=p.rows
      all_goals (go_enter func82,ntmps82;go_wp2;go_ret;exact⟨by simp;omega,(G.refl _ _).alloc _⟩)
     .go_enter func82,ntmps82;go_wp2;go_ret;exact⟨by simp;omega,(G.refl _ _).alloc _⟩
    .go_enter func82,ntmps82;go_wp2;go_ret;exact⟨by simp;omega,(G.refl _ _).alloc _⟩
   .go_enter func82,ntmps82;go_wp2;go_ret;exact⟨by simp;omega,(G.refl _ _).alloc _⟩
  .go_enter func82,ntmps82;go_wp2;go_ret;exact⟨by simp;omega,(G.refl _ _).alloc _⟩
 .go_enter func82,ntmps82;go_wp2;go_ret;exact⟨by simp;omega,(G.refl _ _).alloc _⟩
theorem yU(a:aK)(b:U):Calls h 111 #[t (aw a)] b λc w'=>c=q (F K (dg a))/\G No b w':=by
 unfold aw dg;by_cases d:a.bF<0
 .rw[D (.inl d)];go_enter func111,ntmps111;go_wp2;go_ret;exact⟨rfl,(G.refl _ _).alloc _⟩
 by_cases e:a.bF>=4
 .rw[D (.inr e)];go_enter func111,ntmps111;go_wp2;go_ret;exact⟨rfl,(G.refl _ _).alloc _⟩
 rw[f (by omega)];by_cases i:a.bJ<1
 .rw[D (.inl i)];go_enter func111,ntmps111;go_wp2;go_ret;exact⟨rfl,(G.refl _ _).alloc _⟩
 by_cases j:a.bJ>1000
 .rw[D (.inr j)];go_enter func111,ntmps111;go_wp2;go_ret;exact⟨rfl,(G.refl _ _).alloc _⟩
 rw[f (by omega)];go_enter func111,ntmps111;go_wp2;go_ret;exact⟨rfl,(G.refl _ _).alloc _⟩
theorem yV(d:z)(b:Int)(l:U):Calls h 87 #[t (eB d),F K b] l λn w'=>n=q (F K (dK d.st d.pa b))/\G No l w':=by
 obtain⟨row,p,e,c,o,r⟩:=d;unfold eB dK;simp only;by_cases j:e=1
 .subst j;rw[f (by omega)];by_cases a:c=b
  .rw[f (by simp[a])];have i:(c !=b)=false:=by simp[a]
   go_enter func87,ntmps87;go_wp2;go_ret;exact⟨rfl,(G.refl _ _).alloc _⟩
  .rw[D a];have i:(c !=b)=true:=by simp[a]
   go_enter func87,ntmps87;go_wp2;go_ret;exact⟨rfl,(G.refl _ _).alloc _⟩
 by_cases k:e=2
 .subst k;rw[f (by omega)];by_cases a:c=b
  .rw[f (by simp[a])];have i:(c !=b)=false:=by simp[a]
   go_enter func87,ntmps87;go_wp2;go_ret;exact⟨rfl,(G.refl _ _).alloc _⟩
  .rw[D a];have i:(c !=b)=true:=by simp[a]
   go_enter func87,ntmps87;go_wp2;go_ret;exact⟨rfl,(G.refl _ _).alloc _⟩
 .rw[D (by omega)];have d1:(e !=1)=true:=by simp[j]
  have d2:(e !=2)=true:=by simp[k]
  go_enter func87,ntmps87;go_wp2;go_ret;exact⟨rfl,(G.refl _ _).alloc _⟩
theorem yW(p:O)(i:U):Calls h 83 #[fX p] i λv w'=>v=q (L p.bI)/\G No i w':=by
 have r:=l (X.new i #[F K p.rows,F K p.y,F K p.Z,F K p.af,F K p.ag,F K p.ai,F K p.aj] 39);have s:=l ((G.refl No i).alloc (m #[F K p.rows,F K p.y,F K p.Z,F K p.af,F K p.ag,F K p.ai,F K p.aj] 39));unfold fX O.bI;go_enter func83,ntmps83;go_wp2_with fail
 go_loopw [3] (λo wr=>((o=F K 0/\Hid (True))\/(o=F K 1/\Hid (0<=p.af/\p.af<=200))\/(o=F K 2/\Hid (0<=p.af/\p.af<=200/\0<=p.ag/\p.ag<=p.af))\/(o=F K 3/\Hid (0<=p.af/\p.af<=200/\0<=p.ag/\p.ag<=p.af/\0<=p.ai/\p.ai<=p.ag))\/(o=F K 4/\Hid (0<=p.af/\p.af<=200/\0<=p.ag/\p.ag<=p.af/\0<=p.ai/\p.ai<=p.ag/\0<=p.aj/\p.aj<=p.ai)))/\Hid (G No i wr)/\Hid (X wr i.heap.size #[F K p.rows,F K p.y,F K p.Z,F K p.af,F K p.ag,F K p.ai,F K p.aj] 39)) (λo _=>4 - (intOf o).toNat)
 case atStart=>exact⟨.inl ⟨rfl,trivial⟩,s,r⟩
 case round=>
  obtain⟨w,c,j⟩:=hrel;clear s r;have x:wr.cell? (u i.heap.size 3 J)=E (F K p.af):=(b j).T 3;have y:wr.cell? (u i.heap.size 4 J)=E (F K p.ag):=(b j).T 4;have z:wr.cell? (u i.heap.size 5 J)=E (F K p.ai):=(b j).T 5;have A:wr.cell? (u i.heap.size 6 J)=E (F K p.aj):=(b j).T 6;obtain⟨rfl,a⟩|⟨rfl,a⟩|⟨rfl,a⟩|⟨rfl,a⟩|⟨rfl,a⟩:=w
  .by_cases d:p.af<0
   .have d1:decide (p.af<0)=true:=by simpa using d
    go_wp2_with fail;go_quiet (fail);go_wp2;go_ret;exact⟨by have:=b a;simp;omega,(b c).drewN _⟩
   have d1:decide (p.af<0)=false:=by simpa using d
   by_cases e:p.af>200
   .have d2:decide (p.af>200)=true:=by simpa using e
    go_wp2_with fail;go_quiet (fail);go_wp2;go_ret;exact⟨by have:=b a;simp;omega,(b c).drewN _⟩
   have d2:decide (p.af>200)=false:=by simpa using e
   have n:=l (show 0<=p.af/\p.af<=200 by omega);clear a;go_wp2_with fail;go_quiet (fail);go_wp2;exact⟨⟨.inr (.inl ⟨rfl,n⟩),(b c).drewN _,(b j).drewN _⟩,by simp[intOf]⟩
  .by_cases d:p.ag<0
   .have d1:decide (p.ag<0)=true:=by simpa using d
    go_wp2_with fail;go_quiet (fail);go_wp2;go_ret;exact⟨by have:=b a;simp;omega,(b c).drewN _⟩
   have d1:decide (p.ag<0)=false:=by simpa using d
   by_cases e:p.ag>200
   .have d2:decide (p.ag>200)=true:=by simpa using e
    go_wp2_with fail;go_quiet (fail);go_wp2;go_ret;exact⟨by have:=b a;simp;omega,(b c).drewN _⟩
   have d2:decide (p.ag>200)=false:=by simpa using e
   by_cases k:p.ag>p.af
   .have d3:decide (p.ag>p.af)=true:=by simpa using k
    go_wp2_with fail;go_quiet (fail);go_wp2;go_ret;exact⟨by have:=b a;simp;omega,(b c).drewN _⟩
   have d3:decide (p.ag>p.af)=false:=by simpa using k
   have n:=l (show 0<=p.af/\p.af<=200/\0<=p.ag/\p.ag<=p.af by have:=b a;omega);clear a;go_wp2_with fail;go_quiet (fail);go_wp2;exact⟨⟨.inr (.inr (.inl ⟨rfl,n⟩)),(b c).drewN _,(b j).drewN _⟩,by simp[intOf]⟩
  .by_cases d:p.ai<0
   .have d1:decide (p.ai<0)=true:=by simpa using d
    go_wp2_with fail;go_quiet (fail);go_wp2;go_ret;exact⟨by have:=b a;simp;omega,(b c).drewN _⟩
   have d1:decide (p.ai<0)=false:=by simpa using d
   by_cases e:p.ai>200
   .have d2:decide (p.ai>200)=true:=by simpa using e
    go_wp2_with fail;go_quiet (fail);go_wp2;go_ret;exact⟨by have:=b a;simp;omega,(b c).drewN _⟩
   have d2:decide (p.ai>200)=false:=by simpa using e
   by_cases k:p.ai>p.ag
   .have d3:decide (p.ai>p.ag)=true:=by simpa using k
    go_wp2_with fail;go_quiet (fail);go_wp2;go_ret;exact⟨by have:=b a;simp;omega,(b c).drewN _⟩
   have d3:decide (p.ai>p.ag)=false:=by simpa using k
   have n:=l (show 0<=p.af/\p.af<=200/\0<=p.ag/\p.ag<=p.af/\0<=p.ai/\p.ai<=p.ag by have:=b a;omega);clear a;go_wp2_with fail;go_quiet (fail);go_wp2;exact⟨⟨.inr (.inr (.inr (.inl ⟨rfl,n⟩))),(b c).drewN _,(b j).drewN _⟩,by simp[intOf]⟩
  .by_cases d:p.aj<0
   .have d1:decide (p.aj<0)=true:=by simpa using d
    go_wp2_with fail;go_quiet (fail);go_wp2;go_ret;exact⟨by have:=b a;simp;omega,(b c).drewN _⟩
   have d1:decide (p.aj<0)=false:=by simpa using d
   by_cases e:p.aj>200
   .have d2:decide (p.aj>200)=true:=by simpa using e
    go_wp2_with fail;go_quiet (fail);go_wp2;go_ret;exact⟨by have:=b a;simp;omega,(b c).drewN _⟩
   have d2:decide (p.aj>200)=false:=by simpa using e
   by_cases k:p.aj>p.ai
   .have d3:decide (p.aj>p.ai)=true:=by simpa using k
    go_wp2_with fail;go_quiet (fail);go_wp2;go_ret;exact⟨by have:=b a;simp;omega,(b c).drewN _⟩
   have d3:decide (p.aj>p.ai)=false:=by simpa using k
   have n:=l (show 0<=p.af/\p.af<=200/\0<=p.ag/\p.ag<=p.af/\0<=p.ai/\p.ai<=p.ag/\0<=p.aj/\p.aj<=p.ai by have:=b a;omega);clear a;go_wp2_with fail;go_quiet (fail);go_wp2;exact⟨⟨.inr (.inr (.inr (.inr ⟨rfl,n⟩))),(b c).drewN _,(b j).drewN _⟩,by simp[intOf]⟩
  .go_wp2;go_ret;exact⟨by have:=b a;simp;omega,b c⟩
structure pR (p:O) (w wr:U) (v:V) (m:Nat):Prop where
 mod:G No w wr
 box:X wr w.heap.size #[F K p.rows,F K p.y,F K p.Z,F K p.af,F K p.ag,F K p.ai,F K p.aj] 39
 row:wr.ownsRow 0 63 6 v m (((aI p).take m).flatMap cq)
 new:∀k,v.ownBlock=E k->w.heap.size<k
theorem KD(p:O)(R C:Nat)(i:p.rows=(R:Int))(d:p.y=(C:Int))(a b:Nat)(n:1<=a/\a<=R)(j:1<=b/\b<=C):((aI p).take ((a - 1)* C+(b - 1)+1)).flatMap cq=((aI p).take ((a - 1)* C+(b - 1))).flatMap cq++[F K a,F K b,F K 0,F K 0,F K 0,F K 0]:=by
 have k:(aI p).length=R* C:=by
  unfold aI;rw[ui,yG,i,d];exact sK (R* C)
 have l:(a - 1)* C+(b - 1)<R* C:=by
  have:(a - 1)* C<=(R - 1)* C:=pC _ (by omega);have c:R* C=(R - 1)* C+C:=by
   obtain⟨e,rfl⟩:∃e,R=e+1:=⟨R - 1,by omega⟩;rw[sL,lE,sf]
  omega
 rw[mD,du (by omega)];simp only[qS,jW,jE,uw,dG];congr 1;have c:(aI p)[(a - 1)* C+(b - 1)]'(by omega)=⟨a,b,0,0,0,0⟩:=by
  unfold aI;rw[sF,CK,d];have d1:(((a - 1)* C+(b - 1):Nat):Int) / (C:Int)=((a - 1:Nat):Int):=by
   rw[<-Int.natCast_ediv,CL,Nat.mul_add_div (by omega),Nat.div_eq_of_lt (by omega),tP]
  have d2:(((a - 1)* C+(b - 1):Nat):Int) % (C:Int)=((b - 1:Nat):Int):=by
   rw[<-Int.natCast_emod,CL,Nat.mul_add_mod,Nat.mod_eq_of_lt (by omega)]
  rw[d1,d2];congr 1<;>omega
 rw[c];rfl
theorem pR.step{p:O}{n wr w3:U}{l v':V}{R C e b d:Nat}(v:p.rows=(R:Int))(s:p.y=(C:Int))(z:1<=e/\e<=R)(w:1<=b/\b<=C)(o:d=(e - 1)* C+(b - 1))(c:pR p n wr l d)(k:Obj)(y:w3.ownsRow 0 63 6 v' (d+1) ((((aI p).take d).flatMap cq)++[F K e,F K b,F K 0,F K 0,F K 0,F K 0]))(x:(wr.alloc k).grownBy w3 l.ownBlock)(A:fm (wr.alloc k) l v'):
  pR p n w3 v' (d+1):=by
 have r:G (λa=>n.heap.size<a) wr w3:=((G.refl _ wr).alloc k).grown x (λa j=>.inl (c.new a j));refine⟨c.mod.trans' r (λH hi B=>by omega),r.e c.box (by omega),?_,λa j=>?_⟩
 .rw[o,KD p R C v s e b z w,<-o];exact y
 .obtain i|i:=A a j
  .exact c.new a i
  .have:=c.box.lt;simp at i;omega
theorem yX(p:O)(ab:p.aY=true)(j:U):Calls h 84 #[fX p] j λaw w'=>∃i n,aw=q (C (E (u i 0 J)) (aI p).length n)/\bE w' i n (aI p)/\j.heap.size<i/\G No j w':=by
 have ae:=ab;simp only[O.aY,eA] at ae;obtain⟨e,M⟩:∃e:Nat,p.rows=(e:Int):=⟨p.rows.toNat,by omega⟩;obtain⟨c,H⟩:∃c:Nat,p.y=(c:Int):=⟨p.y.toNat,by omega⟩;have aZ:1<=e/\e<=20:=by omega
 have aY:1<=c/\c<=6:=by omega
 have w:(aI p).length=e* c:=by
  unfold aI;rw[ui,yG,M,H];exact sK (e* c)
 have x:pR p j (j.alloc (m #[F K p.rows,F K p.y,F K p.Z,F K p.af,F K p.ag,F K p.ai,F K p.aj] 39)) (C J 0 0) 0:=
  ⟨(G.refl No j).alloc _,X.new j _ _,by simpa using dx _ _ _ _,λa7 aD=>by simp[aV] at aD⟩
 have x:=l x;have aj:=l w
 have Y:=l λ(wr:U) (ah:V) (I:pR p j wr ah (e* c))=>(show ∃i n,ah=C (E (u i 0 J)) (aI p).length n/\bE wr i n (aI p)/\j.heap.size<i/\G No j wr from by
  have Q:=I.row
  rw[wk (by rw[w];exact cz _),<-w] at Q
  have a3:0<(aI p).length:=by rw[w];exact Nat.mul_pos (by omega) (by omega)
  have aG:=Q
  obtain⟨_,ad|⟨i,n,aX,R,_⟩⟩:=aG
  .omega
  .subst R
   exact⟨i,n,rfl,(yt Q).2,I.new i rfl,I.mod⟩)
 have B:=l M;have z:=l H;clear w ab ae M H;obtain⟨aN,aO,aP,aQ,aS⟩:=fq tV;unfold fX;go_enter func84,ntmps84;go_wp2_with fail;go_loopw [3,4] (λS T wr=>∃(a:Nat) (o:Option Addr) (r:Nat),T=F K a/\1<=a/\a<=e+1/\S=C o ((a - 1)* c) r/\Hid (pR p j wr (C o ((a - 1)* c) r) ((a - 1)* c))) (λ_ T _=>e+1 - (intOf T).toNat)
 case atStart=>exact⟨1,J,0,rfl,by omega,by omega,by simp,by simpa using x⟩
 case round=>
  obtain⟨a,o,r,rfl,aH,a4,rfl,s⟩:=hrel;clear x;have aA:=(b s).box.T;by_cases ad:a<=e
  .have ax:(a:Int)<=p.rows:=by rw[b B];omega
   have a5:K.wrap ((a:Int)+1)=((a+1:Nat):Int):=by rw[bh _ (by omega) (by omega)];rfl
   go_wp2_with fail;go_loopw [3,5] (λS W aU=>∃(d:Nat) (o:Option Addr) (r:Nat),W=F K d/\1<=d/\d<=c+1/\S=C o ((a - 1)* c+(d - 1)) r/\Hid (pR p j aU (C o ((a - 1)* c+(d - 1)) r) ((a - 1)* c+(d - 1)))) (λ_ W _=>c+1 - (intOf W).toNat)
   case atStart=>exact⟨1,o,r,rfl,by omega,by omega,by simp,by simpa using s⟩
   case round=>
    obtain⟨d,Z,aa,rfl,aB,a1,rfl,v⟩:=hrel;clear s aA;have a0:=(b v).box.T;by_cases ay:d<=c
    .have az:(d:Int)<=p.y:=by rw[b z];omega
     have a2:K.wrap ((d:Int)+1)=((d+1:Nat):Int):=by rw[bh _ (by omega) (by omega)];rfl
     have aF:(a - 1)* c+(d - 1)<=120:=by
      have:(a - 1)* c<=19* 6:=Nat.mul_le_mul (by omega) (by omega);omega
     have k:(a - 1)* c+(d+1 - 1)=(a - 1)* c+(d - 1)+1:=by omega
     have aJ:1<=a/\a<=e:=⟨aH,ad⟩;have N:1<=d/\d<=c:=⟨aB,ay⟩;have aE:∃y,y=(a - 1)* c+(d - 1):=⟨_,rfl⟩;obtain⟨y,P⟩:=aE;rw[<-P] at v aF k ⊢;have ao:=l (((G.refl No wr).alloc (m #[F K a,F K d,F K 0,F K 0,F K 0,F K 0] 63)).owns (b v).row (λ_ _ aW=>aW))
     have ap:=l (show Reads (wr.alloc (m #[F K a,F K d,F K 0,F K 0,F K 0,F K 0] 63)) (C (E (u wr.heap.size 0 J)) 1 1) 1 [F K a,F K d,F K 0,F K 0,F K 0,F K 0] from
      .inr ⟨(u wr.heap.size 0 J),1,rfl,λa6 aT hu=>by
       rw[dE,bK,(X.new wr #[F K a,F K d,F K 0,F K 0,F K 0,F K 0] 63).T,<-dy]
       exact hu⟩)
     have ar:=l λ(w3:U) (ai:V)=>pR.step (w3:=w3) (v':=ai) (b B) (b z) aJ N P (b v) (m #[F K a,F K d,F K 0,F K 0,F K 0,F K 0] 63);have A:=l k;clear k P
     go_wp2_with (first|(at_builtin;refine fJ rfl (.tmp 18) (.tmp 23) 61 rfl 63 aN _ 6 48 qT aO aP aQ aS rfl (by decide) (C Z y aa) y _ (by simp[aM]) (by exact b ao) (C (E (u wr.heap.size 0 J)) 1 1) 1 [F K a,F K d,F K 0,F K 0,F K 0,F K 0] (by simp[aM]) (by exact b ap) rfl (by intro aT hu;simp at hu;obtain rfl|rfl|rfl:=hu<;>rfl) (by unfold maxLen;omega) (by omega) ?_;intro ai w3 af aC aL;obtain⟨au,av,rfl⟩:=aR af))
     exact⟨⟨d+1,au,av,rfl,by omega,by omega,by rw[b A],by rw[b A];exact(b ar) _ _ af aC aL⟩,by simp[intOf];omega⟩
    .have az:¬(d:Int)<=p.y:=by rw[b z];omega
     have N:d=c+1:=by omega
     subst N;have k:(a - 1)* c+(c+1 - 1)=(a+1 - 1)* c:=by
      obtain⟨ag,rfl⟩:∃ag,a=ag+1:=⟨a - 1,by omega⟩;rw[sL,sL,sL,lE,sf]
     rw[k] at v ⊢;have A:=l k;clear k;go_wp2;exact⟨⟨a+1,Z,aa,rfl,by omega,by omega,rfl,v⟩,by simp[intOf];omega⟩
  .have ax:¬(a:Int)<=p.rows:=by rw[b B];omega
   have aK:a=e+1:=by omega
   subst aK;have k:(e+1 - 1)* c=e* c:=by rw[sL]
   rw[k] at s ⊢;obtain⟨i,n,R,f1,f2,f3⟩:=(b Y) _ _ (b s);have ak:=l f1;have am:=l f3;clear s k f1 f3 Y aj;go_wp2;go_ret;exact⟨i,n,by rw[<-R];rfl,b ak,f2,b am⟩
end Go.Proofs.YthhibagcpjeihaaGreat
