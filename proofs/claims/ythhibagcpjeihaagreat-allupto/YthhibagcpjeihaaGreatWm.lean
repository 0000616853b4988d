import Derived.Test.YthhibagcpjeihaaGreatWj
import Derived.Test.YthhibagcpjeihaaGreatWl
import Derived.Test.YthhibagcpjeihaaGreatWk
import Derived.Deep.RegionHeld2
open Go.Proofs.Tryz
open Go.Addr renaming mk->u
open Go.Value renaming int->F,pointer->g,slice->C,bool->L,agg->t,tuple->aq
open Go.IntKind renaming i64->K
open Option renaming none->J,some->E
open Go renaming World->U,Value->V
open Go.Proofs.Tryz renaming prog->h
open Go.Ending renaming returned->q
open Go.Obj renaming cells->m
open Go.Act renaming eval->aM,put->bN
set_option linter.unusedVariables false
set_option linter.unusedSimpArgs false
set_option maxRecDepth 100000
set_option maxHeartbeats 8000000
namespace Go.Proofs.YthhibagcpjeihaaGreat
open Go.RowKit
open M
variable {S o j:U} {N:Nat->Nat} {w Q P p:Nat} {n:V} {W:List aB} {k I:Int} {v:Nat->Option (O×List z)} {B:Nat->Prop} {R:bU} {i:List z}
theorem Q8(c:bB S N w n W k)(i:W=[]->n=C J 0 0):Calls h 26 #[g (E (u w 0 J))] S λa w'=>a=q (g (E (u S.heap.size 0 J)))/\∃v' ys b,rr S w' S.heap.size W k W.length v' ys b/\(ys=[]->v'=C J 0 0):=by
 by_cases e:W=[]
 .subst e;obtain rfl:=i rfl;refine(FD c.e).mono ?_;rintro a w' ⟨rfl,rfl⟩;exact⟨rfl,_,_,_,xj S k [],λ_=>rfl⟩
 .refine(PR c).mono ?_;rintro a w' ⟨v',ys,b,rfl,d⟩;exact⟨rfl,v',ys,b,d,λa=>by have:=d.len;rw[a] at this;exact absurd (iC this.symm) e⟩
theorem Gq:∀(c ys:List aB),ys.map (·.f)=c.map (·.f)->∀b,fh ys b=fh c b
 |[],[],_,_=>rfl
 |[],e::ys,a,_=>by simp at a
 |x::c,[],a,_=>by simp at a
 |x::c,e::ys,a,b=>by
  simp only[oC,List.cons.injEq] at a;have d:=Gq c ys a.2 b;unfold fh at d ⊢;simp only[mi,a.1]
  cases (x.f.num==(b:Int))
  .exact d
  .simp[a.1]
theorem dC.congr{ys:List aB}(a:dC W v)(p:ys.length=W.length)(b:∀j (a:j<ys.length) (x:j<W.length),ys[j].f=W[j].f):dC ys v:=by
 have r:ys.map (·.f)=W.map (·.f):=by
  apply yL
  .simpa using p
  .intro j e i;simp only[sF];exact b j (by simpa using e) (by simpa using i)
 refine⟨?_,λy hy=>?_,λw s=>?_⟩
 .rw[mh];intro c d k n l;rw[b c k (by omega),b d n (by omega)];exact(mh.1 a.sort) c d (by omega) (by omega) l
 .obtain⟨j,o,rfl⟩:=kB hy;rw[b j o (by omega)];exact a.iw _ (eK (by omega))
 .rw[Gq W ys r];exact a.eq w s
def lr(b:Nat->V)(a:Nat->Bool):Array V:=#[b 0,b 1,b 2,b 3,b 4,b 5,b 6,b 7,L (a 0),L (a 1),L (a 2),L (a 3),L (a 4),L (a 5),L (a 6),L (a 7)]
structure oc (w:U) (ow:Nat->Nat) (tob:Nat) (vs:Nat->V) (ns:Nat->List aN) (bs:Nat->Bool):Prop where
 e:X w tob (lr vs bs) 76
 rows:∀i,i<8->w.ownsRow 0 68 3 (vs i) (ns i).length ((ns i).flatMap dj)
 own:∀i,i<8->∀k,(vs i).ownBlock=E k->ow k=i+2
 bw:ow tob=1
theorem oc.mod{w w':U}{k:Nat->V}{j:Nat->List aN}{c:Nat->Bool}{S:Nat->Prop}(a:oc w N Q k j c)(d:G S w w')(e:∀b,N b≠0->¬S b):oc w' N Q k j c:=
 ⟨d.e a.e (e _ (by rw[a.bw];omega)),λi hi=>d.owns (a.rows i hi) (λb l=>e b (by rw[a.own i hi b l];omega)),a.own,a.bw⟩
structure u' where
 wb:Nat
 ow:Nat->Nat
 v:V
 xs:List aB
 now:Int
 fl:Nat->Option (O×List z)
structure kO (w:U) (I:u'):Prop where
 bM:bB w I.ow I.wb I.v I.xs I.now
 same:dC I.xs I.fl
 tidy:I.xs=[]->I.v=C J 0 0
theorem kO.mod{w w':U}{I:u'}{S:Nat->Prop}(a:kO w I)(c:G S w w')(d:∀b,I.ow b≠0->¬S b):kO w' I:=⟨a.bM.mod c d,a.same,a.tidy⟩
structure aG where
 kb:Option Nat
 W:u'
 mb:Option u'
 tob:Nat
 okp:Nat->Nat
 owt:Nat->Nat
 om:Nat->Nat
 now:Int
 fl:Nat->Option (O×List z)
 K:bU
 most:Int
 ch:Int
 sh:Bool
 n0:Int
 n1:Int
 n2:Int
 tl:Nat->Option (List aX)
 vs:Nat->V
 ns:Nat->List aN
 bs:Nat->Bool
def gL(x:Option Nat):V:=.pointer (x.map λa=>(u a 0 J))
def dO(I:aG):Array V:=#[g (E (u I.K.tb 0 J)),gL I.kb,g (E (u I.W.wb 0 J)),gL (I.mb.map (·.wb)),g (E (u I.tob 0 J)),F K I.most,F K I.ch,L I.sh,F K I.n0,F K I.n1,F K I.n2]
structure rC (w:U) (ow om:Nat->Nat) (kb:Option Nat) (now:Int) (fl:Nat->Option (O×List z)) (K:bU) (tl:Nat->Option (List aX)):Prop where
 some:∀b,kb=E b->(∃dS,dH w ow b now dS fl K)/\kM w ow om b tl
 none:kb=J->aS w (λk=>ow k=30) K.tb K.T/\∀k,ow k≠0->k<w.heap.size
theorem rC.mod{w w':U}{r:Nat->Nat}{y:Option Nat}{B:Nat->Option (List aX)}{S:Nat->Prop}(x:rC w N r y k v R B)(c:G S w w')(l:∀a,N a≠0->¬S a)(aa:∀a,r a≠0->¬S a):rC w' N r y k v R B:=by
 refine⟨λd W=>?_,λZ=>?_⟩
 .obtain⟨⟨ab,j⟩,b⟩:=x.some d W;refine⟨⟨ab,j.mod c l⟩,?_⟩;have X:¬S d:=l d (by rw[j.keep.bw];omega);have e:∀p s,w.cell? (u d p J)=E s->w'.cell? (u d p J)=E s:=λp s e=>by
   have Y:=jk w _ e;rw[oB (w:=w) (c.block _ Y X)];exact e
  exact⟨λo hi n=>e _ _ (b.un o hi n),λo hi T n=>by
   obtain⟨A,Q,H,I,M,P⟩:=b.is o hi T n
   exact⟨A,Q,e _ _ H,I,jJ c M (aa A (by omega)),P⟩,λa i=>⟨bj (b.bg a i).1 c.size,(b.bg a i).2⟩⟩
 .obtain⟨j,b⟩:=x.none Z;exact⟨j.mod c (λa i=>l a (by omega)),λa i=>bj (b a i) c.size⟩
structure aO (w:U) (O:Nat->Prop) (ob:Nat) (I:aG):Prop where
 e:X w ob (dO I) 55
 keep:rC w I.okp I.om I.kb I.now I.fl I.K I.tl
 bM:kO w I.W
 may:∀M,I.mb=E M->kO w M
 told:oc w I.owt I.tob I.vs I.ns I.bs
 ex:∃bF:Nat->Nat,bF ob=1/\(∀k,I.okp k≠0->bF k=2)/\(∀k,I.W.ow k≠0->bF k=3)/\(∀k,I.owt k≠0->bF k=4)/\(∀k,I.om k≠0->bF k=5)/\(∀M,I.mb=E M->∀k,M.ow k≠0->bF k=6)/\∀k,bF k≠0->O k
 lt:∀k,O k->k<w.heap.size
def grow(b:Nat->Prop)(c w':U):Nat->Prop:=λa=>b a\/(c.heap.size<=a/\a<w'.heap.size)
theorem aO.mod{w w':U}{S:Nat->Prop}{I:aG}(c:aO w B Q I)(e:G S w w')(x:∀a,B a->¬S a):aO w' B Q I:=by
 obtain⟨s,j,k,l,n,o,p,r⟩:=c.ex;have d:∀a i,s a=i->i≠0->¬S a:=λa i y z=>x a (r a (by omega))
 exact⟨e.e c.e (d _ _ j (by omega)),c.keep.mod e (λa b=>d _ _ (k a b) (by omega)) (λa b=>d _ _ (o a b) (by omega)),c.bM.mod e (λa b=>d _ _ (l a b) (by omega)),
  λM v=>(c.may M v).mod e (λa b=>d _ _ (p M v a b) (by omega)),c.told.mod e (λa b=>d _ _ (n a b) (by omega)),⟨s,j,k,l,n,o,p,r⟩,λa b=>bj (c.lt a b) e.size⟩
structure jL (w w':U) (O:Nat->Prop) (ob:Nat) (R:aG->Prop):Prop where
 ex:∃I',aO w' (grow O w w') ob I'/\R I'
 mod:G O w w'
structure Q9 (w w':U) (ob:Nat) (I:aG) (wt:Int):Prop where
 ex:X w' ob (dO { I with most:=max I.most wt }) 55
 mod:G (λk=>k=ob) w w'
theorem Gr{I:aG}(e:X S w (dO I) 55)(i:kO S I.W)(a:Int)(r:cO I.W.xs=a):Calls h 29 #[g (E (u w 0 J))] S λp w'=>p=q (aq #[])/\Q9 S w' w I a:=by
 have c:=Ef i.bM i.tidy;rw[r] at c;have c:=l c;have v:S.cell? (u w 2 J)=E (g (E (u I.W.wb 0 J))):=e.T 2;have G:=e.lt;have s:=l e;clear e i r;go_enter func29,ntmps29;go_wp2_with fail;refine(b c).mono ?_;rintro p y ⟨rfl,j⟩;have d:=j.e (b s) (λk=>k);have z:y.cell? (u w 5 J)=E (F K I.most):=d.T 5;have f1:=d.aC;have B:=d.lt;have o:=l (j.mono (S':=λx=>x=w) (λ_ _ k=>k.elim));have n:=l d;clear j d c v
 by_cases A:a>I.most
 .go_wp2;go_end0;refine⟨rfl,?_,(b o).at 5 _⟩;rw[show max I.most a=a by omega];exact(b n).set 5 (F K a)
 .go_wp2;go_end0;refine⟨rfl,?_,b o⟩;rw[show max I.most a=I.most by omega];exact b n
theorem Ra{a:Option Addr}{aa:O}{num:Int}{e:List z}(am:∀s∈e,s.wf/\s.st≠0)(dJ:e.length<=120)(ai:Exit->Act->U->Prop)(aj:Hid (km S o w Q P aa num k i e (C a e.length p) 0))(ao ap aD aP a1 bc bP bV ar cA cB ax ay az aA aB aC aE aF aG aH aI aJ aK aL aN aO aQ aR aS aT aU aW aX aY aZ a0 a2 a3 a4 a5 a6 a7 a8 a9 ba bb bd bf bg bi bk bl bm bn bo bp bq br bs bt bu bv bw bx bz bA bB bC bE bF bH bI bJ bL bM bO bQ bR bS bT bU cD cE cF cG cH cI cJ cK cL cM cO cP cR cS cT cf cg ch ci cj ck cl cm cn co cp cq cr cs ct cu cv cw cx cy au av aw:V)
  (dF:∀(c4 df dg dh di dj dk dl dm bY bZ b0 b1 b2 b3 b4 b5 b6 cU cV cW cX cY cZ c0 c1 c2 c3 c5 c6 c7 c8 c9 c' db dc dd de:V) (bX:U),Hid (km S bX w Q P aa num k i e (C a e.length p) e.length)->ai (.exit 2) ⟨#[ao,ap,aD,aP,a1,bc,g (E (u w 0 J)),C a e.length p,bP,bV,ar,c4,df,dg,ax,ay,az,aA,aB,aC,aE,aF,aG,aH,aI,aJ,aK,aL,aN,aO,aQ,aR,aS,aT,aU,aW,aX,aY,aZ,a0,a2,a3,a4,a5,a6,a7,a8,a9,ba,bb,bd,bf,bg,bi,bk,bl,bm,bn,bo,bp,bq,br,bs,bt,bu,bv,bw,bx,bz,bA,bB,bC,bE,bF,bH,bI,bJ,bL,bM,bO,bQ,bR,bS,bT,bU,dh,di,dj,dk,dl,dm,bY,bZ,b0,b1,b2,b3,b4,b5,b6,cU,cV,cW,cX,cY,cZ,c0,c1,c2,c3,c5,c6,c7,c8,c9,c',db,dc,dd,de,au,av,aw],[]⟩ bX):
  Code.wp h (swapLoop 1) ai ⟨#[ao,ap,aD,aP,a1,bc,g (E (u w 0 J)),C a e.length p,bP,bV,ar,F K 0,cA,cB,ax,ay,az,aA,aB,aC,aE,aF,aG,aH,aI,aJ,aK,aL,aN,aO,aQ,aR,aS,aT,aU,aW,aX,aY,aZ,a0,a2,a3,a4,a5,a6,a7,a8,a9,ba,bb,bd,bf,bg,bi,bk,bl,bm,bn,bo,bp,bq,br,bs,bt,bu,bv,bw,bx,bz,bA,bB,bC,bE,bF,bH,bI,bJ,bL,bM,bO,bQ,bR,bS,bT,bU,cD,cE,cF,cG,cH,cI,cJ,cK,cL,cM,cO,cP,cR,cS,cT,cf,cg,ch,ci,cj,ck,cl,cm,cn,co,cp,cq,cr,cs,ct,cu,cv,cw,cx,cy,au,av,aw],[]⟩ o:=by
 conv=>arg 4;dsimp only
 conv=>arg 2;whnf
 have b7:=l am;clear am;go_loopw [11] (λae wr=>∃c:Nat,ae=F K c/\c<=e.length/\Hid (km S wr w Q P aa num k i e (C a e.length p) c)) (λae _=>e.length - (intOf ae).toNat)
 case atStart=>exact⟨0,rfl,by omega,aj⟩
 case round=>
  obtain⟨c,rfl,dM,v⟩:=hrel;clear aj;by_cases y:c<e.length
  .have cc:(c:Int)<(e.length:Int):=by omega
   have dN:(0:Int)<=c:=by omega
   have dO:K.wrap ((c:Int)+1)=((c+1:Nat):Int):=by rw[bh _ (by omega) (by omega)];rfl
   obtain⟨A,rfl,Y⟩:=Ak (b v).home (by omega);have ak:=(b v).own A rfl;have Y:=l Y;have ah:=l ak;clear ak;go_upto_block 4 with fail;refine od ?_
   refine Qn y _ v _ _ _ _ _ _ _ _ _ _ _ _ _ _ _ _ _ _ _ _ _ _ _ _ _ _ _ _ _ _ _ _ _ _ _ _ _ _ _ _ _ _ _ _ _ _ _ _ _ _ _ _ _ _ _ _ _ _ _ _ _ _ _ _ _ _ _ _ _ _ _ _ _ _ _ _ _ _ _ _ _ _ _ _ _ _ _ _ _ _ _ _ _ _ _ _ _ _ _ _ _ _ _ _ _ _ _ _ _ _ _ _ _ _ _ _ _ _ _ _ _ ?_;intro bY bZ b0 b1 b2 b3 b4 b5 b6;have x:=(b v).free y;obtain⟨n,ad⟩:∃n,dL (dn i e c)=n:=⟨_,rfl⟩;rw[ad] at x ⊢
   obtain⟨R,ab⟩:∃R,(dn i e c).length=R:=⟨_,rfl⟩;have dD:R<=120:=by rw[<-ab];exact ju (b v).kY.wf
   have dI:(n:Int)<(R:Int):=by omega
   have dH:(0:Int)<=n:=by omega
   obtain⟨j,H⟩:∃j,(dn i e c)[n]=j:=⟨_,rfl⟩;obtain⟨s,B⟩:∃s,e[c]=s:=⟨_,rfl⟩;have ag:=l λd (I:G No wr d)=>((b v).still I).next (b b7) y s B n ad x j H
   have Z:=l λd (I:G No wr d)=>(show d.cell? (u w 8 J)=E (C (E (u Q 0 J)) R P) from by rw[<-ab];exact((b v).kY.still I).e.T 8)
   have W:=l λd (I:G No wr d)=>(show d.cell? ⟨Q,n* 6,J⟩=E (F K j.row)/\d.cell? ⟨Q,n* 6+1,J⟩=E (F K j.ae)/\d.cell? ⟨Q,n* 6+2,J⟩=E (F K j.st)/\d.cell? ⟨Q,n* 6+3,J⟩=E (F K j.pa)/\d.cell? ⟨Q,n* 6+4,J⟩=E (F K j.cl)/\d.cell? ⟨Q,n* 6+5,J⟩=E (F K j.un)/\(∀cd,d.frozen? (u Q cd J)=false)/\Q<d.heap.size from by
    have r:=((b v).kY.still I).row
    exact⟨by rw[<-H];exact r.row n x,by rw[<-H];exact r.ae n x,by rw[<-H];exact r.st n x,by rw[<-H];exact r.pa n x,by rw[<-H];exact r.cl n x,by rw[<-H];exact r.un n x,r.iX,r.lt⟩)
   have af:=l λd (I:G No wr d)=>(show d.cell? ⟨A,c* 6,J⟩=E (F K s.row)/\d.cell? ⟨A,c* 6+1,J⟩=E (F K s.ae)/\d.cell? ⟨A,c* 6+2,J⟩=E (F K s.st)/\d.cell? ⟨A,c* 6+3,J⟩=E (F K s.pa)/\d.cell? ⟨A,c* 6+4,J⟩=E (F K s.cl)/\d.cell? ⟨A,c* 6+5,J⟩=E (F K s.un) from by
    have r:=(b Y).mod I (λj=>j)
    exact⟨by rw[<-B];exact r.row c y,by rw[<-B];exact r.ae c y,by rw[<-B];exact r.st c y,by rw[<-B];exact r.pa c y,by rw[<-B];exact r.cl c y,by rw[<-B];exact r.un c y⟩)
   have b9:=l (show Q≠A from λcb=>(b ah).2.2 cb.symm);have b8:=l (show w≠Q from(b v).kY.ne);clear ad x ab H B v Y ah;have ce:=(b Z) wr (G.refl _ _);obtain⟨d0,d1,_⟩:=(b W) wr (G.refl _ _);go_upto_region 23 with fail;have N:=l ((G.refl No wr).alloc (m #[F K j.row,F K j.ae] 36));have T:=l (X.new wr #[F K j.row,F K j.ae] 36)
   have dK:wr.heap.size<(wr.alloc (m #[F K j.row,F K j.ae] 36)).heap.size:=(b T).lt;clear ce d0 d1;have GT:=l (show Q≠wr.heap.size from by obtain⟨_,_,_,_,_,_,_,dC⟩:=(b W) wr (G.refl _ _);omega);generalize wr.heap.size=tb at *;generalize wr.alloc (m #[F K j.row,F K j.ae] 36)=M at *;have dS:=(b Z) M (b N);obtain⟨d0,d1,d2,d3,d4,d5,dB,dP⟩:=(b W) M (b N);obtain⟨dr,dt,dv,dw,dz,dA⟩:=(b af) M (b N)
   have dp:M.cell? (u tb 0 J)=E (F K j.row):=(b T).T 0;have dq:M.cell? (u tb 1 J)=E (F K j.ae):=(b T).T 1;have dR:=b b9;have dQ:=b b8;have gt:=b GT;have ca:=l ((b ag) M (b N));clear ag Z W af T N;go_region
   all_goals go_wp2
   all_goals exact⟨⟨c+1,rfl,by omega,(b ca).still (by repeat' (first|with_reducible exact G.refl _ _|refine G.drewN ?_ _|refine G.drew ?_))⟩,by simp[intOf];omega⟩
  .have cc:¬(c:Int)<(e.length:Int):=by omega
   obtain rfl:c=e.length:=by omega
   go_wp2
def jZ(j:U)(gf a:Nat)(num:Int)(b:O)(i c d:Nat)(e:Int):U:=((((((((((j.setCell (u gf a J) (F K num)).setCell ⟨gf,a+1,J⟩ (F K b.rows)).setCell ⟨gf,a+2,J⟩ (F K b.y)).setCell ⟨gf,a+3,J⟩ (F K b.Z)).setCell ⟨gf,a+4,J⟩ (F K b.af)).setCell ⟨gf,a+5,J⟩ (F K b.ag)).setCell ⟨gf,a+6,J⟩ (F K b.ai)).setCell ⟨gf,a+7,J⟩ (F K b.aj)).setCell ⟨gf,a+8,J⟩ (C (E (u i 0 J)) c d)).setCell ⟨gf,a+9,J⟩ (F K e))
theorem iy.made{w3:U}{a:O}{num:Int}(d:G No S w3)(b:G No w3 o)(e:bE o w Q (aI a))(l:w3.heap.size<w)(i:aJ a (aI a)):iy S (o.alloc (m #[F K num,F K a.rows,F K a.y,F K a.Z,F K a.af,F K a.ag,F K a.ai,F K a.aj,C (E (u w 0 J)) (aI a).length Q,F K k] 134)) o.heap.size w Q a num k (aI a):=by
 have c:G No o (o.alloc (m #[F K num,F K a.rows,F K a.y,F K a.Z,F K a.af,F K a.ag,F K a.ai,F K a.aj,C (E (u w 0 J)) (aI a).length Q,F K k] 134)):=(G.refl _ _).alloc _;have:=d.size;have:=b.size;have:=e.lt;exact⟨X.new _ _ _,e.mod c (λj=>j),i,by omega,by omega,(d.trans b).trans c⟩
theorem iy.xy{w3:U}{a:O}{num:Int}(d:G No S w3)(b:G No w3 o)(e:X w3 w #[F K 0,F K 0,F K 0,F K 0,F K 0,F K 0,F K 0,F K 0,C J 0 0,F K 0] 134)(R:S.heap.size<=w)(B:bE o Q P (aI a))(T:w3.heap.size<Q)(H:aJ a (aI a)):iy S ((((((((((o.setCell (u w 0 J) (F K num)).setCell (u w 1 J) (F K a.rows)).setCell (u w 2 J) (F K a.y)).setCell (u w 3 J) (F K a.Z)).setCell (u w 4 J) (F K a.af)).setCell (u w 5 J) (F K a.ag)).setCell (u w 6 J) (F K a.ai)).setCell (u w 7 J) (F K a.aj)).setCell (u w 8 J) (C (E (u Q 0 J)) (aI a).length P)).setCell (u w 9 J) (F K k)) w Q P a num k (aI a):=by
 have N:=b.e e (λM=>M);have Y:=e.lt;have c:Q≠w:=by omega
 have i:G (λI=>I=w) o ((((((((((o.setCell (u w 0 J) (F K num)).setCell (u w 1 J) (F K a.rows)).setCell (u w 2 J) (F K a.y)).setCell (u w 3 J) (F K a.Z)).setCell (u w 4 J) (F K a.af)).setCell (u w 5 J) (F K a.ag)).setCell (u w 6 J) (F K a.ai)).setCell (u w 7 J) (F K a.aj)).setCell (u w 8 J) (C (E (u Q 0 J)) (aI a).length P)).setCell (u w 9 J) (F K k)):=(((((((((((G.refl _ o).at 0 _).at 1 _).at 2 _).at 3 _).at 4 _).at 5 _).at 6 _).at 7 _).at 8 _).at 9 _)
 have l:X (o.setCell (u w 0 J) (F K num)) w #[F K num,F K 0,F K 0,F K 0,F K 0,F K 0,F K 0,F K 0,C J 0 0,F K 0] 134:=N.set 0 _;have n:X ((o.setCell (u w 0 J) (F K num)).setCell (u w 1 J) (F K a.rows)) w #[F K num,F K a.rows,F K 0,F K 0,F K 0,F K 0,F K 0,F K 0,C J 0 0,F K 0] 134:=l.set 1 _
 have p:X (((o.setCell (u w 0 J) (F K num)).setCell (u w 1 J) (F K a.rows)).setCell (u w 2 J) (F K a.y)) w #[F K num,F K a.rows,F K a.y,F K 0,F K 0,F K 0,F K 0,F K 0,C J 0 0,F K 0] 134:=n.set 2 _
 have r:X ((((o.setCell (u w 0 J) (F K num)).setCell (u w 1 J) (F K a.rows)).setCell (u w 2 J) (F K a.y)).setCell (u w 3 J) (F K a.Z)) w #[F K num,F K a.rows,F K a.y,F K a.Z,F K 0,F K 0,F K 0,F K 0,C J 0 0,F K 0] 134:=p.set 3 _
 have s:X (((((o.setCell (u w 0 J) (F K num)).setCell (u w 1 J) (F K a.rows)).setCell (u w 2 J) (F K a.y)).setCell (u w 3 J) (F K a.Z)).setCell (u w 4 J) (F K a.af)) w #[F K num,F K a.rows,F K a.y,F K a.Z,F K a.af,F K 0,F K 0,F K 0,C J 0 0,F K 0] 134:=r.set 4 _
 have v:X ((((((o.setCell (u w 0 J) (F K num)).setCell (u w 1 J) (F K a.rows)).setCell (u w 2 J) (F K a.y)).setCell (u w 3 J) (F K a.Z)).setCell (u w 4 J) (F K a.af)).setCell (u w 5 J) (F K a.ag)) w #[F K num,F K a.rows,F K a.y,F K a.Z,F K a.af,F K a.ag,F K 0,F K 0,C J 0 0,F K 0] 134:=s.set 5 _
 have x:X (((((((o.setCell (u w 0 J) (F K num)).setCell (u w 1 J) (F K a.rows)).setCell (u w 2 J) (F K a.y)).setCell (u w 3 J) (F K a.Z)).setCell (u w 4 J) (F K a.af)).setCell (u w 5 J) (F K a.ag)).setCell (u w 6 J) (F K a.ai)) w #[F K num,F K a.rows,F K a.y,F K a.Z,F K a.af,F K a.ag,F K a.ai,F K 0,C J 0 0,F K 0] 134:=v.set 6 _
 have y:X ((((((((o.setCell (u w 0 J) (F K num)).setCell (u w 1 J) (F K a.rows)).setCell (u w 2 J) (F K a.y)).setCell (u w 3 J) (F K a.Z)).setCell (u w 4 J) (F K a.af)).setCell (u w 5 J) (F K a.ag)).setCell (u w 6 J) (F K a.ai)).setCell (u w 7 J) (F K a.aj)) w #[F K num,F K a.rows,F K a.y,F K a.Z,F K a.af,F K a.ag,F K a.ai,F K a.aj,C J 0 0,F K 0] 134:=x.set 7 _
 have z:X (((((((((o.setCell (u w 0 J) (F K num)).setCell (u w 1 J) (F K a.rows)).setCell (u w 2 J) (F K a.y)).setCell (u w 3 J) (F K a.Z)).setCell (u w 4 J) (F K a.af)).setCell (u w 5 J) (F K a.ag)).setCell (u w 6 J) (F K a.ai)).setCell (u w 7 J) (F K a.aj)).setCell (u w 8 J) (C (E (u Q 0 J)) (aI a).length P)) w #[F K num,F K a.rows,F K a.y,F K a.Z,F K a.af,F K a.ag,F K a.ai,F K a.aj,C (E (u Q 0 J)) (aI a).length P,F K 0] 134:=y.set 8 _
 have A:X ((((((((((o.setCell (u w 0 J) (F K num)).setCell (u w 1 J) (F K a.rows)).setCell (u w 2 J) (F K a.y)).setCell (u w 3 J) (F K a.Z)).setCell (u w 4 J) (F K a.af)).setCell (u w 5 J) (F K a.ag)).setCell (u w 6 J) (F K a.ai)).setCell (u w 7 J) (F K a.aj)).setCell (u w 8 J) (C (E (u Q 0 J)) (aI a).length P)).setCell (u w 9 J) (F K k)) w #[F K num,F K a.rows,F K a.y,F K a.Z,F K a.af,F K a.ag,F K a.ai,F K a.aj,C (E (u Q 0 J)) (aI a).length P,F K k] 134:=z.set 9 _
 exact⟨A,B.mod i c,H,λj=>c j.symm,by have:=d.size;omega,(d.trans b).trans' i (λZ hi W=>by omega)⟩
structure Az (w:U) (gf p8 g0 cap0:Nat) (p Q:O) (num ep:Int) (l:List z):Prop where
 row:bE w g0 cap0 l
 wf:aJ p l
 ne:gf≠g0
 T:∀j,j<10->w.cell? ⟨gf,p8+j,J⟩=(xC num p g0 l.length cap0 ep)[j]?
 iX:∀o,w.frozen? (u gf o J)=false
 lt:gf<w.heap.size
 af:Q.af=p.af
 ag:Q.ag=p.ag
 ai:Q.ai=p.ai
 aj:Q.aj=p.aj
theorem Rb{gf I:Nat}{p Q:O}{num:Int}(s v x y:Int)(c:Az S gf w P I p Q num k i)(T:¬(Q.aY=true/\¬Q.rows* Q.y<(cG i:Int))):Calls h 54 #[g (E (u gf w J)),t #[F K Q.rows,F K Q.y,F K Q.Z,F K s,F K v,F K x,F K y]] S λA w'=>A=q (F K 4)/\G No S w':=by
 have Z:=l λa (n:G No S a)=>(show a.cell? (u gf w J)=E (F K num)/\a.cell? ⟨gf,w+1,J⟩=E (F K p.rows)/\a.cell? ⟨gf,w+2,J⟩=E (F K p.y)/\a.cell? ⟨gf,w+3,J⟩=E (F K p.Z)/\a.cell? ⟨gf,w+4,J⟩=E (F K Q.af)/\a.cell? ⟨gf,w+5,J⟩=E (F K Q.ag)/\a.cell? ⟨gf,w+6,J⟩=E (F K Q.ai)/\a.cell? ⟨gf,w+7,J⟩=E (F K Q.aj)/\a.cell? ⟨gf,w+8,J⟩=E (C (E (u P 0 J)) i.length I)/\a.cell? ⟨gf,w+9,J⟩=E (F K k)/\(∀Y,a.frozen? (u gf Y J)=false)/\gf<a.heap.size from by
  have aa:=c.lt
  have d:=λW (aj:W<10) ap (am:(xC num p P i.length I k)[W]? =E ap)=>fZ n ((c.T W aj).trans am) (λe=>e)
  refine⟨d 0 (by omega) _ rfl,d 1 (by omega) _ rfl,d 2 (by omega) _ rfl,d 3 (by omega) _ rfl,by rw[c.af];exact d 4 (by omega) _ rfl,by rw[c.ag];exact d 5 (by omega) _ rfl,by rw[c.ai];exact d 6 (by omega) _ rfl,by rw[c.aj];exact d 7 (by omega) _ rfl,d 8 (by omega) _ rfl,d 9 (by omega) _ rfl,λY=>?_,bj aa n.size⟩
  have:=c.iX Y
  unfold World.frozen? at this ⊢
  rw[n.block gf aa (λe=>e)]
  exact this)
 have B:=l λa=>(show Calls h 82 #[t #[F K Q.rows,F K Q.y,F K Q.Z,F K s,F K v,F K x,F K y]] a λA w'=>A=q (L Q.aY)/\G No a w' from uu ⟨Q.rows,Q.y,Q.Z,s,v,x,y,0⟩ a);have R:=l λa (n:G No S a)=>wj gf w P I i a (c.row.mod n (λe=>e)) (by have:=ju c.wf;omega) (fZ n (c.T 8 (by omega)) (λe=>e));have ay:i.length<=120:=ju c.wf;have ax:=ur i;have ai:=FW i
 have H:=l ((G.refl No S).alloc (m #[F K Q.rows,F K Q.y,F K Q.Z,F K s,F K v,F K x,F K y] 39));have N:=l (X.new S #[F K Q.rows,F K Q.y,F K Q.Z,F K s,F K v,F K x,F K y] 39)
 cases o:Q.aY with
 |false=>
  rw[o] at B;clear c T o R;go_enter func54,ntmps54;go_wp2_with fail;refine((b B) _).mono ?_;rintro A M ⟨rfl,r⟩;have j:=l ((b H).trans r);clear r N H;obtain⟨f0,f1,f2,f3,f4,f5,f6,f7,f8,f9,ah,ag⟩:=(b Z) M (b j);go_wp2_with fail;go_quiet (fail);go_wp2;go_ret;exact⟨rfl,(b j).drewN _⟩
 |true=>
  have ak:Q.rows* Q.y<(cG i:Int):=by
   by_cases ad:Q.rows* Q.y<(cG i:Int)
   .exact ad
   .exact absurd ⟨o,ad⟩ T
  have ab:=o;simp only[O.aY,eA] at ab;have ao:0<=Q.rows* Q.y:=ky (by omega) (by omega);have au:wrap64 (Q.rows* Q.y)=Q.rows* Q.y:=by unfold wrap64;omega
  have av:K.wrap ((i.length:Int) - (ew i:Int))=(i.length:Int) - (ew i:Int):=bh _ (by omega) (by omega);have hd:decide (Q.rows* Q.y<(i.length:Int) - (ew i:Int))=true:=by simp;omega
  rw[o] at B;clear c T o ab ak ai ao;generalize ew i=aw at *;go_enter func54,ntmps54;go_wp2_with fail;refine((b B) _).mono ?_;rintro A M ⟨rfl,r⟩;have j:=l ((b H).trans r);have ar:=(r.e (b N) (λe=>e)).T;clear r N H;generalize S.heap.size=az at *;obtain⟨f0,f1,f2,f3,f4,f5,f6,f7,f8,f9,ah,ag⟩:=(b Z) M (b j);have af:=l λae=>(b R) (M.drewN ae) ((b j).drewN ae);clear R;go_wp2_with fail
  go_quiet ((go_at_call 58;exact Calls.quiet_of_same ((b af) _)));go_wp2;go_ret;exact⟨rfl,(b j).drewN _⟩
theorem km.start{w wr:U}{e j:Nat}{p b:O}{num:Int}{a:Option Addr}(n:jc w wr Q P e b num k i (C a (gK b i i.length) j) i.length)(v:aJ p i)(o:b.aY=true)(r:b.bI=true)(s:¬b.rows* b.y<(cG i:Int)):km w wr Q P e b num k (stay b i) (bY b i) (C a (bY b i).length j) 0:=by
 obtain⟨l,c,d⟩:=n;unfold gK at c d;rw[fN] at l c d;exact⟨l,we v o r s,c,d⟩
theorem Rc{gf:Nat}{p a:O}{num:Int}(af ag ah ai:Int)(r:Az S gf w Q P p a num k i)(W:a.aY=true)(aN:a.bI=true)(bg:¬a.rows* a.y<(cG i:Int)):Calls h 54 #[g (E (u gf w J)),t #[F K a.rows,F K a.y,F K a.Z,F K af,F K ag,F K ah,F K ai]] S λM w'=>M=q (F K 0)/\∃(A:U) (o s:Nat),G No S A/\S.heap.size<=o/\bE A o s (gR a i)/\w'=jZ A gf w num a o (gR a i).length s k:=by
 have N:=l λd (Y:G No S d)=>(show d.cell? (u gf w J)=E (F K num)/\d.cell? ⟨gf,w+1,J⟩=E (F K p.rows)/\d.cell? ⟨gf,w+2,J⟩=E (F K p.y)/\d.cell? ⟨gf,w+3,J⟩=E (F K p.Z)/\d.cell? ⟨gf,w+4,J⟩=E (F K a.af)/\d.cell? ⟨gf,w+5,J⟩=E (F K a.ag)/\d.cell? ⟨gf,w+6,J⟩=E (F K a.ai)/\d.cell? ⟨gf,w+7,J⟩=E (F K a.aj)/\d.cell? ⟨gf,w+8,J⟩=E (C (E (u Q 0 J)) i.length P)/\d.cell? ⟨gf,w+9,J⟩=E (F K k)/\(∀aX,d.frozen? (u gf aX J)=false)/\gf<d.heap.size from by
  have bf:=r.lt
  have B:=λZ (aR:Z<10) av (bC:(xC num p Q i.length P k)[Z]? =E av)=>fZ Y ((r.T Z aR).trans bC) (λe=>e)
  refine⟨B 0 (by omega) _ rfl,B 1 (by omega) _ rfl,B 2 (by omega) _ rfl,B 3 (by omega) _ rfl,by rw[r.af];exact B 4 (by omega) _ rfl,by rw[r.ag];exact B 5 (by omega) _ rfl,by rw[r.ai];exact B 6 (by omega) _ rfl,by rw[r.aj];exact B 7 (by omega) _ rfl,B 8 (by omega) _ rfl,B 9 (by omega) _ rfl,λaX=>?_,bj bf Y.size⟩
  have:=r.iX aX
  unfold World.frozen? at this ⊢
  rw[Y.block gf bf (λe=>e)]
  exact this)
 have aE:=l λd=>(show Calls h 82 #[t #[F K a.rows,F K a.y,F K a.Z,F K af,F K ag,F K ah,F K ai]] d λM w'=>M=q (L a.aY)/\G No d w' from uu ⟨a.rows,a.y,a.Z,af,ag,ah,ai,0⟩ d);have a3:=l λd (Y:G No S d)=>wj gf w Q P i d (r.row.mod Y (λe=>e)) (by have:=ju r.wf;omega) (fZ Y (r.T 8 (by omega)) (λe=>e));have bB:i.length<=120:=ju r.wf;have b9:=ur i;have bA:=FW i
 have a7:=l ((G.refl No S).alloc (m #[F K a.rows,F K a.y,F K a.Z,F K af,F K ag,F K ah,F K ai] 39));have a0:=l (X.new S #[F K a.rows,F K a.y,F K a.Z,F K af,F K ag,F K ah,F K ai] 39)
 have aD:=l (show fY S gf w Q P p i from⟨r.row,by omega,r.ne,r.T 8 (by omega),λZ aR=>by
  rw[BM,r.T (4+Z) (by omega)]
  match Z,aR with
  |0,_=>rfl
  |1,_=>rfl
  |2,_=>rfl
  |3,_=>rfl⟩)
 have ak:=l r.wf;have aC:=l (oH W aN)
 have aB:=l λd=>(show Calls h 84 #[t #[F K a.rows,F K a.y,F K a.Z,F K a.af,F K a.ag,F K a.ai,F K a.aj]] d λM w'=>∃av,M=q av/\∃o s,av=C (E (u o 0 J)) (aI a).length s/\bE w' o s (aI a)/\d.heap.size<o/\G No d w' from
  (yX a W d).mono λM w' ⟨o,s,bF,bH⟩=>⟨_,bF,o,s,rfl,bH⟩)
 have az:=l W;have aA:=l aN;have a5:=l bg;have bl:=W;simp only[O.aY,eA] at bl;have bJ:0<=a.rows* a.y:=ky (by omega) (by omega);have bL:a.rows* a.y<=20* 6:=tL (by omega) (by omega) (by omega) (by omega);have bx:wrap64 (a.rows* a.y)=a.rows* a.y:=by unfold wrap64;omega
 have bz:K.wrap ((i.length:Int) - (ew i:Int))=(i.length:Int) - (ew i:Int):=bh _ (by omega) (by omega);have hd:decide (a.rows* a.y<(i.length:Int) - (ew i:Int))=false:=by simp;omega
 rw[W] at aE;clear r W aN bg bl bA bJ bL;generalize ew i=b6 at *;go_enter func54,ntmps54;go_wp2_with fail;refine((b aE) _).mono ?_;rintro M aw ⟨rfl,aU⟩;have ao:=l ((b a7).trans aU);have ax:=l (aU.e (b a0) (λe=>e));have bs:=(b ax).T;have kP:=l (show S.heap.size<=S.heap.size from cz _);clear aU a0 a7;generalize bk:S.heap.size=c at *;have R:=l bk;clear bk
 obtain⟨f0,f1,f2,f3,f4,f5,f6,f7,f8,f9,ar,T⟩:=(b N) aw (b ao);have a2:=l λbm=>(b a3) (aw.drewN bm) ((b ao).drewN bm);clear a3 aE;go_upto_region 2 with fail;go_cut [33] (λbO A=>bO=L false/\Hid (G No aw A))
 case first=>
  go_quiet ((go_at_call 58;exact Calls.quiet_of_same ((b a2) _)));go_wp2;go_meet;exact⟨rfl,(G.refl No aw).drewN _⟩
 case rest=>
  obtain⟨rfl,aG⟩:=hcut
  apply_assumption
  clear a2 f0 f1 f2 f3 f4 f5 f6 f7 f8 f9 ar T bs hd bx bz;have aF:=l ((b ao).trans (b aG));have aa:=l ((b aG).e (b ax) (λe=>e));have bt:=(b aa).T;have bw:=(b aa).aC;have bv:=(b aa).lt;obtain⟨f0,f1,f2,f3,f4,f5,f6,f7,f8,f9,ar,T⟩:=(b N) wc (b aF);have br:=l (show gf≠c from λM=>by have:=(b aD).slice;have:=jk S _ this;have:=b R;simp only at *;omega);have bM:=b br;clear ao ax aG
  go_upto_region 5 with fail;have ab:=l (show X ((((wc.setCell (u c 3 J) (F K a.af)).setCell (u c 4 J) (F K a.ag)).setCell (u c 5 J) (F K a.ai)).setCell (u c 6 J) (F K a.aj)) c #[F K a.rows,F K a.y,F K a.Z,F K a.af,F K a.ag,F K a.ai,F K a.aj] 39 from((((b aa).set 3 _).set 4 _).set 5 _).set 6 _)
  have ae:=l (show G No S ((((wc.setCell (u c 3 J) (F K a.af)).setCell (u c 4 J) (F K a.ag)).setCell (u c 5 J) (F K a.ai)).setCell (u c 6 J) (F K a.aj)) from((((b aF).setCell (p:=u c 3 J) (.inr (by have:=b R;simp only;omega)) _).setCell (p:=u c 4 J) (.inr (by have:=b R;simp only;omega)) _).setCell (p:=u c 5 J) (.inr (by have:=b R;simp only;omega)) _).setCell (p:=u c 6 J) (.inr (by have:=b R;simp only;omega)) _)
  clear bt bw bv f0 f1 f2 f3 f4 f5 f6 f7 f8 f9 ar T aa aF bM;generalize ((((wc.setCell (u c 3 J) (F K a.af)).setCell (u c 4 J) (F K a.ag)).setCell (u c 5 J) (F K a.ai)).setCell (u c 6 J) (F K a.aj))=I at *;have bu:=(b ab).T;have bI:=(b ab).lt;obtain⟨f0,_,_,_,_,_,_,_,_,f9,_,T⟩:=(b N) I (b ae);go_cut [6] (λb0 A=>∃y o s,b0=g (E (u y 0 J))/\Hid (iy S A y o s a num k (aI a)))
  case first=>
   have bn:=l (b ab).drew;have a8:=l (b ae).drew;have aW:G No I ((I.alloc (m #[F K 0,F K 0,F K 0,F K 0,F K 0,F K 0,F K 0,F K 0,C J 0 0,F K 0] 134)).drew):=((G.refl _ I).alloc _).drew;have bo:=l (aW.e (b ab) (λe=>e));have a9:=l ((b ae).trans aW);have ap:=l (X.new I #[F K 0,F K 0,F K 0,F K 0,F K 0,F K 0,F K 0,F K 0,C J 0 0,F K 0] 134).drew;clear aW;have b7:gf≠I.heap.size:=by omega
   have b8:I.heap.size≠gf:=by omega
   have ca:c≠I.heap.size:=by omega
   have cb:I.heap.size≠c:=by omega
   go_region_held2 (λw'=>w'.cell? (u gf w J)=E (F K num)/\w'.cell? ⟨gf,w+9,J⟩=E (F K k)/\w'.cell? (u c 0 J)=E (F K a.rows)/\w'.cell? (u c 1 J)=E (F K a.y)/\w'.cell? (u c 2 J)=E (F K a.Z)/\w'.cell? (u c 3 J)=E (F K a.af)/\w'.cell? (u c 4 J)=E (F K a.ag)/\w'.cell? (u c 5 J)=E (F K a.ai)/\w'.cell? (u c 6 J)=E (F K a.aj)) (first|with_reducible assumption|go_keep) (first
    |(refine tj rfl 84 _ _ rfl #[t #[F K a.rows,F K a.y,F K a.Z,F K a.af,F K a.ag,F K a.ai,F K a.aj]] (by simp[aM,bN]) (λd=>by kernel_rfl) _ ((b aB) _) ?_;rintro b1 j ⟨aL,aJ,rfl,aO,aZ,H⟩;have aY:j.cell? (u gf w J)=E (F K num)/\j.cell? ⟨gf,w+9,J⟩=E (F K k)/\j.cell? (u c 0 J)=E (F K a.rows)/\j.cell? (u c 1 J)=E (F K a.y)/\j.cell? (u c 2 J)=E (F K a.Z)/\j.cell? (u c 3 J)=E (F K a.af)/\j.cell? (u c 4 J)=E (F K a.ag)/\j.cell? (u c 5 J)=E (F K a.ai)/\j.cell? (u c 6 J)=E (F K a.aj):=(by have v:=(H.e (b bn) (λe=>e)).T;obtain⟨aS,_,_,_,_,_,_,_,_,aT,_,_⟩:=(b N) j ((b a8).trans H);exact⟨aS,aT,v 0,v 1,v 2,v 3,v 4,v 5,v 6⟩);obtain⟨bP,bQ,bR,bS,bT,bU,bV,bX,bZ⟩:=id aY)
    |(refine tj rfl 84 _ _ rfl #[t #[F K a.rows,F K a.y,F K a.Z,F K a.af,F K a.ag,F K a.ai,F K a.aj]] (by simp[aM,bN]) (λd=>by kernel_rfl) _ ((b aB) _) ?_;rintro b1 j ⟨aL,aJ,rfl,aO,aZ,H⟩;have aY:j.cell? (u gf w J)=E (F K num)/\j.cell? ⟨gf,w+9,J⟩=E (F K k)/\j.cell? (u c 0 J)=E (F K a.rows)/\j.cell? (u c 1 J)=E (F K a.y)/\j.cell? (u c 2 J)=E (F K a.Z)/\j.cell? (u c 3 J)=E (F K a.af)/\j.cell? (u c 4 J)=E (F K a.ag)/\j.cell? (u c 5 J)=E (F K a.ai)/\j.cell? (u c 6 J)=E (F K a.aj):=(by have v:=(H.e (b bo) (λe=>e)).T;obtain⟨aS,_,_,_,_,_,_,_,_,aT,_,_⟩:=(b N) j ((b a9).trans H);exact⟨aS,aT,v 0,v 1,v 2,v 3,v 4,v 5,v 6⟩);obtain⟨bP,bQ,bR,bS,bT,bU,bV,bX,bZ⟩:=id aY;have dK:=(H.e (b ap) (λe=>e)).T;have dL:=(H.e (b ap) (λe=>e)).aC;have dM:=(H.e (b ap) (λe=>e)).lt))
   all_goals go_wp2
   all_goals go_meet
   all_goals first
    |with_reducible exact⟨_,aL,aJ,rfl,l (iy.made (b a8) H aO aZ (b aC))⟩
    |with_reducible exact⟨_,aL,aJ,rfl,l (iy.xy (b a9) H (b ap) (b ae).size aO aZ (b aC))⟩
  case rest=>
   obtain⟨y,o,s,rfl,ba⟩:=hcut;clear bu bI f0 f9 T ab ae aB
   apply_assumption
   go_upto_block 0 with fail;refine od ?_;refine Qm (b aD) (b ak) (b az) (b aA) _ (l (jc.start i (b ba))) _ _ _ _ _ _ _ _ _ _ _ _ _ _ _ _ _ _ _ _ _ _ _ _ _ _ _ _ _ _ _ _ _ _ _ _ _ _ _ _ _ _ _ _ _ _ _ _ _ _ _ _ _ _ _ _ _ _ _ _ _ _ _ _ _ _ _ _ _ _ _ _ _ _ _ _ _ _ _ _ _ _ _ _ _ _ _ _ _ _ _ _ _ _ _ _ _ _ _ _ _ _ _ _ _ _ _ _ _ _ _ _ _ _ _ _ _ _ _ ?_
   intro c7 di cc cB cD cE cF cH cI cJ cK cL cM cO cP cR cS cT cU cV cW cX cY cZ c0 c1 c2 c3 c4 c5 c6 c8 c9 c' db dc b4 b5 A a6;have aH:=l (km.start (b a6) (b ak) (b az) (b aA) (by have:=b a5;omega));have ad:=um (q:=a) (b ak);have aj:=cC (F0 a i i.length) bB;have bi:gK a i i.length=(bY a i).length:=by unfold gK;rw[fN]
   rw[bi] at aj ⊢;have ad:=l ad;clear ba a6 bi;obtain⟨au,aQ⟩:∃au,bY a i=au:=⟨_,rfl⟩;rw[aQ] at aj aH ad ⊢;have a4:=l aQ;clear aQ;go_upto_block 2 with fail;refine od ?_
   refine Ra (b ad) aj _ aH _ _ _ _ _ _ _ _ _ _ _ _ _ _ _ _ _ _ _ _ _ _ _ _ _ _ _ _ _ _ _ _ _ _ _ _ _ _ _ _ _ _ _ _ _ _ _ _ _ _ _ _ _ _ _ _ _ _ _ _ _ _ _ _ _ _ _ _ _ _ _ _ _ _ _ _ _ _ _ _ _ _ _ _ _ _ _ _ _ _ _ _ _ _ _ _ _ _ _ _ _ _ _ _ _ _ _ _ _ _ _ _ _ _ _ _ _ _ _ _ ?_;intro cn cy cA dd de df dg dh dj dk dl dm dp dq dr dt dv dw cd ce cf cg ch ci cj ck cl cm co cp cq cr cs ct cu cv cw cx x bb
   have bd:dn (stay a i) au au.length=gR a i:=by
    unfold dn gR;rw[fN,b a4]
   have n:=(b bb).kY;rw[bd] at n;obtain⟨f0,f1,f2,f3,f4,f5,f6,f7,f8,f9,ar,T⟩:=(b N) x n.mod;have dz:x.cell? (u y 0 J)=E (F K num):=n.e.T 0;have dA:x.cell? (u y 1 J)=E (F K a.rows):=n.e.T 1;have dB:x.cell? (u y 2 J)=E (F K a.y):=n.e.T 2;have dC:x.cell? (u y 3 J)=E (F K a.Z):=n.e.T 3;have dD:x.cell? (u y 4 J)=E (F K a.af):=n.e.T 4;have dF:x.cell? (u y 5 J)=E (F K a.ag):=n.e.T 5
   have dH:x.cell? (u y 6 J)=E (F K a.ai):=n.e.T 6;have dI:x.cell? (u y 7 J)=E (F K a.aj):=n.e.T 7;have b2:x.cell? (u y 8 J)=E (C (E (u o 0 J)) (gR a i).length s):=n.e.T 8;have dJ:x.cell? (u y 9 J)=E (F K k):=n.e.T 9;have n:=l n;clear bd aH bb ad aj N aD ak aC az aA a5 a4
   have ay:=l (show ∃(A:U) (aK bc:Nat),G No S A/\S.heap.size<=aK/\bE A aK bc (gR a i)/\jZ x gf w num a o (gR a i).length s k=jZ A gf w num a aK (gR a i).length bc k from⟨x,o,s,(b n).mod,(b n).new.2,(b n).row,rfl⟩);have b3:=R;obtain⟨am,aP⟩:∃am,(gR a i).length=am:=⟨_,rfl⟩;rw[aP] at b2 ay;have bq:=l aP;clear aP
   have a1:=l (show jZ x gf w num a o am s k=((((((((((x.setCell (u gf w J) (F K num)).setCell ⟨gf,w+1,J⟩ (F K a.rows)).setCell ⟨gf,w+2,J⟩ (F K a.y)).setCell ⟨gf,w+3,J⟩ (F K a.Z)).setCell ⟨gf,w+4,J⟩ (F K a.af)).setCell ⟨gf,w+5,J⟩ (F K a.ag)).setCell ⟨gf,w+6,J⟩ (F K a.ai)).setCell ⟨gf,w+7,J⟩ (F K a.aj)).setCell ⟨gf,w+8,J⟩ (C (E (u o 0 J)) am s)).setCell ⟨gf,w+9,J⟩ (F K k)) from rfl)
   rw[b a1] at ay;clear a1 n;go_wp2_with fail;go_ret;have bp:=b ay;rw[b bq];exact⟨rfl,by with_reducible exact bp⟩
theorem eP.put{gf:Nat}{b:aB}(c:eP S gf w (W.set Q b))(hi:Q<W.length)(j:Nat)(d:j<10)(a:V)(x:aB)(e:cg x=(cg b).setIfInBounds j a):eP (S.setCell ⟨gf,Q* 10+j,J⟩ a) gf w (W.set Q x):=by
 have:=c.set Q (by simpa using hi) j d a x (by simpa using e)
 rwa [uL] at this
theorem eP.jZ{gf:Nat}(B:eP S gf w W)(c:Nat)(hi:c<W.length)(num:Int)(b:O)(e d:Nat)(i:List z)(j:Int):eP (jZ S gf (c* 10) num b e i.length d j) gf w (W.set c ⟨⟨num,b,i,j⟩,e,d⟩):=by
 have k:eP S gf w (W.set c W[c]):=by rw[pj];exact B
 generalize W[c]=a at k;have l:=k.put hi 0 (by omega) (F K num) ⟨⟨num,⟨a.f.c.rows,a.f.c.y,a.f.c.Z,a.f.c.af,a.f.c.ag,a.f.c.ai,a.f.c.aj,a.f.c.ep⟩,a.f.Y,a.f.ep⟩,a.g,a.cap⟩ rfl;have n:=l.put hi 1 (by omega) (F K b.rows) ⟨⟨num,⟨b.rows,a.f.c.y,a.f.c.Z,a.f.c.af,a.f.c.ag,a.f.c.ai,a.f.c.aj,a.f.c.ep⟩,a.f.Y,a.f.ep⟩,a.g,a.cap⟩ rfl
 have o:=n.put hi 2 (by omega) (F K b.y) ⟨⟨num,⟨b.rows,b.y,a.f.c.Z,a.f.c.af,a.f.c.ag,a.f.c.ai,a.f.c.aj,a.f.c.ep⟩,a.f.Y,a.f.ep⟩,a.g,a.cap⟩ rfl;have p:=o.put hi 3 (by omega) (F K b.Z) ⟨⟨num,⟨b.rows,b.y,b.Z,a.f.c.af,a.f.c.ag,a.f.c.ai,a.f.c.aj,a.f.c.ep⟩,a.f.Y,a.f.ep⟩,a.g,a.cap⟩ rfl
 have r:=p.put hi 4 (by omega) (F K b.af) ⟨⟨num,⟨b.rows,b.y,b.Z,b.af,a.f.c.ag,a.f.c.ai,a.f.c.aj,a.f.c.ep⟩,a.f.Y,a.f.ep⟩,a.g,a.cap⟩ rfl;have s:=r.put hi 5 (by omega) (F K b.ag) ⟨⟨num,⟨b.rows,b.y,b.Z,b.af,b.ag,a.f.c.ai,a.f.c.aj,a.f.c.ep⟩,a.f.Y,a.f.ep⟩,a.g,a.cap⟩ rfl;have v:=s.put hi 6 (by omega) (F K b.ai) ⟨⟨num,⟨b.rows,b.y,b.Z,b.af,b.ag,b.ai,a.f.c.aj,a.f.c.ep⟩,a.f.Y,a.f.ep⟩,a.g,a.cap⟩ rfl
 have x:=v.put hi 7 (by omega) (F K b.aj) ⟨⟨num,⟨b.rows,b.y,b.Z,b.af,b.ag,b.ai,b.aj,a.f.c.ep⟩,a.f.Y,a.f.ep⟩,a.g,a.cap⟩ rfl;have y:=x.put hi 8 (by omega) (C (E (u e 0 J)) i.length d) ⟨⟨num,⟨b.rows,b.y,b.Z,b.af,b.ag,b.ai,b.aj,b.ep⟩,i,a.f.ep⟩,e,d⟩ rfl;have A:=y.put hi 9 (by omega) (F K j) ⟨⟨num,⟨b.rows,b.y,b.Z,b.af,b.ag,b.ai,b.aj,b.ep⟩,i,j⟩,e,d⟩ rfl;exact A
theorem G.jZ{S:Nat->Prop}{a:U}(l:G S a o){gf:Nat}(c:S gf)(b:Nat)(num:Int)(e:O)(k d i:Nat)(j:Int):G S a (Go.Proofs.YthhibagcpjeihaaGreat.jZ o gf b num e k d i j):=by
 unfold Go.Proofs.YthhibagcpjeihaaGreat.jZ
 exact(((((((((l.setCell (p:=u gf b J) (.inl c) _).setCell (p:=⟨gf,b+1,J⟩) (.inl c) _).setCell (p:=⟨gf,b+2,J⟩) (.inl c) _).setCell (p:=⟨gf,b+3,J⟩) (.inl c) _).setCell (p:=⟨gf,b+4,J⟩) (.inl c) _).setCell (p:=⟨gf,b+5,J⟩) (.inl c) _).setCell (p:=⟨gf,b+6,J⟩) (.inl c) _).setCell (p:=⟨gf,b+7,J⟩) (.inl c) _).setCell (p:=⟨gf,b+8,J⟩) (.inl c) _).setCell (p:=⟨gf,b+9,J⟩) (.inl c) _
theorem bB.Rd{gf:Nat}(e:bB S N w (C (E (u gf 0 J)) W.length Q) W k)(b:Nat)(hi:b<W.length)(num:Int)(l:O)(d n:Nat)(j:List z)(p:Int)(M:G No S o)(ai:S.heap.size<=d)(P:bE o d n j)(ab:aJ l j):∃R,bB (jZ o gf (b* 10) num l d j.length n p) R w (C (E (u gf 0 J)) W.length Q) (W.set b ⟨⟨num,l,j,p⟩,d,n⟩) k/\(∀a,R a≠0->N a≠0\/S.heap.size<=a)/\G (λa=>N a≠0) S (jZ o gf (b* 10) num l d j.length n p):=by
 obtain⟨r,af⟩:=e.parts rfl (by omega);have X:=P.lt;have ah:gf<S.heap.size:=e.bg gf (by rw[r];omega);have ak:w<S.heap.size:=e.bg w (by rw[e.bw];omega);have x:G (λa=>a=gf) S (jZ o gf (b* 10) num l d j.length n p):=(M.mono (S':=λa=>a=gf) (λ_ _ H=>H.elim)).jZ (gf:=gf) rfl _ _ _ _ _ _ _;have I:G (λa=>a=gf) o (jZ o gf (b* 10) num l d j.length n p):=(G.refl (λa=>a=gf) o).jZ (gf:=gf) rfl _ _ _ _ _ _ _
 have aa:w≠gf:=λc=>by have:=e.bw;rw[c,r] at this;omega
 refine⟨λa=>if a=d then b+3 else if a=W[b].g then 0 else N a,⟨x.e e.e aa,.inr ⟨gf,Q,by rw[kH],?_,?_⟩,?_,λa i=>?_,λv Y=>?_,by simpa using e.fg⟩,λa i=>?_,x.mono (λa _ c=>by rw[c,r];omega)⟩
 .exact(af.mod M (λH=>H)).jZ b hi num l d n j p
 .have A:gf≠d:=by omega
  have:gf≠W[b].g:=λc=>by have:=(e.Y b hi).2.1;rw[<-c,r] at this;omega
  simp only[f A,f this];exact r
 .have A:w≠d:=by omega
  have:w≠W[b].g:=λc=>by have:=(e.Y b hi).2.1;rw[<-c,e.bw] at this;omega
  simp only[f A,f this];exact e.bw
 .by_cases c:a=d
  .subst c;exact bj X I.size
  .simp only[f c] at i;by_cases s:a=W[b].g
   .simp[s] at i
   .simp only[f s] at i;exact bj (e.bg a i) x.size
 .have Z:v<W.length:=by simpa using Y
  by_cases c:b=v
  .subst c;simp only[ph];exact⟨P.mod I (by omega),by simp,ab⟩
  .simp only[qX c];obtain⟨T,B,ag⟩:=e.Y v Z;have aj:=T.lt;have ad:W[v].g≠d:=by omega
   have ae:W[v].g≠W[b].g:=λy=>by have:=(e.Y b hi).2.1;rw[<-y,B] at this;omega
   refine⟨T.mod x (λy=>by rw[y,r] at B;omega),?_,ag⟩;rw[f ad,f ae];exact B
 .by_cases c:a=d
  .exact .inr (by omega)
  .simp only[f c] at i;by_cases s:a=W[b].g
   .simp[s] at i
   .simp only[f s] at i;exact .inl i
theorem Gs{gf:Nat}(b:bB S N w (C (E (u gf 0 J)) W.length Q) W k)(a:Nat)(hi:a<W.length)(n:O):Az S gf (a* 10) W[a].g W[a].cap W[a].f.c (gG W[a].f.c n) W[a].f.num W[a].f.ep W[a].f.Y:=by
 obtain⟨l,d⟩:=b.parts rfl (by omega);obtain⟨o,p,r⟩:=b.Y a hi;obtain⟨s,c,_⟩:=d.cur;exact⟨o,r,λe=>by rw[<-e,l] at p;omega,λj i=>d.T a hi j i,c.aC,c.lt,rfl,rfl,rfl,rfl⟩
theorem Re{gf:Nat}(n:bB S N w (C (E (u gf 0 J)) W.length Q) W k)(b:Nat)(hi:b<W.length)(a:O)(i:a.aY=true/\¬a.rows* a.y<(cG W[b].f.Y:Int)):Calls h 54 #[g (E ⟨gf,b* 10,J⟩),t #[F K a.rows,F K a.y,F K a.Z,F K a.af,F K a.ag,F K a.ai,F K a.aj]] S λl w'=>l=q (F K 0)/\
   ∃j e d,bB w' j w (C (E (u gf 0 J)) W.length Q) (W.set b ⟨⟨W[b].f.num,gG W[b].f.c a,gR (gG W[b].f.c a) W[b].f.Y,W[b].f.ep⟩,e,d⟩) k/\(∀c,j c≠0->N c≠0\/S.heap.size<=c)/\G (λc=>N c≠0) S w':=by
 have hF:=Gs n b hi a;have o:(gG W[b].f.c a).bI=true:=hF.wf.bI;refine(Rc a.af a.ag a.ai a.aj hF i.1 o i.2).mono ?_;rintro l w' ⟨rfl,z,e,d,r,p,s,rfl⟩;obtain⟨j,v,x,y⟩:=n.Rd b hi W[b].f.num (gG W[b].f.c a) e d (gR (gG W[b].f.c a) W[b].f.Y) W[b].f.ep r p s (yM hF.wf i.1 o i.2);exact⟨rfl,j,e,d,v,x,y⟩
theorem Rf{gf:Nat}(d:bB S N w (C (E (u gf 0 J)) W.length Q) W k)(b:Nat)(hi:b<W.length)(a:O)(e:¬(a.aY=true/\¬a.rows* a.y<(cG W[b].f.Y:Int))):Calls h 54 #[g (E ⟨gf,b* 10,J⟩),t #[F K a.rows,F K a.y,F K a.Z,F K a.af,F K a.ag,F K a.ai,F K a.aj]] S λc w'=>c=q (F K 4)/\G No S w':=
 Rb (Q:=gG W[b].f.c a) a.af a.ag a.ai a.aj (Gs d b hi a) e
def rD(a:O)(x:aB)(c b:Nat):aB:=⟨⟨x.f.num,gG x.f.c a,gR (gG x.f.c a) x.f.Y,K.wrap (x.f.ep+1)⟩,c,b⟩
theorem Rg{gf:Nat}(p:bB S N w (C (E (u gf 0 J)) W.length Q) W k)(c r ac y x v s time:Int)(a:O)(P:1<=c/\c<=20)(e:Nat)(hi:e<W.length)(A:dF W c=e)(B:¬(a.aY=true/\¬a.rows* a.y<(cG W[e].f.Y:Int))):Calls h 27 #[g (E (u w 0 J)),t #[F K 9,F K c,F K r,F K ac,F K y,F K x,F K v,F K s,F K time,F K a.rows,F K a.y,F K a.Z,F K a.af,F K a.ag,F K a.ai,F K a.aj]] S λi w'=>i=q (F K 4)/\G No S w':=by
 have H:=l λd (j:G No S d)=>(show Calls h 52 #[g (E (u w 0 J)),F K c] d λi w'=>i=q (F K (e:Nat))/\w'=d from by
  have:=(p.mod j (λ_ _ n=>n)).find c
  rw[A] at this
  exact this)
 have I:=l λd (j:G No S d)=>Rf (p.mod j (λ_ _ n=>n)) e hi a B;have M:=l λd (j:G No S d)=>(show d.cell? (u w 0 J)=E (C (E (u gf 0 J)) W.length Q) from fZ j (p.e.T 0) (λn=>n));have o:=l ((G.refl No S).alloc (m #[F K 9,F K c,F K r,F K ac,F K y,F K x,F K v,F K s,F K time,F K a.rows,F K a.y,F K a.Z,F K a.af,F K a.ag,F K a.ai,F K a.aj] 41))
 have z:=l (X.new S #[F K 9,F K c,F K r,F K ac,F K y,F K x,F K v,F K s,F K time,F K a.rows,F K a.y,F K a.Z,F K a.af,F K a.ag,F K a.ai,F K a.aj] 41);have f1:¬c<1:=by omega
 have f2:¬c>20:=by omega
 have Y:¬(e:Int)<0:=by omega
 have Z:(e:Int)<(W.length:Int):=by omega
 have aa:(0:Int)<=e:=by omega
 clear p A P B;go_enter func27,ntmps27;go_wp2_with fail;refine((b H) _ (b o)).mono ?_;rintro i ae ⟨rfl,rfl⟩;have ad:=(b M) _ (b o);have T:=(b z).T;have ab:=(b z).lt;go_wp2_with fail;refine((b I) _ (b o)).mono ?_;rintro i af ⟨rfl,R⟩;go_wp2;go_ret;exact⟨rfl,(b o).trans R⟩
theorem Rh{gf:Nat}(v:bB S N w (C (E (u gf 0 J)) W.length Q) W k)(i A ac P M I B time:Int)(a:O)(ak:1<=i/\i<=20)(c:Nat)(hi:c<W.length)(Z:dF W i=c)(aa:a.aY=true/\¬a.rows* a.y<(cG W[c].f.Y:Int)):Calls h 27 #[g (E (u w 0 J)),t #[F K 9,F K i,F K A,F K ac,F K P,F K M,F K I,F K B,F K time,F K a.rows,F K a.y,F K a.Z,F K a.af,F K a.ag,F K a.ai,F K a.aj]] S λn w'=>n=q (F K 0)/\∃p s r,bB w' p w (C (E (u gf 0 J)) W.length Q) (W.set c (rD a W[c] s r)) k/\(∀d,p d≠0->N d≠0\/S.heap.size<=d)/\G (λd=>N d≠0) S w':=by
 have ah:=l λj (o:G No S j)=>(show Calls h 52 #[g (E (u w 0 J)),F K i] j λn w'=>n=q (F K (c:Nat))/\w'=j from by
  have:=(v.mod o (λ_ _ e=>e)).find i
  rw[Z] at this
  exact this)
 obtain⟨ae,aw⟩:=v.parts rfl (by omega)
 have T:=l λj (o:G No S j)=>(show Calls h 54 #[g (E ⟨gf,c* 10,J⟩),t #[F K a.rows,F K a.y,F K a.Z,F K a.af,F K a.ag,F K a.ai,F K a.aj]] j λn w'=>n=q (F K 0)/\
   w'.cell? ⟨gf,c* 10+9,J⟩=E (F K W[c].f.ep)/\(∀av,w'.frozen? (u gf av J)=false)/\gf<w'.heap.size/\∃p s r,bB (w'.setCell ⟨gf,c* 10+9,J⟩ (F K (K.wrap (W[c].f.ep+1)))) p w (C (E (u gf 0 J)) W.length Q) (W.set c (rD a W[c] s r)) k/\(∀d,p d≠0->N d≠0\/S.heap.size<=d)/\G (λd=>N d≠0) S (w'.setCell ⟨gf,c* 10+9,J⟩ (F K (K.wrap (W[c].f.ep+1)))) from by
  refine(Re (v.mod o (λ_ _ e=>e)) c hi a aa).mono ?_
  rintro n w' ⟨rfl,p,s,r,ab,ao,ap⟩
  have x:(W.set c (⟨⟨W[c].f.num,gG W[c].f.c a,gR (gG W[c].f.c a) W[c].f.Y,W[c].f.ep⟩,s,r⟩:aB)).length=W.length:=by rw[kH]
  obtain⟨aF,ag⟩:=ab.parts x (by omega)
  obtain⟨az,af,_⟩:=id ag.cur
  have Y:=ag.T c (by rw[x];exact hi) 9 (by omega)
  simp only[ph] at Y
  have ad:=ab
  rw[<-x] at ad
  have H:=ad.zC c (by rw[x];exact hi) (K.wrap (W[c].f.ep+1))
  simp only[ph,uL] at H
  rw[x] at H
  have ar:G (λd=>N d≠0) S w':=(o.mono (λ_ _ e=>e.elim)).trans ap
  refine⟨rfl,Y,af.aC,af.lt,p,s,r,H,λd am=>(ao d am).imp (λe=>e) (λe=>cC o.size e),ar.setCell (p:=⟨gf,c* 10+9,J⟩) (.inl ?_) _⟩
  show N gf≠0
  rw[ae];omega)
 rw[show K.wrap (W[c].f.ep+1)=wrap64 (W[c].f.ep+1) from(by unfold wrap64;exact lF _)] at T;have ai:=l λj (o:G No S j)=>(show j.cell? (u w 0 J)=E (C (E (u gf 0 J)) W.length Q) from fZ o (v.e.T 0) (λe=>e));have y:=l ((G.refl No S).alloc (m #[F K 9,F K i,F K A,F K ac,F K P,F K M,F K I,F K B,F K time,F K a.rows,F K a.y,F K a.Z,F K a.af,F K a.ag,F K a.ai,F K a.aj] 41))
 have R:=l (X.new S #[F K 9,F K i,F K A,F K ac,F K P,F K M,F K I,F K B,F K time,F K a.rows,F K a.y,F K a.Z,F K a.af,F K a.ag,F K a.ai,F K a.aj] 41);have f1:¬i<1:=by omega
 have f2:¬i>20:=by omega
 have aA:¬(c:Int)<0:=by omega
 have aC:(c:Int)<(W.length:Int):=by omega
 have aD:(0:Int)<=c:=by omega
 clear v Z ak aa ae aw;go_enter func27,ntmps27;go_wp2_with fail;refine((b ah) _ (b y)).mono ?_;rintro n aG ⟨rfl,rfl⟩;have ax:=(b ai) _ (b y);have aj:=(b R).T;have au:=(b R).lt;go_wp2_with fail;refine((b T) _ (b y)).mono ?_;rintro n aH ⟨rfl,ay,aI,aE,z⟩;have z:=l z;clear aj ax au;go_wp2;go_ret;exact⟨rfl,b z⟩
theorem Ri(a:aK)(d:a.kind=9)(x:aB)(c b:Nat):((rD a.c x c b).f.c.at (rD a.c x c b).f.ep,(rD a.c x c b).f.Y)=(iG (x.f.c.at x.f.ep) a,eD (x.f.c.at x.f.ep) x.f.Y a):=by
 unfold iG eD rD;rw[D d,D d];rfl
theorem Rj(e:bB S N w n W k)(y:dC W v)(a:aK)(af: -9223372036854775808<=a.time/\a.time<=9223372036854775807)(ae:0<=k/\k<=4611686018427387000)(Q:W=[]->n=C J 0 0):Calls h 27 #[g (E (u w 0 J)),t (aw a)] S λo w'=>o=q (F K (br k v a).1)/\gd S w' N w (br k v a).2.1 (br k v a).2.2:=by
 by_cases p:a.kind=9
 case neg=>exact Qi e y a af ae p Q
 have T:¬(a.kind<1\/a.kind>9):=by omega
 have Y:a.kind≠8:=by omega
 have X:¬a.kind=1:=by omega
 have R:=λaa (ad:G No S aa)=>(e.mod ad (λ_ _ am=>am)).find a.aF;by_cases b:1<=a.aF/\a.aF<=20
 case neg=>
  rw[FO T Y b];obtain⟨H,d,j,ac,x,s,r,l,time,i⟩:=a;exact(Ed w d j ac x s r l time i S H (by simp only at *;omega) _ b R).mono λo w' ⟨A,B⟩=>⟨A,gd.same e y Q B⟩
 obtain⟨f1,f2⟩|⟨c,hi,f1,f2,f3⟩:=y.find a.aF b
 .rw[FU T Y b f2,f X];rw[f1] at R;obtain⟨H,d,j,ac,x,s,r,l,time,i⟩:=a;exact(Ee w d j ac x s r l time i S H (by simp only at *;omega) (-1) b (by omega) X R).mono λo w' ⟨A,B⟩=>⟨A,gd.same e y Q B⟩
 .rw[FV T Y b f3,f X];simp only;rw[FM];have Z:bH W[c].f.c W[c].f.Y a k=if a.c.aY=true/\¬(a.c.rows* a.c.y<(cG W[c].f.Y:Int)) then 0 else 4:=by
   unfold bH;rw[D p]
  have ak:=λM I=>Ri a p W[c] M I;obtain⟨ap,ao,rfl⟩:=e.some (by omega);by_cases P:a.c.aY=true/\¬(a.c.rows* a.c.y<(cG W[c].f.Y:Int))
  .rw[Z,D P,D rfl];obtain⟨H,d,j,ac,x,s,r,l,time,i⟩:=a;simp only at p;subst p;refine(Rh e d j ac x s r l time i b c hi f1 P).mono ?_;rintro o w' ⟨rfl,ag,M,I,ah,ai,aj⟩;refine⟨rfl,⟨_,_,ag,ah,y.set d b c hi f1 (rD i W[c] M I) rfl _ (ak M I),ai,λo=>?_⟩,aj⟩;have ab:=(Qj _ _).1 o;rw[ab] at hi;exact absurd hi (fK _)
  .rw[Z,f P,f (by decide)];obtain⟨H,d,j,ac,x,s,r,l,time,i⟩:=a;simp only at p;subst p;exact(Rg e d j ac x s r l time i b c hi f1 P).mono λo w' ⟨A,B⟩=>⟨A,gd.same e y Q B⟩
theorem aO.kt{c:Nat->Prop}{I:aG}(b:aO S B w I)(p:∀a,B a->c a)(s:∀a,c a->a<S.heap.size):aO S c w I:=by
 obtain⟨o,d,e,i,j,k,l,n⟩:=b.ex;exact⟨b.e,b.keep,b.bM,b.may,b.told,⟨o,d,e,i,j,k,l,λa r=>p a (n a r)⟩,s⟩
theorem aO.kept{I:aG}{ai:Nat->Option Nat}{fl':Nat->Option (O×List z)}(r:aO S B w I)(P:I.kb=E Q)(T:G No S o)(b:dH o I.okp Q I.now ai I.fl I.K)(hd:jw o j I.okp Q ai k fl' R)(aB:R.tb=I.K.tb):∃ah,aO j (grow B S j) w { I with okp:=ah,now:=k,fl:=fl',K:=R }/\G B S j/\(∀a,S.heap.size<=a->a<o.heap.size->ah a=0)/\G (λa=>I.okp a≠0) o j:=by
 obtain⟨⟨d,aC,X,Y,aD⟩,i⟩:=hd;obtain⟨e,ar,l,Z,aa,au,ab,A⟩:=r.ex;have aE:=T.size;have aA:=i.size;have az:∀a,S.heap.size<=a->I.okp a=0:=λa b=>by
  by_cases c:I.okp a=0
  .exact c
  .have:=r.lt a (A a (by rw[l a c];omega));omega
 have af:G B S j:=(T.mono (λ_ _ y=>y.elim)).trans (i.mono (λa _ y=>A a (by rw[l a y];omega)));have s:=r.mod T (λ_ _ y=>y);refine⟨d,⟨?_,?_,?_,?_,?_,?_,?_⟩,af,λa ax ay=>by rw[Y a ay];exact az a ax,i⟩
 .have:dO { I with okp:=d,now:=k,fl:=fl',K:=R }=dO I:=by unfold dO;simp only[aB]
  rw[this];exact i.e s.e (λc=>by have:=l w c;omega)
 .refine⟨λap n=>?_,λN=>?_⟩
  .have n:I.kb=E ap:=n;rw[P] at n;injection n with n;subst n;obtain⟨_,p⟩:=s.keep.some Q P;have ae:=LX b.keep.e X.keep.e aD;refine⟨⟨aC,X⟩,⟨λx hi W=>by rw[ae x hi];exact p.un x hi W,λx hi aw W=>?_,λa b=>⟨bj (p.bg a b).1 aA,by show d a=0;rw[Y a (p.bg a b).1];exact(p.bg a b).2⟩⟩⟩;obtain⟨ag,av,aj,ak,am,ao⟩:=p.is x hi aw W
   exact⟨ag,av,by rw[ae x hi];exact aj,ak,jJ i am (λc=>c (p.bg ag (by omega)).2),ao⟩
  .have N:I.kb=J:=N;rw[P] at N;cases N
 .exact s.bM.mod i (λa b c=>by have:=Z a b;have:=l a c;omega)
 .exact λM H=>(s.may M H).mod i (λa b c=>by have:=ab M H a b;have:=l a c;omega)
 .exact s.told.mod i (λa b c=>by have:=aa a b;have:=l a c;omega)
 .have v:∀a,e a≠0->a<S.heap.size:=λa b=>r.lt a (A a b);refine⟨λa=>if a<S.heap.size then e a else if d a≠0 then 2 else 0,?_,λa b=>?_,λa b=>?_,λa b=>?_,λa b=>?_,λM H a b=>?_,λa b=>?_⟩
  .show(if w<S.heap.size then e w else if d w≠0 then 2 else 0)=1;rw[D (v w (by omega))];exact ar
  .have b:d a≠0:=b;show(if a<S.heap.size then e a else if d a≠0 then 2 else 0)=2;by_cases c:a<S.heap.size
   .rw[D c];rw[Y a (by omega)] at b;exact l a b
   .rw[f c,D b]
  .have:=Z a b;show(if a<S.heap.size then e a else if d a≠0 then 2 else 0)=3;rw[D (v a (by omega))];exact this
  .have:=aa a b;show(if a<S.heap.size then e a else if d a≠0 then 2 else 0)=4;rw[D (v a (by omega))];exact this
  .have:=au a b;show(if a<S.heap.size then e a else if d a≠0 then 2 else 0)=5;rw[D (v a (by omega))];exact this
  .have:=ab M H a b;show(if a<S.heap.size then e a else if d a≠0 then 2 else 0)=6;rw[D (v a (by omega))];exact this
  .have b:(if a<S.heap.size then e a else if d a≠0 then 2 else 0)≠0:=b;by_cases c:a<S.heap.size
   .rw[D c] at b;exact .inl (A a b)
   .rw[f c] at b;by_cases ad:d a≠0
    .exact .inr ⟨by omega,X.keep.bg a ad⟩
    .rw[f ad] at b;exact absurd rfl b
 .intro a b;obtain b|b:=b
  .exact bj (r.lt a b) af.size
  .exact b.2
theorem aO.turn{w':U}{I I':aG}{d:u'}(n:aO S B w I)(R:kO S d)(Q:∀a,d.ow a≠0->¬B a)(k:G (λa=>a=w) S w')(aj:X w' w (dO I') 55)(ah:I'.kb=I.kb/\I'.okp=I.okp/\I'.om=I.om/\I'.now=I.now/\I'.fl=I.fl/\I'.K=I.K/\I'.tl=I.tl)(ai:I'.owt=I.owt/\I'.tob=I.tob/\I'.vs=I.vs/\I'.ns=I.ns/\I'.bs=I.bs)(p:(I'.W=d/\I'.mb=I.mb)\/(I'.W=I.W/\I'.mb=E d)):
  aO w' (λa=>B a\/d.ow a≠0) w I':=by
 obtain⟨i,A,H,s,N,O,P,v⟩:=n.ex;obtain⟨W,x,y,Y,Z,aa,ab⟩:=ah;obtain⟨z,ad,ae,af,ag⟩:=ai;have o:∀a r,i a=r->r≠0->r≠1->¬a=w:=λa r c ao ap j=>by rw[j,A] at c;omega
 have ak:B w:=v w (by omega);have T:kO w' d:=R.mod k (λa b c=>by subst c;exact Q a b ak);have l:∀a,i a≠0->d.ow a=0:=λa b=>by
  by_cases c:d.ow a=0
  .exact c
  .exact absurd (v a b) (Q a c)
 refine⟨aj,?_,?_,?_,?_,?_,?_⟩
 .rw[W,x,y,Y,Z,aa,ab];exact n.keep.mod k (λa b=>o a _ (H a b) (by omega) (by omega)) (λa b=>o a _ (O a b) (by omega) (by omega))
 .obtain⟨c,_⟩|⟨c,_⟩:=p
  .rw[c];exact T
  .rw[c];exact n.bM.mod k (λa b=>o a _ (s a b) (by omega) (by omega))
 .intro M e;obtain⟨_,c⟩|⟨_,c⟩:=p
  .rw[c] at e;exact(n.may M e).mod k (λa b=>o a _ (P M e a b) (by omega) (by omega))
  .rw[c] at e;injection e with e;rw[<-e];exact T
 .rw[z,ad,ae,af,ag];exact n.told.mod k (λa b=>o a _ (N a b) (by omega) (by omega))
 .refine⟨λa=>if d.ow a≠0 then(if I'.W.ow a≠0 then 3 else 6) else i a,?_,λa b=>?_,λa b=>?_,λa b=>?_,λa b=>?_,λM e a b=>?_,λa b=>?_⟩
  .show(if d.ow w≠0 then(if I'.W.ow w≠0 then 3 else 6) else i w)=1;rw[f (by simpa using l w (by omega))];exact A
  .rw[x] at b;have:=H a b;show(if d.ow a≠0 then(if I'.W.ow a≠0 then 3 else 6) else i a)=2;rw[f (by simpa using l a (by omega))];exact this
  .show(if d.ow a≠0 then(if I'.W.ow a≠0 then 3 else 6) else i a)=3;by_cases c:d.ow a≠0
   .rw[D c,D b]
   .rw[f c];obtain⟨j,_⟩|⟨j,_⟩:=p
    .rw[j] at b;exact absurd b c
    .rw[j] at b;exact s a b
  .rw[z] at b;have:=N a b;show(if d.ow a≠0 then(if I'.W.ow a≠0 then 3 else 6) else i a)=4;rw[f (by simpa using l a (by omega))];exact this
  .rw[y] at b;have:=O a b;show(if d.ow a≠0 then(if I'.W.ow a≠0 then 3 else 6) else i a)=5;rw[f (by simpa using l a (by omega))];exact this
  .show(if d.ow a≠0 then(if I'.W.ow a≠0 then 3 else 6) else i a)=6;obtain⟨_,j⟩|⟨am,j⟩:=p
   .rw[j] at e;have:=P M e a b;rw[f (by simpa using l a (by omega))];exact this
   .rw[j] at e;injection e with e;rw[<-e] at b;rw[D b,am];have:I.W.ow a=0:=by
     by_cases c:I.W.ow a=0
     .exact c
     .have:=l a (by rw[s a c];omega);exact absurd this b
    rw[f (by simpa using this)]
  .have b:(if d.ow a≠0 then(if I'.W.ow a≠0 then 3 else 6) else i a)≠0:=b;by_cases c:d.ow a≠0
   .exact .inr c
   .rw[f c] at b;exact .inl (v a b)
 .intro a b;obtain b|b:=b
  .exact bj (n.lt a b) k.size
  .exact bj (R.bM.bg a b) k.size
def ez(I:aG)(a:aK):Int×bU:=eg I.K (a9 I.now I.fl) (aT I.now [aP I.now a])
theorem Gt{a b:List Int}(c:R.live=false):eg R a b=(17,R):=by
 unfold eg kd iW;simp[c]
theorem Rk(b:bU)(a c:List Int):(eg b a c).2.tb=b.tb:=by
 unfold eg kd iW;simp only
 repeat' split
 all_goals rfl
theorem Gu{a:List Int}(b:R.live=true):(iW R a).1=0\/(iW R a).1=15\/(iW R a).1=16:=by
 unfold iW iq;rw[f (by simp[b])];simp only
 repeat' split
 all_goals simp
theorem Rm{a:List Int}(b:R.live=true):((kd R a).1=0/\(kd R a).2.live=true)\/(kd R a).1=15\/(kd R a).1=16:=by
 unfold kd;rw[f (by simp[b])];simp only
 repeat' split
 all_goals simp[b]
theorem Rn{a c:List Int}(d:R.live=true):(eg R a c).1=0\/(eg R a c).1=15\/(eg R a c).1=16:=by
 unfold eg;by_cases e:R.torn=true
 .rw[D e];obtain⟨b,i⟩|b|b:=Rm (a:=a) d
  .rw[D b];exact Gu i
  .rw[f (by omega)];exact .inr (.inl b)
  .rw[f (by omega)];exact .inr (.inr b)
 .rw[f e];exact Gu d
def tq(I:aG)(a:aK)(I':aG):Prop:=
 ((br I.now I.fl a).1≠0/\∃b,I'={ I with okp:=b })\/
 ((br I.now I.fl a).1=0/\I.sh=true/\∃b,I'={ I with okp:=b })\/
 ((br I.now I.fl a).1=0/\I.sh=false/\(ez I a).1=0/\∃b c,c.now=(br I.now I.fl a).2.1/\c.fl=(br I.now I.fl a).2.2/\
  I'={ I with okp:=b,W:=c,now:=(br I.now I.fl a).2.1,fl:=(br I.now I.fl a).2.2,K:=(ez I a).2,ch:=I.ch+1,most:=max I.most (cO c.xs) })\/
 ((br I.now I.fl a).1=0/\I.sh=false/\(ez I a).1=15/\∃b,I'={ I with okp:=b,K:=(ez I a).2 })\/
 ((br I.now I.fl a).1=0/\I.sh=false/\(ez I a).1=16/\∃b c,c.now=(br I.now I.fl a).2.1/\c.fl=(br I.now I.fl a).2.2/\
  I'={ I with okp:=b,K:=(ez I a).2,sh:=true,mb:=E c,ch:=I.ch+1 })
theorem xL{S:Nat->Prop}{tb:Nat}{c:aH}{e:Array V}(d:X o w e 55)(j:e[0]? =E (g (E (u tb 0 J))))(p:aS o S tb c)(n:c.fuse=0):Calls h 22 #[g (E (u w 0 J))] o λi w'=>i=q (L true)/\aS w' S tb c/\G (· =tb) o w':=by
 have a:=yZ p 3 (by omega);have y:gS c 3=(false,c):=by unfold gS;rw[D n]
 rw[y] at a;have a:=l a;have x:=d.T 0;rw[j] at x;have z:=d.lt;clear d p j n;go_enter func22,ntmps22;go_wp2_with fail;refine(b a).mono ?_;rintro i A ⟨rfl,k,r⟩;have s:=l k;have v:=l r;clear k r a;go_wp2;go_ret;exact⟨rfl,b s,b v⟩
structure va (w wx:U) (O:Nat->Prop) (ob qj:Nat) (I1:aG) (cs:Array V):Prop where
 one:aO wx (grow O w wx) ob I1
 mod:G O w wx
 box:X wx qj cs 41
 qj:I1.okp qj=0/\w.heap.size<=qj
theorem va.still{e:aG}{i:Array V}(b:va S o B w Q e i)(c:G No o j):va S j B w Q e i:=
 ⟨(b.one.mod c (λ_ _ d=>d)).kt (λk a=>a.imp id (λl=>⟨l.1,bj l.2 c.size⟩)) (λk a=>by
  obtain a|a:=a
  .exact bj (b.one.lt k (.inl a)) c.size
  .exact a.2),b.mod.trans (c.mono (λ_ _ d=>d.elim)),c.e b.box (λd=>d),b.qj⟩
theorem aO.tu{w':U}{I:aG}{y:aH}(e:aO S B w I)(i:aS w' (λa=>I.okp a=30) I.K.tb y)(c:G (λa=>I.okp a=30) S w'):aO w' B w { I with K:={ I.K with T:=y } }:=by
 obtain⟨Q,z,A,H,N,O,P,aa⟩:=e.ex;have j:∀a l,Q a=l->l≠2->¬I.okp a=30:=λa l ap ar d=>by have:=A a (by omega);omega
 refine⟨c.e e.e (j w _ z (by omega)),⟨λn ah=>?_,λp=>?_⟩,e.bM.mod c (λa b=>j a _ (H a b) (by omega)),λM R=>(e.may M R).mod c (λa b=>j a _ (P M R a b) (by omega)),e.told.mod c (λa b=>j a _ (N a b) (by omega)),⟨Q,z,A,H,N,O,P,aa⟩,λa b=>bj (e.lt a b) c.size⟩
 .obtain⟨⟨ao,d⟩,o⟩:=e.keep.some n ah;have T:¬I.okp n=30:=by rw[d.keep.bw];omega
  refine⟨⟨ao,⟨⟨c.e d.keep.e T,d.keep.bw,λa b=>bj (d.keep.bg a b) c.size,d.keep.gone,λl am ak p ai=>?_⟩,d.ptr,d.file,d.torn,i⟩⟩,?_⟩
  .obtain⟨b',ad,ae,af⟩:=d.keep.here l am ak p ai;exact⟨b',ad,ae,af.mod c (λa b au=>by omega)⟩
  .have k:∀v x,S.cell? (u n v J)=E x->w'.cell? (u n v J)=E x:=λv x k=>by
    have aj:=jk S _ k;rw[oB (w:=S) (c.block _ aj T)];exact k
   exact⟨λr hi i=>k _ _ (o.un r hi i),λr hi ag i=>by
    obtain⟨s,ab,W,X,Y,Z⟩:=o.is r hi ag i
    exact⟨s,ab,k _ _ W,X,jJ c Y (j s _ (O s (by omega)) (by omega)),Z⟩,λa b=>⟨bj (o.bg a b).1 c.size,(o.bg a b).2⟩⟩
 .exact⟨i,λa b=>bj ((e.keep.none p).2 a b) c.size⟩
theorem Ro(I:aG)(e:Nat->Nat)(d:Int)(b:Nat->Option (O×List z))(a:bU)(c:a.tb=I.K.tb):dO { I with okp:=e,now:=d,fl:=b,K:=a }=dO I:=by
 unfold dO;simp only[c]
theorem Rp(I:aG)(a:aK):(fT I.now I.fl I.K a).2.2.2.tb=I.K.tb:=by
 unfold fT
 repeat' split
 all_goals first|rfl|exact Rk _ _ _
theorem Rq(I:aG)(d:aK){x e p:Int}{fl':Nat->Option (O×List z)}(a:fT I.now I.fl I.K d=(x,k,v,R))(r:br I.now I.fl d=(e,p,fl')):(e≠0->x=e/\k=I.now/\v=I.fl/\R=I.K)/\(e=0->(ez I d).1=x/\(ez I d).2=R/\(x=0->k=p/\v=fl')/\(x≠0->k=I.now/\v=I.fl)):=by
 unfold fT at a;rw[r] at a;unfold ez;by_cases o:e=0
 .refine⟨λb=>absurd o b,λ_=>?_⟩;rw[f (by simpa using o)] at a;by_cases n:(eg I.K (a9 I.now I.fl) (aT I.now [aP I.now d])).1=0
  .rw[D n] at a;simp only[qP] at a;obtain⟨c,i,j,l⟩:=a;exact⟨by rw[n,c],l,λ_=>⟨i.symm,j.symm⟩,λb=>absurd c.symm b⟩
  .rw[f n] at a;simp only[qP] at a;obtain⟨c,i,j,l⟩:=a;exact⟨c,l,λb=>absurd (c.trans b) n,λ_=>⟨i.symm,j.symm⟩⟩
 .refine⟨λ_=>?_,λb=>absurd b o⟩;rw[D o] at a;simp only[qP] at a;obtain⟨c,i,j,l⟩:=a;exact⟨c.symm,i.symm,j.symm,l.symm⟩
theorem AB{I:aG}(au:aO S B w I)(aN:I.kb=E Q)(a:aK)(cj: -9223372036854775808<=a.time/\a.time<=9223372036854775807)(cf:0<=I.now/\I.now<=4611686018427387000)(cR:0<=I.most/\I.most<=1000000)(cL:0<=I.ch/\I.ch<=1099511627776)(v:I.sh= !I.K.live)(b7:I.W.now=I.now/\I.W.fl=I.fl)
  (ba:∀Z aS,dH Z I.okp Q I.now aS I.fl I.K->Calls h 25 #[g (E (u Q 0 J)),t (aw a)] Z λe w'=>e=q (F K (fT I.now I.fl I.K a).1)/\jw Z w' I.okp Q aS (fT I.now I.fl I.K a).2.1 (fT I.now I.fl I.K a).2.2.1 (fT I.now I.fl I.K a).2.2.2)(bZ:(br I.now I.fl a).1=0->(ez I a).1=15->¬(2* I.most+60* (I.ch+1)+180<=(ez I a).2.T.ay))(b0:(br I.now I.fl a).1=0->(ez I a).1=16->(ez I a).2.T.fuse=0):
  Calls h 15 #[g (E (u w 0 J)),t (aw a)] S λe w'=>e=q (L true)/\jL S w' B w (tq I a):=by
 obtain⟨⟨bk,x,s,j⟩,a4⟩:∃cB,fT I.now I.fl I.K a=cB:=⟨_,rfl⟩;obtain⟨⟨b3,aQ,aJ⟩,a3⟩:∃cv,br I.now I.fl a=cv:=⟨_,rfl⟩;have bb:=l (Rq I a a4 a3);have bu:j.tb=I.K.tb:=by
  have b6:=Rp I a;rw[a4] at b6;exact b6
 have bS:=l λ(Z:U) (co:Nat->Nat) (bz:Nat) (cu:V) (bA:List aB) (cV:bB Z co bz cu bA I.now) (cT:dC bA I.fl) (cU:bA=[]->cu=C J 0 0)=>(show Calls h 27 #[g (E (u bz 0 J)),t (aw a)] Z λe w'=>e=q (F K b3)/\gd Z w' co bz aQ aJ from by
  have:=Rj cV cT a cj cf cU
  rw[a3] at this
  exact this)
 have H:=l a3;simp only[a4] at ba;clear a4 a3;have bh:=l ((G.refl No S).alloc (m (aw a) 41));have aA:=l (X.new S (aw a) 41);have aT:=l (au.mod (b bh) (λ_ _ T=>T));obtain⟨⟨aS,bs⟩,_⟩:=(b aT).keep.some Q aN;have bM:=l bs;have bE:=l (ba _ aS (bs.bC ((G.refl No _).drew)))
 have bH:=l λaz (hd:jw (S.alloc (m (aw a) 41)).drew az I.okp Q aS x s j)=>(show ∃i,va S az B w S.heap.size { I with okp:=i,now:=x,fl:=s,K:=j } (aw a) from by
  obtain⟨i,c0,c1,c2,c3⟩:=au.kept aN (b bh).drew ((b bM).bC ((G.refl No _).drew)) hd bu
  have av:S.heap.size<(S.alloc (m (aw a) 41)).drew.heap.size:=(b aA).lt
  refine⟨i,c0,c1,c3.e (b aA).drew (λe=>?_),c2 _ (cz _) av,cz _⟩
  obtain⟨aI,ag,aH,_,_,_,_,M⟩:=au.ex
  have:=au.lt _ (M _ (by rw[aH _ e];omega))
  omega)
 have bO:=l λi cZ cJ (bX:bU) (e:bX.tb=I.K.tb)=>Ro I i cZ cJ bX e
 have aX:=l (show I.sh=true->(ez I a).1=17/\(ez I a).2=I.K from λe=>by
  rw[v] at e
  have:I.K.live=false:=by simpa using e
  unfold ez
  rw[Gt this]
  exact⟨rfl,rfl⟩)
 have aW:=l (show I.sh=false->(ez I a).1=0\/(ez I a).1=15\/(ez I a).1=16 from λe=>by
  rw[v] at e
  exact Rn (by simpa using e))
 have aE:=l bu;have aC:=l bZ;have aD:=l b0;have W:=l au;have aF:=l b7;clear au cj cf bs ba bZ b0 bu v b7;unfold aw at *;go_enter func15,ntmps15;go_upto_region 1 with fail;generalize bv:S.alloc (m #[F K a.kind,F K a.aF,F K a.aA,F K a.ac,F K a.dd,F K a.de,F K a.bJ,F K a.bF,F K a.time,F K a.c.rows,F K a.c.y,F K a.c.Z,F K a.c.af,F K a.c.ag,F K a.c.ai,F K a.c.aj] 41)=c6 at *
 have ag:c6.cell? (u w 1 J)=E (g (E (u Q 0 J))):=by
  have:=(b aT).e.T 1;rw[show(dO I)[1]? =E (gL I.kb) from rfl,aN] at this;exact this
 have cX:=(b aT).e.lt;have cE:=(b aA).T;have cG:=(b aA).lt;generalize b8:S.heap.size=cD at *;have cw:=l b8;clear bv b8;go_cut [5] (λbw az=>bw=F K bk/\Hid (∃i,va S az B w cD { I with okp:=i,now:=x,fl:=s,K:=j } #[F K a.kind,F K a.aF,F K a.aA,F K a.ac,F K a.dd,F K a.de,F K a.bJ,F K a.bF,F K a.time,F K a.c.rows,F K a.c.y,F K a.c.Z,F K a.c.af,F K a.c.ag,F K a.c.ai,F K a.c.aj]))
 case first=>
  go_region_law (refine fP rfl 25 _ _ rfl #[g (E (u Q 0 J)),t #[F K a.kind,F K a.aF,F K a.aA,F K a.ac,F K a.dd,F K a.de,F K a.bJ,F K a.bF,F K a.time,F K a.c.rows,F K a.c.y,F K a.c.Z,F K a.c.af,F K a.c.ag,F K a.c.ai,F K a.c.aj]] (by simp[aM,bN]) (λZ=>by kernel_rfl) (F K bk) _ (b bE) ?_;intro dh cM)
  all_goals go_wp2
  all_goals go_meet
  all_goals exact⟨rfl,(b bH) _ cM⟩
 case rest=>
  obtain⟨rfl,aL⟩:=hcut;obtain⟨i,aL⟩:=b aL;have Y:=l aL;have aY:=l (show S.heap.size<=wc.heap.size from aL.mod.size)
  apply_assumption
  clear bE bH aT aA bh ag cX cE cG aL bM;have a5:=(b Y).one.e;rw[(b bO) i x s j (b aE)] at a5;have aH:wc.cell? (u w 2 J)=E (g (E (u I.W.wb 0 J))):=a5.T 2;have cY:=a5.lt;have bC:=l (Q8 (b Y).one.bM.bM (b Y).one.bM.tidy);clear a5;go_wp2_with fail;refine(b bC).mono ?_;rintro e di ⟨rfl,dg,dj,c',ak,ck⟩;have bg:=l ((b Y).still ak.mod)
  have bT:=l ((b bS) _ _ _ _ _ (by have:=ak.bM;rw[(b aF).1] at this;exact this) (by have:=(b Y).one.bM.same.congr ak.len ak.same;rw[(b aF).2] at this;exact this) ck);have bc:=l ak.new;have bi:=l ak.mod;have cF:=(b bg).box.T;have cH:=(b bg).box.lt;clear bC ak ck aH cY bS;generalize ca:wc.heap.size=n at *;have A:=l ca;clear ca;go_wp2_with fail;refine(b bT).mono ?_;rintro e p ⟨rfl,cW⟩
  obtain⟨⟨ad,O,z,cm,ci,cg,cl⟩,ce⟩:=cW
  have aZ:G No wc p:=(b bi).trans' ce (λc d cP=>by
   have:=(b bc) c d
   have:=b A
   omega)
  have a2:=l ((b Y).one.mod aZ (λ_ _ T=>T));have bY:=l ((b Y).mod.trans (aZ.mono (λ_ _ T=>T.elim)))
  have ae:=l (show ∀c,z c≠0->n<=c from λc d=>by
   obtain e|e:=cg c d
   .have:=(b bc) c e
    have:=b A
    omega
   .have:=(b bi).size
    have:=b A
    omega)
  have b2:=l (show kO p ⟨n,z,ad,O,aQ,aJ⟩ from⟨cm,ci,cl⟩);have ab:=(b a2).e;rw[(b bO) i x s j (b aE)] at ab;have bL:=l ab;obtain⟨⟨oe,cc⟩,_⟩:=(b a2).keep.some Q aN;have cS:=cc.tape.ay;obtain⟨cI,bt,ch⟩:=cS;rw[b aE] at bt;have bP:=l λax=>vM I.K.tb j.T.ay (p.drewN ax) cI (bt.drewN ax) ch;have bI:=l λax=>zG I.most I.ch j.T.ay cR cL (p.drewN ax)
  have t0:p.cell? (u w 0 J)=E (g (E (u I.K.tb 0 J))):=ab.T 0;have t5:p.cell? (u w 5 J)=E (F K I.most):=ab.T 5;have t6:p.cell? (u w 6 J)=E (F K I.ch):=ab.T 6;have t7:p.cell? (u w 7 J)=E (L I.sh):=ab.T 7;have c4:=ab.lt;have bQ:=l aZ.size;clear ce cm ci cg cl aZ bg bT bc bi cF cH Y ab cc bt ch;go_upto_region 4 with fail
  go_cut [8] (λbw az=>bw=L (decide (2* I.most+60* (I.ch+1)+180<=j.T.ay))/\∃ax,az=p.drewN ax)
  case first=>
   go_quiet (first|(go_at_call 28;exact Calls.quiet_of_same ((b bP) _))|(go_at_call 21;exact Calls.quiet_of_same ((b bI) _)));go_wp2;go_meet;exact⟨rfl,_,rfl⟩
  case rest=>
   obtain⟨rfl,ay,rfl⟩:=hcut
   apply_assumption
   clear bP bI;have y:=l ((b a2).mod ((G.refl No p).drewN ay) (λ_ _ T=>T));have o:=l ((b bY).drewN ay);have aa:=l ((b b2).mod ((G.refl No p).drewN ay) (λ_ _ T=>T));have r:=l ((b bL).drewN ay);have bR:=l (show wc.heap.size<=(p.drewN ay).heap.size from b bQ);clear t0 t5 t6 t7 c4 a2 bY b2 bL bQ;generalize p.drewN ay=k at *;obtain⟨bl,bm⟩:=b bb;by_cases av:b3=0
   case neg=>
    obtain⟨rfl,rfl,rfl,rfl⟩:=bl av;have c9:(bk !=0)=true:=by simpa using av
    have P:=l (show jL S k B w (tq I a) from⟨⟨_,(b y).kt (λc d=>d.imp id (λN=>⟨N.1,by have:=b bR;omega⟩)) (λc d=>by
     obtain d|d:=d
     .exact bj ((b W).lt c d) (b o).size
     .exact d.2),.inl ⟨by rw[b H];exact av,i,rfl⟩⟩,b o⟩)
    clear bl bm bb H aF aX aW aC aD ae A y o aa r;go_wp2;go_ret;exact⟨rfl,b P⟩
   subst av;obtain⟨cp,cq,cr,cs⟩:=bm rfl;have ap:=l (show(br I.now I.fl a).1=0 by rw[b H]);have af:=l cp;have ar:=l cq;have cy:=l cr;have bd:=l cs;clear bl bm cp cq cr cs bb;have aU:=l (show ∀c,grow B S wc c->grow B S k c from λc d=>d.imp id (λN=>⟨N.1,by have:=b bR;omega⟩))
   have bJ:=l (show ∀c,grow B S k c->c<k.heap.size from λc d=>by
    obtain d|d:=d
    .exact bj ((b W).lt c d) (b o).size
    .exact d.2)
   have ct:k.cell? (u w 7 J)=E (L I.sh):=(b r).T 7;have df:=(b r).lt;have de:=(b r).aC
   cases v:I.sh with
   |true=>
    obtain⟨b4,b5⟩:=(b aX) v;rw[b af] at b4;subst b4;rw[b ar] at b5;obtain⟨ah,ai⟩:=(b bd) (by omega);subst b5 ah ai;have P:=l (show jL S k B w (tq I a) from⟨⟨_,(b y).kt (b aU) (b bJ),.inr (.inl ⟨b ap,v,i,rfl⟩)⟩,b o⟩);rw[v] at ct;clear H aF aX aW aC aD ae A y o aa r v;go_wp2;go_ret;exact⟨rfl,b P⟩
   |false=>
    rw[v] at ct;have bf:=l v;have b9:=(b aW) v;rw[b af] at b9;clear aX aW v;obtain e|e|e:=b9
    .subst e;obtain⟨ah,ai⟩:=(b cy) rfl;subst ah ai;have dc:k.cell? (u w 2 J)=E (g (E (u I.W.wb 0 J))):=(b r).T 2;have c5:k.cell? (u w 6 J)=E (F K I.ch):=(b r).T 6;have bv:K.wrap (I.ch+1)=I.ch+1:=gp _ (by omega) (by omega);have ao:G (λc=>c=w) k ((k.setCell (u w 2 J) (g (E (u n 0 J)))).setCell (u w 6 J) (F K (I.ch+1))):=((G.refl _ k).at 2 _).at 6 _
     have aP:((dO I).setIfInBounds 2 (g (E (u n 0 J)))).setIfInBounds 6 (F K (I.ch+1))=dO { I with okp:=i,W:=⟨n,z,ad,O,x,s⟩,now:=x,fl:=s,K:=j,ch:=I.ch+1 }:=by
      unfold dO;rw[<-b aE];rfl
     have aj:=((b r).set 2 (g (E (u n 0 J)))).set 6 (F K (I.ch+1));rw[aP] at aj
     have a1:=l (show ∀c,z c≠0->¬grow B S wc c from λc d R=>by
      have bn:=(b ae) c d
      have bo:=b A
      have:=(b y).ex
      obtain⟨aI,ag,_,_,_,_,_,M⟩:=this
      obtain R|R:=R
      .have:=(b W).lt c R
       have:=(b o).size
       have c7:=b cw
       have bp:=b aY
       omega
      .omega)
     have bV:=l (Gr (I:={ I with okp:=i,W:=⟨n,z,ad,O,x,s⟩,now:=x,fl:=s,K:=j,ch:=I.ch+1 }) aj ((b aa).mod ao (λc d e=>by
      obtain⟨aI,ag,_,_,_,_,_,M⟩:=(b y).ex
      exact(b a1) c d (by rw[e];exact M w (by omega)))) (cO O) rfl)
     have a0:=l ao;clear ao aj aP;go_wp2_with fail;refine(b bV).mono ?_;rintro e a9 ⟨rfl,cb,cd⟩;have a7:=(b a0).trans cd;have aR:=(b y).turn (I':={ I with okp:=i,W:=⟨n,z,ad,O,x,s⟩,now:=x,fl:=s,K:=j,ch:=I.ch+1,most:=max I.most (cO O) }) (b aa) (b a1) a7 cb ⟨rfl,rfl,rfl,rfl,rfl,rfl,rfl⟩ ⟨rfl,rfl,rfl,rfl,rfl⟩ (.inl ⟨rfl,rfl⟩);have bx:=a7.size
     have P:=l (show jL S a9 B w (tq I a) from⟨⟨_,aR.kt (λc d=>by
      obtain d|d:=d
      .exact((b aU) c d).imp id (λN=>⟨N.1,by omega⟩)
      .have bn:=(b ae) c d
       have bo:=b A
       have bp:=b aY
       have cK:=(b aa).bM.bg c d
       exact .inr ⟨by omega,by omega⟩) (λc d=>by
      obtain d|d:=d
      .exact bj ((b W).lt c d) (cC (b o).size bx)
      .exact d.2),.inr (.inr (.inl ⟨b ap,b bf,by rw[b af],i,⟨n,z,ad,O,x,s⟩,by rw[b H],by rw[b H],by rw[b H,b ar]⟩))⟩,(b o).trans (a7.mono (λc _ e=>by
      obtain⟨aI,ag,_,_,_,_,_,M⟩:=(b W).ex
      rw[e];exact M w (by omega)))⟩)
     clear cb cd a7 aR bV;go_wp2;go_ret;exact⟨rfl,b P⟩
    .subst e;obtain⟨ah,ai⟩:=(b bd) (by omega);subst ah ai;have am:=(b aC) (b ap) (b af);rw[b ar] at am;have c8:decide (2* I.most+60* (I.ch+1)+180<=j.T.ay)=false:=by simpa using am
     have P:=l (show jL S k B w (tq I a) from⟨⟨_,(b y).kt (b aU) (b bJ),.inr (.inr (.inr (.inl ⟨b ap,b bf,b af,i,by rw[b ar]⟩)))⟩,b o⟩);clear H aF aC aD ae A y o aa r am;go_wp2;go_ret;exact⟨rfl,b P⟩
    .subst e;obtain⟨ah,ai⟩:=(b bd) (by omega);subst ah ai;have am:=(b aD) (b ap) (b af);rw[b ar] at am;have cx:=l am;clear am aC aD;have dd:k.cell? (u w 3 J)=E (gL (I.mb.map (·.wb))):=(b r).T 3;have c5:k.cell? (u w 6 J)=E (F K I.ch):=(b r).T 6;have bv:K.wrap (I.ch+1)=I.ch+1:=gp _ (by omega) (by omega)
     have ao:G (λc=>c=w) k (((k.setCell (u w 7 J) (L true)).setCell (u w 3 J) (g (E (u n 0 J)))).setCell (u w 6 J) (F K (I.ch+1))):=(((G.refl _ k).at 7 _).at 3 _).at 6 _;have aP:(((dO I).setIfInBounds 7 (L true)).setIfInBounds 3 (g (E (u n 0 J)))).setIfInBounds 6 (F K (I.ch+1))=dO { I with okp:=i,K:=j,sh:=true,mb:=E ⟨n,z,ad,O,aQ,aJ⟩,ch:=I.ch+1 }:=by
      unfold dO;rw[<-b aE];rfl
     have aj:=(((b r).set 7 (L true)).set 3 (g (E (u n 0 J)))).set 6 (F K (I.ch+1));rw[aP] at aj
     have a1:=l (show ∀c,z c≠0->¬grow B S wc c from λc d R=>by
      have bn:=(b ae) c d
      have bo:=b A
      obtain R|R:=R
      .have:=(b W).lt c R
       have bp:=b aY
       omega
      .omega)
     have a8:=(b y).turn (I':={ I with okp:=i,K:=j,sh:=true,mb:=E ⟨n,z,ad,O,aQ,aJ⟩,ch:=I.ch+1 }) (b aa) (b a1) ao aj ⟨rfl,rfl,rfl,rfl,rfl,rfl,rfl⟩ ⟨rfl,rfl,rfl,rfl,rfl⟩ (.inr ⟨rfl,rfl⟩);obtain⟨⟨db,bq⟩,_⟩:=a8.keep.some Q aN;have bF:=l (xL (tb:=j.tb) a8.e rfl bq.tape (b cx));have cA:=l a8;have a0:=l ao;have b1:=l (show i j.tb=30 from bq.tape.dq);clear ao aj aP a8 bq;go_wp2_with fail
     refine(b bF).mono ?_;rintro e a9 ⟨rfl,t10,a6⟩;have aR:=(b cA).tu t10 (a6.mono (λc _ (e:c=j.tb)=>by show i c=30;rw[e];exact b b1));have bx:=cC (b a0).size a6.size
     have cn:G B S a9:=((b o).trans ((b a0).mono (λc _ e=>by
      obtain⟨aI,ag,_,_,_,_,_,M⟩:=(b W).ex
      rw[e];exact M w (by omega)))).trans' a6 (λc (e:c=j.tb) cP=>by
       subst e
       have:=(b y).ex
       obtain⟨aI,ag,aH,_,_,_,_,M⟩:=this
       have:=M j.tb (by rw[aH j.tb (by show i j.tb≠0;rw[b b1];omega)];omega)
       obtain N|N:=this
       .exact N
       .omega)
     have P:=l (show jL S a9 B w (tq I a) from⟨⟨_,aR.kt (λc d=>by
      obtain d|d:=d
      .exact((b aU) c d).imp id (λN=>⟨N.1,by omega⟩)
      .have bn:=(b ae) c d
       have bo:=b A
       have bp:=b aY
       have cK:=(b aa).bM.bg c d
       exact .inr ⟨by omega,by omega⟩) (λc d=>by
      obtain d|d:=d
      .exact bj ((b W).lt c d) (cC (b o).size bx)
      .exact d.2),.inr (.inr (.inr (.inr ⟨b ap,b bf,b af,i,⟨n,z,ad,O,aQ,aJ⟩,by rw[b H],by rw[b H],by rw[b ar]⟩)))⟩,cn⟩)
     clear t10 a6 aR bF cn;go_wp2;go_ret;exact⟨rfl,b P⟩
theorem dC.AD(c:dC W v)(a:Int)(e:¬(1<=a/\a<=20)):dF W a= -1:=by
 obtain b|⟨i,hi,b,d⟩:=xk W a
 .exact b
 .have:=c.iw _ (eK hi);omega
theorem Gv(c:bB S N w n W k)(i:dC W v)(b a:Int):Calls h 34 #[g (E (u w 0 J)),F K b,F K a] S λl w'=>l=q (aq #[F K (nU v b a).1,F K (nU v b a).2])/\G No S w':=by
 unfold nU;by_cases d:1<=b/\b<=20
 case neg=>
  rw[D d];exact Ec c b a (i.AD b d)
 rw[f (by omega)];obtain⟨f1,f2⟩|⟨j,hi,f1,f2,f3⟩:=i.find b d
 .rw[f2];exact Ec c b a f1
 .rw[f3];simp only;by_cases e:0<=a/\a<4
  .rw[f (by omega),FK];obtain⟨p,o,rfl⟩:=c.some (by omega);have:=Oa c b j hi f1 a.toNat (by omega);rw[show((a.toNat:Nat):Int)=a by omega] at this;exact this
  .rw[D e];exact N4 c b a j f1 e
theorem Gw(b:bB S N w n W k)(d:dC W v)(a:Int):Calls h 36 #[g (E (u w 0 J)),F K a] S λe w'=>e=q (aq #[t (iY v a).1,F K (iY v a).2])/\G No S w':=by
 unfold iY;by_cases c:1<=a/\a<=20
 case neg=>
  rw[D c];exact Et b a (d.AD a c)
 rw[f (by omega)];obtain⟨f1,f2⟩|⟨i,hi,f1,f2,f3⟩:=d.find a c
 .rw[f2];exact Et b a f1
 .rw[f3];obtain⟨l,j,rfl⟩:=b.some (by omega);exact Oy b a i hi f1
theorem AE(c:Nat->Option (O×List z))(d:Int):∃a b e:Nat->Int,(iY c d).1=dI a b e:=by
 unfold iY;split
 .exact⟨λ_=>0,λ_=>0,λ_=>0,rfl⟩
 .split
  .exact⟨λ_=>0,λ_=>0,λ_=>0,rfl⟩
  .exact⟨_,_,_,(Ou _ _).symm⟩
theorem Rr(a b c:Nat->Int)(d:X S w dB 91):X ((((((((((((S.setCell (u w 0 J) (F K (a 0))).setCell (u w 1 J) (F K (a 1))).setCell (u w 2 J) (F K (a 2))).setCell (u w 3 J) (F K (a 3))).setCell (u w 4 J) (F K (b 0))).setCell (u w 5 J) (F K (b 1))).setCell (u w 6 J) (F K (b 2))).setCell (u w 7 J) (F K (b 3))).setCell (u w 8 J) (F K (c 0))).setCell (u w 9 J) (F K (c 1))).setCell (u w 10 J) (F K (c 2))).setCell (u w 11 J) (F K (c 3))) w (dI a b c) 91/\G (λy=>y=w) S ((((((((((((S.setCell (u w 0 J) (F K (a 0))).setCell (u w 1 J) (F K (a 1))).setCell (u w 2 J) (F K (a 2))).setCell (u w 3 J) (F K (a 3))).setCell (u w 4 J) (F K (b 0))).setCell (u w 5 J) (F K (b 1))).setCell (u w 6 J) (F K (b 2))).setCell (u w 7 J) (F K (b 3))).setCell (u w 8 J) (F K (c 0))).setCell (u w 9 J) (F K (c 1))).setCell (u w 10 J) (F K (c 2))).setCell (u w 11 J) (F K (c 3))):=by
 unfold dB at d;have e:X (S.setCell (u w 0 J) (F K (a 0))) w #[F K (a 0),F K 0,F K 0,F K 0,F K 0,F K 0,F K 0,F K 0,F K 0,F K 0,F K 0,F K 0] 91:=d.set 0 _;have i:X ((S.setCell (u w 0 J) (F K (a 0))).setCell (u w 1 J) (F K (a 1))) w #[F K (a 0),F K (a 1),F K 0,F K 0,F K 0,F K 0,F K 0,F K 0,F K 0,F K 0,F K 0,F K 0] 91:=e.set 1 _
 have l:X (((S.setCell (u w 0 J) (F K (a 0))).setCell (u w 1 J) (F K (a 1))).setCell (u w 2 J) (F K (a 2))) w #[F K (a 0),F K (a 1),F K (a 2),F K 0,F K 0,F K 0,F K 0,F K 0,F K 0,F K 0,F K 0,F K 0] 91:=i.set 2 _
 have n:X ((((S.setCell (u w 0 J) (F K (a 0))).setCell (u w 1 J) (F K (a 1))).setCell (u w 2 J) (F K (a 2))).setCell (u w 3 J) (F K (a 3))) w #[F K (a 0),F K (a 1),F K (a 2),F K (a 3),F K 0,F K 0,F K 0,F K 0,F K 0,F K 0,F K 0,F K 0] 91:=l.set 3 _
 have o:X (((((S.setCell (u w 0 J) (F K (a 0))).setCell (u w 1 J) (F K (a 1))).setCell (u w 2 J) (F K (a 2))).setCell (u w 3 J) (F K (a 3))).setCell (u w 4 J) (F K (b 0))) w #[F K (a 0),F K (a 1),F K (a 2),F K (a 3),F K (b 0),F K 0,F K 0,F K 0,F K 0,F K 0,F K 0,F K 0] 91:=n.set 4 _
 have p:X ((((((S.setCell (u w 0 J) (F K (a 0))).setCell (u w 1 J) (F K (a 1))).setCell (u w 2 J) (F K (a 2))).setCell (u w 3 J) (F K (a 3))).setCell (u w 4 J) (F K (b 0))).setCell (u w 5 J) (F K (b 1))) w #[F K (a 0),F K (a 1),F K (a 2),F K (a 3),F K (b 0),F K (b 1),F K 0,F K 0,F K 0,F K 0,F K 0,F K 0] 91:=o.set 5 _
 have r:X (((((((S.setCell (u w 0 J) (F K (a 0))).setCell (u w 1 J) (F K (a 1))).setCell (u w 2 J) (F K (a 2))).setCell (u w 3 J) (F K (a 3))).setCell (u w 4 J) (F K (b 0))).setCell (u w 5 J) (F K (b 1))).setCell (u w 6 J) (F K (b 2))) w #[F K (a 0),F K (a 1),F K (a 2),F K (a 3),F K (b 0),F K (b 1),F K (b 2),F K 0,F K 0,F K 0,F K 0,F K 0] 91:=p.set 6 _
 have s:X ((((((((S.setCell (u w 0 J) (F K (a 0))).setCell (u w 1 J) (F K (a 1))).setCell (u w 2 J) (F K (a 2))).setCell (u w 3 J) (F K (a 3))).setCell (u w 4 J) (F K (b 0))).setCell (u w 5 J) (F K (b 1))).setCell (u w 6 J) (F K (b 2))).setCell (u w 7 J) (F K (b 3))) w #[F K (a 0),F K (a 1),F K (a 2),F K (a 3),F K (b 0),F K (b 1),F K (b 2),F K (b 3),F K 0,F K 0,F K 0,F K 0] 91:=r.set 7 _
 have v:X (((((((((S.setCell (u w 0 J) (F K (a 0))).setCell (u w 1 J) (F K (a 1))).setCell (u w 2 J) (F K (a 2))).setCell (u w 3 J) (F K (a 3))).setCell (u w 4 J) (F K (b 0))).setCell (u w 5 J) (F K (b 1))).setCell (u w 6 J) (F K (b 2))).setCell (u w 7 J) (F K (b 3))).setCell (u w 8 J) (F K (c 0))) w #[F K (a 0),F K (a 1),F K (a 2),F K (a 3),F K (b 0),F K (b 1),F K (b 2),F K (b 3),F K (c 0),F K 0,F K 0,F K 0] 91:=s.set 8 _
 have x:X ((((((((((S.setCell (u w 0 J) (F K (a 0))).setCell (u w 1 J) (F K (a 1))).setCell (u w 2 J) (F K (a 2))).setCell (u w 3 J) (F K (a 3))).setCell (u w 4 J) (F K (b 0))).setCell (u w 5 J) (F K (b 1))).setCell (u w 6 J) (F K (b 2))).setCell (u w 7 J) (F K (b 3))).setCell (u w 8 J) (F K (c 0))).setCell (u w 9 J) (F K (c 1))) w #[F K (a 0),F K (a 1),F K (a 2),F K (a 3),F K (b 0),F K (b 1),F K (b 2),F K (b 3),F K (c 0),F K (c 1),F K 0,F K 0] 91:=v.set 9 _
 have j:X (((((((((((S.setCell (u w 0 J) (F K (a 0))).setCell (u w 1 J) (F K (a 1))).setCell (u w 2 J) (F K (a 2))).setCell (u w 3 J) (F K (a 3))).setCell (u w 4 J) (F K (b 0))).setCell (u w 5 J) (F K (b 1))).setCell (u w 6 J) (F K (b 2))).setCell (u w 7 J) (F K (b 3))).setCell (u w 8 J) (F K (c 0))).setCell (u w 9 J) (F K (c 1))).setCell (u w 10 J) (F K (c 2))) w #[F K (a 0),F K (a 1),F K (a 2),F K (a 3),F K (b 0),F K (b 1),F K (b 2),F K (b 3),F K (c 0),F K (c 1),F K (c 2),F K 0] 91:=x.set 10 _
 have k:X ((((((((((((S.setCell (u w 0 J) (F K (a 0))).setCell (u w 1 J) (F K (a 1))).setCell (u w 2 J) (F K (a 2))).setCell (u w 3 J) (F K (a 3))).setCell (u w 4 J) (F K (b 0))).setCell (u w 5 J) (F K (b 1))).setCell (u w 6 J) (F K (b 2))).setCell (u w 7 J) (F K (b 3))).setCell (u w 8 J) (F K (c 0))).setCell (u w 9 J) (F K (c 1))).setCell (u w 10 J) (F K (c 2))).setCell (u w 11 J) (F K (c 3))) w #[F K (a 0),F K (a 1),F K (a 2),F K (a 3),F K (b 0),F K (b 1),F K (b 2),F K (b 3),F K (c 0),F K (c 1),F K (c 2),F K (c 3)] 91:=j.set 11 _
 exact⟨k,(((((((((((((G.refl _ S).at 0 _).at 1 _).at 2 _).at 3 _).at 4 _).at 5 _).at 6 _).at 7 _).at 8 _).at 9 _).at 10 _).at 11 _)⟩
structure lu (w wx:U) (g:Nat) (a b s:Nat->Int):Prop where
 e:X wx g (dI a b s) 91
 mod:G No w wx
theorem lu.still{a b e:Nat->Int}(c:lu S o w a b e)(d:G No o j):lu S j w a b e:=⟨d.e c.e (λi=>i),c.mod.trans d⟩
theorem lu.one{wr:U}{a b c:Nat->Int}(e:G No S wr)(d:G No wr.drew o):lu S (o.alloc (m #[F K (a 0),F K (a 1),F K (a 2),F K (a 3),F K (b 0),F K (b 1),F K (b 2),F K (b 3),F K (c 0),F K (c 1),F K (c 2),F K (c 3)] 91)) o.heap.size a b c:=
 ⟨X.new o (dI a b c) 91,(e.drew.trans d).alloc _⟩
theorem lu.two{wr:U}{a b c:Nat->Int}(e:G No S wr)(d:G No (wr.alloc (m #[F K 0,F K 0,F K 0,F K 0,F K 0,F K 0,F K 0,F K 0,F K 0,F K 0,F K 0,F K 0] 91)).drew o):lu S ((((((((((((o.setCell (u wr.heap.size 0 J) (F K (a 0))).setCell (u wr.heap.size 1 J) (F K (a 1))).setCell (u wr.heap.size 2 J) (F K (a 2))).setCell (u wr.heap.size 3 J) (F K (a 3))).setCell (u wr.heap.size 4 J) (F K (b 0))).setCell (u wr.heap.size 5 J) (F K (b 1))).setCell (u wr.heap.size 6 J) (F K (b 2))).setCell (u wr.heap.size 7 J) (F K (b 3))).setCell (u wr.heap.size 8 J) (F K (c 0))).setCell (u wr.heap.size 9 J) (F K (c 1))).setCell (u wr.heap.size 10 J) (F K (c 2))).setCell (u wr.heap.size 11 J) (F K (c 3))) wr.heap.size a b c:=by
 have k:=d.e (show X (wr.alloc (m #[F K 0,F K 0,F K 0,F K 0,F K 0,F K 0,F K 0,F K 0,F K 0,F K 0,F K 0,F K 0] 91)).drew wr.heap.size dB 91 from(X.new wr dB 91).drew) (λl=>l);obtain⟨i,j⟩:=Rr a b c k;refine⟨i,((e.alloc _).drew.trans d).trans' j (λp hi n=>?_)⟩;have:=e.size;omega
structure ly (S:Array V) (k b c:Int):Prop where
 size:S.size=25
 fL:S[0]? =E (F K k)
 fU:S[2]? =E (F K b)
 c3:S[3]? =E (F K c)
structure mT where
 kb:Nat
 okp:Nat->Nat
 wb:Nat
 Rs:Nat->Nat
 v:V
 xs:List aB
 now:Int
 fl:Nat->Option (O×List z)
structure pr (w:U) (ob:Nat) (I:mT):Prop where
 vc:w.cell? (u ob 1 J)=E (g (E (u I.kb 0 J)))
 vd:w.cell? (u ob 2 J)=E (g (E (u I.wb 0 J)))
 lt:ob<w.heap.size
 keep:pU w I.okp I.kb I.now I.fl
 bM:bB w I.Rs I.wb I.v I.xs I.now
 same:dC I.xs I.fl
theorem pr.mod{w w':U}{I:mT}(a:pr w Q I)(e:G No w w')(l:∀j,No j->¬No j):pr w' Q I:=by
 have b:∀d i,w.cell? d=E i->w'.cell? d=E i:=λd i b=>by
  have k:=jk w d b;unfold World.cell? at b ⊢;rw[e.block _ k (λc=>c)];exact b
 exact⟨b _ _ a.vc,b _ _ a.vd,bj a.lt e.size,a.keep.mod e (λ_ _ c=>c),a.bM.mod e (λ_ _ c=>c),a.same⟩
theorem aO.ask{I:aG}(a:aO S B w I)(d:I.kb=E Q)(c:I.W.now=I.now/\I.W.fl=I.fl):pr S w ⟨Q,I.okp,I.W.wb,I.W.ow,I.W.v,I.W.xs,I.now,I.fl⟩:=by
 obtain⟨⟨k,j⟩,_⟩:=a.keep.some Q d;have b:=a.e.T 1;rw[show(dO I)[1]? =E (gL I.kb) from rfl,d] at b;have i:=a.bM.bM;have e:=a.bM.same;rw[c.1] at i;rw[c.2] at e;exact⟨b,a.e.T 2,a.e.lt,⟨k,j.keep⟩,i,e⟩
theorem Rt{I:mT}(i:pr o w I){S:Array V}{p:Int}(hS:ly S 3 k p):Calls h 17 #[g (E (u Q 0 J)),g (E (u w 0 J)),t S] o λr w'=>r=q (L true)/\G No o w':=by
 have c:=X.new o S 45;have v:(o.alloc (m S 45)).cell? (u o.heap.size 0 J)=E (F K 3):=(c.T 0).trans hS.fL;have e:=l ((G.refl No o).alloc (m S 45));have a:=i.mod (b e) (λ_ _ d=>d);obtain⟨H,j⟩:=a.keep;have n:=l λs=>yN (j.mod ((G.refl No (o.alloc (m S 45))).drewN s) (λ_ _ d=>d));have y:(o.alloc (m S 45)).cell? (u w 1 J)=E (g (E (u I.kb 0 J))):=a.vc
 have z:(o.alloc (m S 45)).cell? (u w 2 J)=E (g (E (u I.wb 0 J))):=a.vd;have M:(o.alloc (m S 45)).cell? (u I.wb 1 J)=E (F K I.now):=a.bM.e.T 1;have A:=a.lt;have B:=a.bM.e.lt;have x:=c.lt;clear i a j c hS;go_enter func17,ntmps17;go_wp2_with fail;go_quiet ((go_at_call 32;exact Calls.quiet_of_same ((b n) _)));go_wp2;go_ret;exact⟨rfl,(b e).drewN _⟩
theorem Ru{I:mT}(R:pr o w I){S:Array V}{j:Int}(hS:ly S 4 k j):Calls h 17 #[g (E (u Q 0 J)),g (E (u w 0 J)),t S] o λaf w'=>af=q (L true)/\G No o w':=by
 have x:=(G.refl No o).alloc (m S 45);have T:=R.mod x (λ_ _ d=>d);have e:=l λc (n:G No (o.alloc (m S 45)) c)=>T.mod n (λ_ _ d=>d);have p:=X.new o S 45;have ab:=(p.T 0).trans hS.fL
 have v:=l λc (n:G No (o.alloc (m S 45)) c)=>(show(c.cell? (u o.heap.size 2 J)=E (F K k)/\c.cell? (u o.heap.size 3 J)=E (F K j))/\o.heap.size<c.heap.size from
  ⟨⟨((n.e p (λd=>d)).T 2).trans hS.fU,((n.e p (λd=>d)).T 3).trans hS.c3⟩,(n.e p (λd=>d)).lt⟩)
 have P:=l λc (n:G No (o.alloc (m S 45)) c)=>x.trans n;have ai:=p.lt;clear R T hS x p;generalize W:nU I.fl k j=a at *;have O:=l W;clear W;go_enter func17,ntmps17;go_upto_region 5 with fail;generalize o.alloc (m S 45)=s at *;generalize o.heap.size=ah at *;have ad:s.cell? (u w 1 J)=E (g (E (u I.kb 0 J))):=((b e) _ (G.refl _ _)).vc;have B:=((b e) _ (G.refl _ _)).lt
 obtain⟨⟨y,z⟩,_⟩:=(b v) _ (G.refl _ _);have i:=l (Oo ((b e) _ (G.refl _ s).drew).keep k j);rw[b O] at i;go_cut [7,8] (λH M N=>H=F K a.1/\M=F K a.2/\Hid (G No s N))
 case first=>
  go_region_law (refine fP rfl 33 _ _ rfl #[g (E (u I.kb 0 J)),F K k,F K j] (by simp[aM,bN]) (λc=>by kernel_rfl) (aq #[F K a.1,F K a.2]) _ (b i) ?_;intro ag A)
  all_goals go_wp2
  all_goals go_meet
  all_goals exact⟨rfl,rfl,(G.refl No s).drew.trans A⟩
 case rest=>
  obtain⟨rfl,rfl,r⟩:=hcut
  apply_assumption
  clear ad B y z i ab;have ae:wc.cell? (u w 2 J)=E (g (E (u I.wb 0 J))):=((b e) _ (b r)).vd;have B:=((b e) _ (b r)).lt;obtain⟨⟨y,z⟩,aj⟩:=(b v) _ (b r);have i:=l (Gv ((b e) _ (b r).drew).bM ((b e) _ (b r)).same k j);rw[b O] at i;have aa:=l (b r).drew;go_upto_region 6 with fail;go_cut [9,10] (λH M N=>H=F K a.1/\M=F K a.2/\Hid (G No s N))
  case first=>
   go_region_law (refine fP rfl 34 _ _ rfl #[g (E (u I.wb 0 J)),F K k,F K j] (by simp[aM,bN]) (λc=>by kernel_rfl) (aq #[F K a.1,F K a.2]) _ (b i) ?_;intro ag A)
   all_goals go_wp2
   all_goals go_meet
   all_goals exact⟨rfl,rfl,(b aa).trans A⟩
  case rest=>
   obtain⟨rfl,rfl,Z⟩:=hcut
   apply_assumption
   have Y:=l ((b P) _ (b Z));have ak:(a.1==a.1)=true:=by simp
   have am:(a.2==a.2)=true:=by simp
   clear ae B y z i e v P;go_wp2;go_ret;exact⟨rfl,b Y⟩
end Go.Proofs.YthhibagcpjeihaaGreat
