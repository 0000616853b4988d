import Derived.Test.YthhibagcpjeihaaGreatWf
import Derived.Test.YthhibagcpjeihaaGreatWg
import Derived.Test.YthhibagcpjeihaaGreatWb
open Go.Proofs.Tryz
open Go.Addr renaming mk->u,add_mid->dE
open Go.Value renaming int->F,pointer->g,slice->C,bool->L,agg->t,tuple->aq,ownBlock->aV
open Go.IntKind renaming i64->K
open Option renaming none->J,some->E
open Go renaming World->U,Value->V
open Go.Proofs.Tryz renaming prog->h
open Go.Ending renaming returned->q
open Go.Obj renaming cells->m
open Go.Act renaming eval->aM
open Go.Instr renaming index->iQ
open List renaming range->jF
set_option linter.unusedVariables false
set_option linter.unusedSimpArgs false
set_option maxRecDepth 100000
set_option maxHeartbeats 8000000
namespace Go.Proofs.YthhibagcpjeihaaGreat
open Go.RowKit
open M
theorem Qo{now:Int}{fl:Nat->Option (O×List z)}{c:aK}(o:0<=now/\now<=4611686018427387000)(v:∀s p d,s<21->fl s=E (p,d)->aJ p d)(a:(br now fl c).1=0):jG now (aP now c):=by
 unfold br at a;by_cases n:c.kind<1\/c.kind>9
 .rw[D n] at a;exact absurd a (by simp)
 rw[f n] at a;by_cases i:c.kind=8
 .rw[D i] at a;by_cases r:1<=c.time/\c.time<=100
  .exact Ek i r o
  .rw[f r] at a;exact absurd a (by simp)
 rw[f i] at a;by_cases e:1<=c.aF/\c.aF<=20
 case neg=>rw[D e] at a;exact absurd a (by simp)
 rw[f (by simpa using e)] at a
 cases j:fl c.aF.toNat with
 |none=>
  rw[j] at a;simp only at a;by_cases b:c.kind=1
  .rw[D b] at a;by_cases k:c.c.aY=true/\c.c.bI=true
   .exact Ej b e k.1 k.2
   .rw[f k] at a;exact absurd a (by simp)
  .rw[f b] at a;exact absurd a (by simp)
 |some w=>
  obtain⟨p,d⟩:=w;rw[j] at a;simp only at a;by_cases b:c.kind=1
  .rw[D b] at a;exact absurd a (by simp)
  rw[f b] at a;by_cases l:bH p d c now=0
  .exact Em (by omega) e (v _ p d (by omega) j) o l
  .rw[f l] at a;exact absurd a l
open Go.ChangeMaps (setBlock)
structure aN where
 n:Int
 c:Int
 l:Int
def dj(x:aN):List V:=[F K x.n,F K x.c,F K x.l]
structure fj where
 bO:List aN
 more:Bool
 es:List aX
 dY:Nat
def eo(most:Int)(a:fj)(x:aN):fj:=
 if x.l=tb a.es x.n x.c then a
 else if (a.bO.length:Int)=most then⟨a.bO,true,a.es,a.dY⟩
 else⟨a.bO++[x],a.more,(kI a.es a.dY x.n x.c x.l).1,(kI a.es a.dY x.n x.c x.l).2⟩
def aN.ok(x:aN):Prop:=0<=x.n/\x.n<=20/\0<=x.c/\x.c<4
variable {v:fj} {w Q P:Nat} {p S:Nat->Nat} {o:Nat->Option (O×List z)} {j:Nat->Option (List aX)} {k:Nat->Option Nat} {I:Int} {W:U} {N:V} {B:Bool} {R:List Nat} {n:Option (List aX)}
theorem F4{most:Int}{x:aN}(b:ir v.es)(a:x.ok):ir (eo most v x).es:=by
 unfold eo;split
 .exact b
 .split
  .exact b
  .exact b.put _ _ _ _ ⟨a.1,by have:=a.2.1;omega⟩ ⟨a.2.2.1,by have:=a.2.2.2;omega⟩
theorem Qp{most:Int}{x:aN}(c:ir v.es)(b a:Int)(d:¬(b=x.n/\a=x.c)):tb (eo most v x).es b a=tb v.es b a:=by
 unfold eo;split
 .rfl
 .split
  .rfl
  .unfold tb;rw[DL _ c,f d]
def mQ(b c d e:Int)(a:Nat):Int:=if a=0 then b else if a=1 then c else if a=2 then d else e
def items(j b c d e:Int)(i:Nat):List aN:=(jF i).map λ(a:Nat)=>(⟨j,(a:Int),mQ b c d e a⟩:aN)
theorem F7(i b c d e:Int)(a:Nat):items i b c d e (a+1)=items i b c d e a++[⟨i,a,mQ b c d e a⟩]:=by
 unfold items;rw[ug,qK];rfl
def bP(most:Int)(b:fj)(a:List aN):fj:=a.foldl (eo most) b
theorem Al(most:Int)(b:fj)(a:List aN)(x:aN):bP most b (a++[x])=eo most (bP most b a) x:=by
 unfold bP;rw[sI];rfl
theorem Am(most:Int)(c:fj)(a b:List aN):bP most c (a++b)=bP most (bP most c a) b:=by
 unfold bP;rw[sI]
theorem F8{most:Int}(d c:Int):∀(b:List aN) (a:fj),ir a.es->(∀x∈b,x.ok)->(∀x∈b,¬(d=x.n/\c=x.c))->tb (bP most a b).es d c=tb a.es d c
 |[],a,e,_,_=>rfl
 |x::b,a,e,k,j=>by
  have:=F8 (most:=most) d c b (eo most a x) (F4 e (k x (by simp))) (λi hy=>k i (by simp[hy])) (λi hy=>j i (by simp[hy]));rw[show bP most a (x::b)=bP most (eo most a x) b from rfl,this,Qp e d c (j x (by simp))]
theorem Ao{b c d e:Int}(a:0<=I/\I<=20)(k:w<=4):∀x∈items I b c d e w,x.ok:=by
 intro x j;obtain⟨l,i,rfl⟩:=kA.1 j;have:=List.mem_range.1 i;exact⟨a.1,a.2,by simp only;omega,by simp only;omega⟩
theorem Qq{most:Int}(i:ir v.es){b c d e:Int}(l:0<=I/\I<=20)(a:Nat)(k:a<=4):tb (bP most v (items I b c d e a)).es I a=tb v.es I a:=
 F8 I a _ v i (Ao l k) (λp n=>by
  obtain⟨o,j,rfl⟩:=kA.1 n
  have:=List.mem_range.1 j
  simp only
  omega)
theorem Qr{most:Int}{a b c d:Int}(e:a=tb v.es I 0)(i:b=tb v.es I 1)(j:c=tb v.es I 2)(k:d=tb v.es I 3):bP most v (items I a b c d 4)=v:=by
 have:items I a b c d 4=[⟨I,0,a⟩,⟨I,1,b⟩,⟨I,2,c⟩,⟨I,3,d⟩]:=rfl;rw[this];simp only[bP,jT,nM];rw[show eo most v ⟨I,0,a⟩=v from D e,show eo most v ⟨I,1,b⟩=v from D i,show eo most v ⟨I,2,c⟩=v from D j,show eo most v ⟨I,3,d⟩=v from D k]
theorem Qs{most:Int}{x:aN}(a:(v.bO.length:Int)<=most):((eo most v x).bO.length:Int)<=most:=by
 unfold eo;split
 .exact a
 .split
  .exact a
  .simp only[bG,eL,iR];omega
theorem tm{most:Int}:∀(c:List aN) (a:fj),(a.bO.length:Int)<=most->((bP most a c).bO.length:Int)<=most
 |[],a,b=>b
 |x::c,a,b=>tm c (eo most a x) (Qs b)
structure n9 (w:U) (bb m:Nat) (fresh:Bool) (s:fj) (v:V):Prop where
 e:X w bb #[L fresh,v,L s.more] 97
 row:w.ownsRow 0 68 3 v s.bO.length (s.bO.flatMap dj)
 own:∀k,v.ownBlock=E k->bb<k/\k≠m
 map:w.heap[m]? =E (gU s.es s.dY)
 ok:ir s.es
theorem n9.still{w':U}(a:n9 W w Q B v N)(c:G No W w'):n9 w' w Q B v N:=
 ⟨c.e a.e (λb=>b),c.owns a.row (λ_ _ b=>b),a.own,jJ c a.map (λb=>b),a.ok⟩
theorem X.uX{d:Array V}{c:TypeId}{e:List aX}(a:X W w d c)(b:W.heap[Q]? =E (gU e P)):Q≠w:=by
 rintro rfl;unfold X at a;rw[a] at b;simp[gU] at b
theorem Ap:(h.info? 68).map (λa=>(a.zero,a.size,a.bytes))=E (E (t #[F K 0,F K 0,F K 0]),3,24):=by kernel_rfl
attribute [local go_sem] Cs JO
theorem Qt{a b c d e i j:Int}:mv I a b c d e i j=true↔I=d/\a=e/\b=i/\c=j:=by
 simp[mv]
theorem Qu(b c d e:Int)(a:Nat)(j:a<4)(i:U):(iQ 37 (t #[F K b,F K c,F K d,F K e]) (F K a)).run h i=.ok (F K (mQ b c d e a)) i:=by
 have:a=0\/a=1\/a=2\/a=3:=by omega
 obtain rfl|rfl|rfl|rfl:=this
 .exact rV ..
 .exact rW ..
 .exact rX ..
 .exact rY ..
theorem Qv(b c d e:Int)(a:Nat)(i:a<4):(#[F K b,F K c,F K d,F K e]:Array V)[a]? =E (F K (mQ b c d e a)):=by
 have:a=0\/a=1\/a=2\/a=3:=by omega
 obtain rfl|rfl|rfl|rfl:=this<;>rfl
theorem F9(N ae o d n:Nat)(s v w x most:Int)(af:Bool)(j:fj)(aF:V)(A:U)(bc:d<=20)(ba:1<=most/\most<=50)(a8:(j.bO.length:Int)<=most)(ar:A.cell? (u N ae J)=E (.map (E o)))(bw:N<n)(ab:n9 A n o af j aF):Calls h 93 #[g (E (u N ae J)),F K d,t #[F K s,F K v,F K w,F K x],F K most,g (E (u n 0 J))] A λk w'=>
   k=q (aq #[])/\∃v',n9 w' n o af (bP most j (items d s v w x 4)) v'/\G (λa=>n<=a\/a=o) A w':=by
 have aI:=l λ(B:U) (Y:G No A B)=>OP N ae o d j.dY j.es B bc (xm Y ar) (jJ Y ab.map (λz=>z)) ab.ok;have aj:=l ar;have Z:=l ab;have bA:=ab.e.lt;clear ar ab;go_enter func93,ntmps93;go_wp2_with fail;have ao:=l ((G.refl No A).alloc (m #[F K s,F K v,F K w,F K x] 37));have aG:=l (X.new A #[F K s,F K v,F K w,F K x] 37);refine((b aI) _ (b ao)).mono ?_;rintro k R ⟨rfl,ai⟩;have aH:=l (ai.e (b aG) (λz=>z))
 have S:=l ((b ao).trans ai);have bJ:A.heap.size<R.heap.size:=by have:=ai.size;simp at this;omega
 clear aI ai aG ao;have aL:=(b aH).T;have bq:=(b aH).lt
 have a2:=l (show ∀a:Nat,a<=4->mQ (tb j.es d 0) (tb j.es d 1) (tb j.es d 2) (tb j.es d 3) a=tb j.es d a\/a=4 from λa aw=>by
  have:a=0\/a=1\/a=2\/a=3\/a=4:=by omega
  obtain rfl|rfl|rfl|rfl|rfl:=this
  .exact .inl rfl
  .exact .inl rfl
  .exact .inl rfl
  .exact .inl rfl
  .exact .inr rfl)
 have aK:=l (λ(H:mv s v w x (tb j.es d 0) (tb j.es d 1) (tb j.es d 2) (tb j.es d 3)=true)=>(show bP most j (items d s v w x 4)=j by
  obtain⟨a3,I,O,a6⟩:=Qt.1 H
  exact Qr a3 I O a6))
 generalize tb j.es d 0=t0 at *;generalize tb j.es d 1=t1 at *;generalize tb j.es d 2=t2 at *;generalize tb j.es d 3=t3 at *;by_cases aC:mv s v w x t0 t1 t2 t3=true
 .go_wp2
  first|go_end0|refine cN (results_none rfl _ _ _) rfl ?_
  refine⟨rfl,aF,?_,?_⟩
  .rw[(b aK) aC];exact((b Z).still (b S)).still ((G.refl No _).alloc _)
  .exact((b S).alloc _).mono (λ_ _ z=>z.elim)
 .have bf:mv s v w x t0 t1 t2 t3=false:=by simpa using aC
  go_wp2_with fail;clear aL aC bf aK;obtain⟨bi,bk,bl,bm,bn⟩:=fq Ap
  have aW:=l (λ(B:U) (Y:G (λa=>n<=a\/a=o) A B)=>(show B.cell? (u N ae J)=E (.map (E o)) from by
   have bd:N≠o:=by
    intro k
    have I:=b aj
    rw[k] at I
    have O:=(b Z).map
    simp[World.cell?,O,gU] at I
   have a9:=jk A _ (b aj)
   rw[oB (w:=A) (Y.block _ a9 (λz=>by obtain z|z:=z;exact absurd z (by show ¬n<=N;omega);exact bd z))]
   exact b aj))
  have bB:(1:Int)<=most/\most<=50:=ba
  go_loopw [20] (λaD wr=>∃(a:Nat) (v':V),aD=F K a/\a<=4/\Hid (n9 wr n o af (bP most j (items d s v w x a)) v')/\Hid (G (λa=>n<=a\/a=o) A wr)/\
    Hid (X wr R.heap.size #[F K t0,F K t1,F K t2,F K t3] 37)/\Hid (∀c,v'.ownBlock=E c->c≠R.heap.size)) (λaD _=>4 - (intOf aD).toNat)
  case atStart=>
   refine⟨0,aF,rfl,by omega,?_,?_,X.new R _ _,λc p=>by have:=((b Z).row.lt c p).2;omega⟩
   .exact((b Z).still (b S)).still ((G.refl No _).alloc _)
   .exact((b S).alloc _).mono (λ_ _ z=>z.elim)
  case round=>
   obtain⟨a,v',rfl,aw,i,ag,aa,ah⟩:=hrel;by_cases aN:a=4
   .subst aN;go_wp2;go_end0;exact⟨rfl,v',b i,b ag⟩
   have aO:a<4:=by omega
   have bz:(a:Int)<4:=by omega
   have aT:=(b i).ok;have ap:=l (Al most j (items d s v w x a) ⟨d,a,mQ s v w x a⟩);have aS:tb (bP most j (items d s v w x a)).es d a=mQ t0 t1 t2 t3 a:=by
    rw[Qq (b Z).ok ⟨by omega,by omega⟩ a aw];obtain H|H:=(b a2) a aw
    .exact H.symm
    .exact absurd H aN
   have aP:=tm (most:=most) (items d s v w x a) j a8;rw[<-F7] at ap;have hi:=λB=>Qu s v w x a aO B;have bs:wr.cell? (u R.heap.size a J)=E (F K (mQ t0 t1 t2 t3 a)):=by rw[(b aa).T];exact Qv t0 t1 t2 t3 a aO
   have bC:=(b aa).lt;have aL:=(b i).e.T;have bp:=(b i).e.aC;have br:=(b i).e.lt;have ak:=l aS;have aX:=l aP;have am:=l ap;clear aS aP ap;generalize bP most j (items d s v w x a)=e at *;generalize mQ s v w x a=r at *;generalize mQ t0 t1 t2 t3 a=aE at *;by_cases I:r=aE
   .have a4:(r==aE)=true:=by simpa using I
    go_wp2;go_roundw
    .refine⟨a+1,v',by simp,by omega,?_,ag,aa,ah⟩;rw[b am];unfold eo;rw[D (by simp only;rw[b ak];exact I)];exact i
    .simp[intOf];omega
   have a4:(r==aE)=false:=by simpa using I
   obtain⟨T,W,rfl⟩:=aR (b i).row;by_cases O:(e.bO.length:Int)=most
   .have a5:((e.bO.length:Int)==most)=true:=by simpa using O
    go_wp2;go_roundw
    .have ax:G (λc=>c=n) wr (wr.setCell (u n 2 J) (L true)):=(G.refl _ wr).at 2 _;refine⟨a+1,C T e.bO.length W,by simp,by omega,l ?_,(b ag).setCell (.inl (.inl (cz _))) _,ax.e (b aa) (by have:=(b S).size;omega),ah⟩;rw[b am];unfold eo;rw[f (by simp only;rw[b ak];exact I),D O]
     exact⟨(b i).e.set 2 _,ax.owns (b i).row (λc p k=>by have:=((b i).own c p).1;omega),(b i).own,jJ ax (b i).map (λk=>(b i).e.uX (b i).map k),(b i).ok⟩
    .simp[intOf];omega
   have a5:((e.bO.length:Int)==most)=false:=by simpa using O
   have bE:=(Array.getElem?_eq_some_iff.1 (b i).map).1;have aB:=(b i).e.uX (b i).map;have aZ:=l (((G.refl No wr).alloc (m #[F K d,F K a,F K r] 68)).owns (b i).row (λ_ _ z=>z))
   have a0:=l (show Reads (wr.alloc (m #[F K d,F K a,F K r] 68)) (C (E (u wr.heap.size 0 J)) 1 1) 1 (dj ⟨d,a,r⟩) from
    .inr ⟨(u wr.heap.size 0 J),1,rfl,λc bo hu=>by
     rw[dE,bK,(X.new wr #[F K d,F K a,F K r] 68).T,<-dy]
     exact hu⟩)
   have aY:=l (λ(y:U) (au:(wr.alloc (m #[F K d,F K a,F K r] 68)).grownBy y (C T e.bO.length W).ownBlock)=>(show G (λa=>n<=a\/a=o) A y from
    ((b ag).alloc _).grown au (λc p=>.inl (.inl (vO ((b i).own c p).1)))))
   have aU:=l (λ(y:U) (au:(wr.alloc (m #[F K d,F K a,F K r] 68)).grownBy y (C T e.bO.length W).ownBlock)=>(show X y n #[L af,C T e.bO.length W,L e.more] 97/\y.heap[o]? =E (gU e.es e.dY)/\X y R.heap.size #[F K t0,F K t1,F K t2,F K t3] 37 from by
    have aA:G (λc=>E c=(C T e.bO.length W).ownBlock) wr y:=((G.refl _ wr).alloc _).grown au (λc p=>.inl p.symm)
    refine⟨aA.e (b i).e (λk=>?_),jJ aA (b i).map (λk=>((b i).own o k.symm).2 rfl),aA.e (b aa) (λk=>?_)⟩
    .have:=((b i).own n k.symm).1;omega
    .exact(b ah) _ k.symm rfl))
   have a1:=l (λ(B:U) (Y:B.heap[o]? =E (gU e.es e.dY))=>(show(Instr.mapUpdate 116 (.map (E o)) (t #[F K d,F K a]) (F K r)).run h B=.ok () (setBlock B o (gU (kI e.es e.dY d a r).1 (kI e.es e.dY d a r).2)) from
    Nb B o e.es e.dY Y aT d a r (by omega) (by omega)))
   have bx:N≠n:=by omega
   have bu:(e.bO.length:Int)<most:=by have:=b aX;omega
   go_wp2_with (first|(at_builtin;refine fJ rfl (.tmp 28) (.tmp 33) 66 rfl 68 bi _ 3 24 underlying66 bk bl bm bn rfl (by decide) (C T e.bO.length W) e.bO.length _ (by simp[aM]) (by exact b aZ) (C (E (u wr.heap.size 0 J)) 1 1) 1 (dj ⟨d,a,r⟩) (by simp[aM]) (by exact b a0) rfl (by intro bo hu;simp[dj] at hu;obtain rfl|rfl|rfl:=hu<;>rfl) (by unfold maxLen;omega) (by omega) ?_;intro bL y aQ av bg;obtain⟨P,Q,rfl⟩:=aR aQ;have aJ:=l ((b aY) _ av);have M:=l ((b aU) _ av);have bF:=(b M).1.T;have bH:=(b M).1.aC;have bI:=(b M).1.lt;have bt:=(b aW) _ (b aJ);have bv:=(b a1) (y.setCell (u n 1 J) (C P (e.bO.length+1) Q)) (jJ ((G.refl (λc=>c=n) y).at 1 _) (b M).2.1 (λk=>aB k))))
   go_roundw
   .have a7:=(b M).1.set 1 (C P (e.bO.length+1) Q);have ay:G (λc=>c=n) y (y.setCell (u n 1 J) (C P (e.bO.length+1) Q)):=(G.refl _ y).at 1 _;have bb:=jJ ay (b M).2.1 (λk=>aB k)
    have az:G (λc=>c=o) (y.setCell (u n 1 J) (C P (e.bO.length+1) Q)) (setBlock (y.setCell (u n 1 J) (C P (e.bO.length+1) Q)) o (gU (kI e.es e.dY d a r).1 (kI e.es e.dY d a r).2)):=G.setBlock (S:=λc=>c=o) (G.refl _ _) (.inl rfl) _;have bh:=av.size;simp only[bW] at bh;have ad:∀c,(C P (e.bO.length+1) Q).ownBlock=E c->n<c/\c≠o/\c≠R.heap.size:=λc p=>by
     obtain H|H:=bg c p
     .exact⟨((b i).own c H).1,((b i).own c H).2,(b ah) c H⟩
     .simp only[bW] at H;exact⟨by omega,by omega,by omega⟩
    refine⟨a+1,C P (e.bO.length+1) Q,by simp,by omega,l ?_,((b aJ).setCell (.inl (.inl (cz _))) _).setBlock (.inl (.inr rfl)) _,az.e (ay.e (b M).2.2 (by have:=(b S).size;omega)) (λk=>?_),λc p=>(ad c p).2.2⟩
    .rw[b am];unfold eo;rw[f (by simp only;rw[b ak];exact I),f O];refine⟨az.e a7 (λk=>aB k.symm),?_,λc p=>⟨(ad c p).1,(ad c p).2.1⟩,vV (Array.getElem?_eq_some_iff.1 bb).1 _,aT.put e.dY d a r ⟨by omega,by omega⟩ ⟨by omega,by omega⟩⟩;simp only[bG,eL,iR,jW,jE,uw,dG];exact az.owns (ay.owns aQ (λc p k=>by have:=(ad c p).1;omega)) (λc p k=>(ad c p).2.1 k)
    .exact(b M).2.2.uX (b M).2.1 k.symm
   .simp[intOf];omega
structure kM (w:U) (ow om:Nat->Nat) (kb:Nat) (tl:Nat->Option (List aX)):Prop where
 un:∀i,i<8->tl i=J->w.cell? ⟨kb,22+i,J⟩=E (.map J)
 is:∀i,i<8->∀es,tl i=E es->∃m dY,w.cell? ⟨kb,22+i,J⟩=E (.map (E m))/\om m=i+1/\w.heap[m]? =E (gU es dY)/\ir es
 bg:∀k,om k≠0->k<w.heap.size/\ow k=0
theorem kM.still{w':U}(a:kM W p S w j)(b:G No W w'):kM w' p S w j:=
 ⟨λd hi c=>xm b (a.un d hi c),λd hi l c=>by
  obtain⟨v,k,n,o,r,s⟩:=a.is d hi l c
  exact⟨v,k,xm b n,o,jJ b r (λx=>x),s⟩,λi e=>⟨bj (a.bg i e).1 b.size,(a.bg i e).2⟩⟩
def lv(x:O×List z)(a:Nat):Int:=min (jn x.1 x.2 a) 9
def lq(c:Nat->Option (O×List z))(b:Nat):List aN:=match c b with|none=>[]|some a=>items b (lv a 0) (lv a 1) (lv a 2) (lv a 3) 4
def jd(a:Nat->Option (O×List z))(b:Nat):List aN:=(jF b).flatMap (lq a)
theorem Aq(a:Nat->Option (O×List z))(b:Nat):jd a (b+1)=jd a b++lq a b:=by
 unfold jd;rw[ug,jW];simp
theorem Qw(d:Int)(e:Nat->Option Nat)(a c:Nat)(hi:a<8):(dA d e).setIfInBounds (22+a) (.map (E c))=dA d (gH e (21+a) c):=by
 have:a=0\/a=1\/a=2\/a=3\/a=4\/a=5\/a=6\/a=7:=by omega
 obtain b|b|b|b|b|b|b|b:=this<;>(subst b;rfl)
theorem cI.mR(b:cI W p w I k o)(a c:Nat)(hi:a<8):cI (W.setCell ⟨w,22+a,J⟩ (.map (E c))) p w I (gH k (21+a) c) o:=by
 have n:G (λd=>d=w) W (W.setCell ⟨w,22+a,J⟩ (.map (E c))):=(G.refl _ W).at (22+a) _;refine⟨?_,b.bw,λd i=>bj (b.bg d i) n.size,λl j e=>?_,λl B A j e=>?_⟩
 .have:=b.e.set (22+a) (.map (E c));rw[Qw I k a c hi] at this;exact this
 .simp only[gH];rw[f (by omega)];exact b.gone l j e
 .obtain⟨r,v,x,y⟩:=b.here l B A j e;refine⟨r,?_,x,y.mod n (λd i s=>by subst s;rw[b.bw] at i;omega)⟩;simp only[gH];rw[f (by omega)];exact v
def xD(a:Nat):V:=C (E (u a 0 J)) 4 4
structure iz (w:U) (F:Nat->Prop) (xv:V) (ls:List Nat):Prop where
 row:w.ownsRow 0 65 1 xv ls.length (ls.map xD)
 lZ:∀g,xv.ownBlock=E g->¬F g
 each:∀i (h:i<ls.length),¬F ls[i]/\xv.ownBlock≠E ls[i]/\∃hs:Array V,X w ls[i] hs 66/\hs.size=4/\∀(j:Nat) (v:V),hs[j]? =E v->∃m,bp 68 3 w v m/\iD 3 (bQ i).toList w v m/\m<=1000000/\∀g,v.ownBlock=E g->¬F g/\xv.ownBlock≠E g
theorem iz.nil(d:U)(a:Nat->Prop):iz d a (C J 0 0) []:=⟨dx _ _ _ _,λe c=>by simp[aV] at c,λi b=>absurd b (fK _)⟩
theorem iz.mod{w w':U}{j F':Nat->Prop}(d:iz w j N R)(e:G j w w')(hF:∀k,k<w.heap.size->F' k->j k):iz w' F' N R:=by
 have y:=λa b=>fE d.row a b;refine⟨e.owns d.row d.lZ,λa b c=>d.lZ a b (hF a (y a b) c),λz hi=>?_⟩;obtain⟨n,p,v,o,r,s⟩:=d.each z hi;refine⟨λc=>n (hF _ o.lt c),p,v,e.e o n,r,λA M x=>?_⟩;obtain⟨B,l,H,I,i⟩:=s A M x;exact⟨B,l.mod e (λa b=>(i a b).1),H.mod e (λa b=>⟨l.lt a b,(i a b).1⟩),I,λa b=>⟨λc=>(i a b).1 (hF a (l.lt a b) c),(i a b).2⟩⟩
theorem iz.at{j:Nat->Prop}(c:iz W j N R)(hi:w<R.length):∃a b i,N=C (E (u a 0 J)) R.length b/\a<W.heap.size/\R[w]? =E i/\W.cell? (u a w J)=E (C (E (u i 0 J)) 4 4):=by
 have k:=c.row;obtain⟨n,o|⟨e,b,l,d,_⟩⟩:=c.row
 .omega
 .refine⟨e,b,R[w],d,fE c.row e (by rw[d];rfl),du hi,?_⟩;have:=k.cells (by rw[d];rfl) w (xD R[w]) (by rw[qC,du hi];rfl);rw[dE,bK] at this;exact this
theorem iz.head{o:Nat->Prop}(p:iz W o N R)(x:R[w]? =E P)(I:Q<4):∃a d e,d<=1000000/\P<W.heap.size/\W.cell? (u P Q J)=E (C a d e)/\∀j,j<d->∃c,a=E (u c 0 J)/\c<W.heap.size/\W.rangeAt c (j* 3) (bQ w).toList:=by
 obtain⟨hi,b⟩:=List.getElem?_eq_some_iff.1 x;obtain⟨_,_,y,i,H,r⟩:=p.each w hi;rw[b] at i;obtain⟨k,l⟩:∃k,y[Q]? =E k:=⟨_,da (by omega)⟩;obtain⟨d,n,z,A,_⟩:=r Q k l;obtain⟨a,e,rfl⟩:=n.slice;refine⟨a,d,e,A,i.lt,(i.T Q).trans l,λj v=>?_⟩;obtain⟨c,B,G,b,s,_⟩:=n.block (by omega);injection b with b _ _;exact⟨c,b,s.lt,z c (by rw[b];rfl) j v⟩
theorem Qx(a:U):(binOp .eql 116 (.map J) (.map J)).run h a=.ok (L true) a:=by kernel_rfl
theorem Qy(b:Nat)(a:U):(binOp .eql 116 (.map (E b)) (.map J)).run h a=.ok (L false) a:=by kernel_rfl
theorem Qz(a:U):(Instr.makeMap 116 J).run h a=.ok (.map (E a.heap.size)) (a.alloc (.map #[] 0)):=by
 simp[Instr.makeMap,newObj,Sem.run]
attribute [local go_sem] Qx Qy Qz
theorem Ga(d:cI W p w I k o)(a:Nat)(e:a<21):W.cell? ⟨w,1+a,J⟩=E (bL (k a))/\((k a=J/\o a=J)\/∃c x,k a=E c/\o a=E x/\∀b,G No W b->Calls h 60 #[g (E (u c 0 J))] b λn w'=>n=q (t #[F K (lv x 0),F K (lv x 1),F K (lv x 2),F K (lv x 3)])/\G No b w'):=by
 refine⟨by rw[d.e.T,oN I k a e],?_⟩
 cases i:o a with
 |none=>exact .inl ⟨d.gone a e i,rfl⟩
 |some x=>
  obtain⟨l,j⟩:=x;obtain⟨c,r,H,s⟩:=d.here a l j e i;refine .inr ⟨c,(l,j),r,rfl,λb v=>?_⟩;obtain⟨M,B,A,y,_⟩:=s.bC v;exact Eg _ _ _ _ _ _ _ _ _ _ _ _ _ _ _ _ _ _ _ _ _ _ _ _ _ _ _ y
structure qk (w:U) (ow om:Nat->Nat) (kb:Nat) (now:Int) (dS:Nat->Option Nat) (fl:Nat->Option (O×List z)) (tl:Nat->Option (List aX)) (i:Nat) (w':U) (v:V) (T:fj):Prop where
 keep:∃pt',cI w' ow kb now pt' fl/\∀j,29<=j->pt' j=dS j
 mR:∃om',kM w' ow om' kb (λj=>if j=i then E T.es else tl j)/\∀k,k<w.heap.size->om' k=om k
 mod:G (λj=>j=kb\/om j≠0) w w'
 row:w'.ownsRow 0 68 3 v T.bO.length (T.bO.flatMap dj)
 own:∀k,v.ownBlock=E k->w.heap.size<=k
theorem Gb{wr w':U}{x:Nat->Option Nat}{ae:Nat->Option (List aX)}(n:cI W p w I k o)(l:kM W p S w ae)(hi:Q<8)(H:cI wr p w I x o)(r:n9 wr (W.heap.size+1) P B v N)(aj:G (λj=>W.heap.size+1<=j\/j=P\/j=w) W wr)(y:G (λj=>j=W.heap.size) wr w')(R:∀j,j≠21+Q->x j=k j)(am:x (21+Q)=E P)(s:S P=Q+1\/W.heap.size<P):qk W p S w I k o ae Q w' N v:=by
 have ap:=n.e.lt;have M:G (λj=>W.heap.size<=j\/j=P\/j=w) W w':=(aj.mono (λb _ a=>by obtain a|a:=a;exact .inl (by omega);exact .inr a)).trans (y.mono (λb _ a=>.inl (by omega)));have A:cI w' p w I x o:=H.mod y (λb H c=>by have:=n.bg b H;omega);have ak:P≠W.heap.size:=by obtain c|c:=s;have:=(l.bg P (by omega)).1;omega;omega
 have ad:w'.heap[P]? =E (gU v.es v.dY):=jJ y r.map (λc=>ak c);refine⟨⟨x,A,λj e=>R j (by omega)⟩,⟨λb=>if b=P then Q+1 else S b,⟨λj e d=>?_,λj e ai d=>?_,λb i=>?_⟩,λb i=>?_⟩,?_,y.owns r.row (λb i c=>by have:=(r.own b i).1;omega),λb i=>by have:=(r.own b i).1;omega⟩
 .by_cases c:j=Q
  .rw[D c] at d;cases d
  rw[f c] at d;have X:=l.un j e d;rw[n.e.T,lN _ _ j e] at X;rw[A.e.T,lN _ _ j e,R _ (by omega)];exact X
 .by_cases c:j=Q
  .rw[D c] at d;injection d with d;subst d;subst c;exact⟨P,v.dY,by rw[A.e.T,lN _ _ j e,am],D rfl,ad,r.ok⟩
  rw[f c] at d;obtain⟨T,ah,Y,af,Z,ag⟩:=l.is j e ai d;have ao:=(l.bg T (by omega)).1;have ab:T≠P:=by rintro rfl;obtain a|a:=s<;>omega
  refine⟨T,ah,?_,by rw[f ab];exact af,jJ M Z (λa=>?_),ag⟩
  .rw[n.e.T,lN _ _ j e] at Y;rw[A.e.T,lN _ _ j e,R _ (by omega)];exact Y
  .obtain a|a|a:=a
   .omega
   .exact ab a
   .exact n.e.uX Z a
 .by_cases c:b=P
  .subst c;refine⟨(Array.getElem?_eq_some_iff.1 ad).1,?_⟩;obtain a|a:=s
   .exact(l.bg b (by omega)).2
   .by_cases aa:p b=0
    .exact aa
    .have:=n.bg b aa;omega
  .rw[f c] at i;exact⟨bj (l.bg b i).1 M.size,(l.bg b i).2⟩
 .show(if b=P then Q+1 else S b)=S b;by_cases c:b=P
  .subst c;rw[D rfl];obtain a|a:=s
   .exact a.symm
   .omega
  .rw[f c]
 .refine M.mono (λb i a=>?_);obtain a|a|a:=a
  .omega
  .subst a;obtain a|a:=s
   .exact .inr (by omega)
   .omega
  .exact .inl a
theorem QA(b:U)(a:Obj):(b.alloc a).heap[b.heap.size]? =E a:=by
 show(b.heap.push a)[b.heap.size]? =E a;exact Array.getElem?_push_size
structure Gc (w:U) (ow om:Nat->Nat) (kb:Nat) (now:Int) (dS:Nat->Option Nat) (fl:Nat->Option (O×List z)) (i:Nat) (fresh:Bool) (es:List aX) (W:U) (pt':Nat->Option Nat) (m dY:Nat):Prop where
 keep:cI W ow kb now pt' fl
 gA:n9 W (w.heap.size+1) m fresh ⟨[],false,es,dY⟩ (C J 0 0)
 mod:G (λj=>w.heap.size+1<=j\/j=m\/j=kb) w W
 res:X W w.heap.size #[L false,C J 0 0,L false] 97
 dS:∀j,j≠21+i->pt' j=dS j
 xE:pt' (21+i)=E m
 om:om m=i+1\/w.heap.size<m
theorem QD{om:Nat->Nat}(d:cI W p w I k o)(a:Nat)(hi:a<8):Gc W p om w I k o a true [] ((((W.alloc (m #[L false,C J 0 0,L false] 97)).alloc (m #[L true,C J 0 0,L false] 97)).alloc (.map #[] 0)).setCell ⟨w,22+a,J⟩ (.map (E (W.heap.size+1+1)))) (gH k (21+a) (W.heap.size+1+1)) (W.heap.size+1+1) 0:=by
 have x:=d.e.lt;have i:G No W (((W.alloc (m #[L false,C J 0 0,L false] 97)).alloc (m #[L true,C J 0 0,L false] 97)).alloc (.map #[] 0)):=(((G.refl No W).alloc _).alloc _).alloc _;have v:X (((W.alloc (m #[L false,C J 0 0,L false] 97)).alloc (m #[L true,C J 0 0,L false] 97)).alloc (.map #[] 0)) W.heap.size #[L false,C J 0 0,L false] 97:=((X.new W _ _).alloc _).alloc _
 have j:X (((W.alloc (m #[L false,C J 0 0,L false] 97)).alloc (m #[L true,C J 0 0,L false] 97)).alloc (.map #[] 0)) (W.heap.size+1) #[L true,C J 0 0,L false] 97:=by
  have:=(X.new (W.alloc (m #[L false,C J 0 0,L false] 97)) #[L true,C J 0 0,L false] 97).alloc (.map #[] 0);rw[bW] at this;exact this
 have s:(((W.alloc (m #[L false,C J 0 0,L false] 97)).alloc (m #[L true,C J 0 0,L false] 97)).alloc (.map #[] 0)).heap[W.heap.size+1+1]? =E (gU [] 0):=by
  have:=QA ((W.alloc (m #[L false,C J 0 0,L false] 97)).alloc (m #[L true,C J 0 0,L false] 97)) (.map #[] 0);rw[bW,bW] at this;exact this
 have c:G (λe=>e=w) (((W.alloc (m #[L false,C J 0 0,L false] 97)).alloc (m #[L true,C J 0 0,L false] 97)).alloc (.map #[] 0)) ((((W.alloc (m #[L false,C J 0 0,L false] 97)).alloc (m #[L true,C J 0 0,L false] 97)).alloc (.map #[] 0)).setCell ⟨w,22+a,J⟩ (.map (E (W.heap.size+1+1)))):=(G.refl _ _).at (22+a) _
 refine⟨(d.mod i (λ_ _ b=>b)).mR a _ hi,⟨c.e j (by omega),dx _ _ _ _,λr n=>(by cases n),jJ c s (by omega),ir.nil⟩,(i.mono (λ_ _ b=>b.elim)).trans (c.mono (λr _ b=>.inr (.inr b))),c.e v (by omega),λe l=>f l,D rfl,.inr (by omega)⟩
theorem QG{c:List aX}(e:cI W p w I k o)(a:Nat)(hi:a<8)(i:W.cell? ⟨w,22+a,J⟩=E (.map (E Q)))(s:S Q=a+1)(n:W.heap[Q]? =E (gU c P))(r:ir c):Gc W p S w I k o a false c ((W.alloc (m #[L false,C J 0 0,L false] 97)).alloc (m #[L false,C J 0 0,L false] 97)) k Q P:=by
 have d:G No W ((W.alloc (m #[L false,C J 0 0,L false] 97)).alloc (m #[L false,C J 0 0,L false] 97)):=((G.refl No W).alloc _).alloc _;have j:X ((W.alloc (m #[L false,C J 0 0,L false] 97)).alloc (m #[L false,C J 0 0,L false] 97)) (W.heap.size+1) #[L false,C J 0 0,L false] 97:=by
  have:=X.new (W.alloc (m #[L false,C J 0 0,L false] 97)) #[L false,C J 0 0,L false] 97;rw[bW] at this;exact this
 rw[e.e.T,lN _ _ a hi] at i;refine⟨e.mod d (λ_ _ b=>b),⟨j,dx _ _ _ _,λv l=>(by cases l),jJ d n (λb=>b),r⟩,d.mono (λ_ _ b=>b.elim),(X.new W _ _).alloc _,λ_ _=>rfl,by simpa using i,.inl s⟩
theorem QH(ae:cI W p w I k o)(am:kM W p S w j)(d:Nat)(hi:d<8)(most:Int)(aL:1<=most/\most<=50):Calls h 67 #[g (E ⟨w,22+d,J⟩),C (E (u w 1 J)) 21 21,F K most] W λe w'=>∃x ai,e=q (t #[L (j d).isNone,x,L (bP most ⟨[],false,(j d).getD [],ai⟩ (jd o 21)).more])/\qk W p S w I k o j d w' x (bP most ⟨[],false,(j d).getD [],ai⟩ (jd o 21)):=by
 have Q:=l ae;have ad:=l am;have ba:=ae.e.lt;have aQ:=ae.e.aC
 cases aP:j d with
 |none=>
  have ak:=am.un d hi aP;clear ae am;have aG:=l (((G.refl No W).alloc (m #[L false,C J 0 0,L false] 97)).alloc (m #[L true,C J 0 0,L false] 97)|>.alloc (.map #[] 0));have av:=(b Q).mod (b aG) (λ_ _ a=>a);have aH:=av.e.T (22+d);have a9:=av.e.aC (22+d);have aI:=(b Q).e.T (22+d);rw[<-aI,ak] at aH;have a1:=av.e.lt;clear av aI;go_enter func67,ntmps67;go_wp2_with fail;have hS:=QD (om:=S) (b Q) d hi
  generalize a2:gH k (21+d) (W.heap.size+1+1)=a3 at hS;have i:=l hS;clear hS a2 aH a9 a1 ak aG aQ
  go_loopw [24] (λa wr=>∃(c:Nat) (x:V),a=F K c/\c<=21/\Hid (cI wr p w I a3 o)/\Hid (n9 wr (W.heap.size+1) (W.heap.size+1+1) true (bP most ⟨[],false,[],0⟩ (jd o c)) x)/\
    Hid (G (λv=>W.heap.size+1<=v\/v=(W.heap.size+1+1)\/v=w) W wr)/\Hid (X wr W.heap.size #[L false,C J 0 0,L false] 97)) (λa _=>21 - (intOf a).toNat)
  case atStart=>exact⟨0,C J 0 0,rfl,by omega,(b i).keep,(b i).gA,(b i).mod,(b i).res⟩
  case round=>
   obtain⟨c,x,rfl,aY,N,y,Y,r⟩:=hrel;have A:=(b y).e;have aU:=A.lt;have a5:=(b r).lt;have aE:w<W.heap.size+1:=by omega
   by_cases aB:c=21
   .subst aB;have a0:¬((21:Nat):Int)<21:=by omega
    obtain⟨a6,a7,rfl⟩:=aR (b y).row;have aT:=A.T;have d0:wr.cell? (u W.heap.size 0 J)=E (L false):=(b r).T 0;have d1:wr.cell? (u W.heap.size 1 J)=E (C J 0 0):=(b r).T 1;have d2:wr.cell? (u W.heap.size 2 J)=E (L false):=(b r).T 2;have a4:=(b r).aC;have H:=b i;have ag:=λaA aC=>Gb (w':=aA) (b Q) (b ad) hi (b N) (b y) (b Y) aC H.dS H.xE H.om;have ay:=l ag;clear ag H A;go_wp2
    refine cN (by simp[results,results67,go_sem,d0,d1,d2];try rfl) rfl ?_;refine⟨_,0,rfl,(b ay) _ ?_⟩;exact((G.refl _ wr).at 0 _|>.at 1 _).at 2 _
   have aZ:(c:Int)<21:=by omega
   obtain⟨M,aD⟩:=Ga (b N) c (by omega);have s:=Aq o c;obtain⟨ab,Z⟩|⟨aS,a,ab,Z,aj⟩:=aD
   .rw[ab] at M;simp only[bL,xF] at M;have P:lq o c=[]:=by unfold lq;rw[Z]
    rw[P,dG] at s;have R:=l s;clear s A;go_wp2;go_roundw
    .refine⟨c+1,x,by simp,by omega,N,?_,Y,r⟩;rw[b R];exact y
    .simp[intOf];omega
   .rw[ab] at M;simp only[bL,uN] at M;have P:lq o c=items c (lv a 0) (lv a 1) (lv a 2) (lv a 3) 4:=by unfold lq;rw[Z]
    rw[P] at s;have R:=l s;have az:=l aj;clear s A aj P;go_wp2_with fail;refine((b az) _ (G.refl _ _)).mono ?_;rintro e au ⟨rfl,ap⟩;have B:=l ap;clear ap;go_wp2_with fail;have ah:=l ((b N).mod (b B) (λ_ _ a=>a));have ax:au.cell? ⟨w,22+d,J⟩=E (.map (E (W.heap.size+1+1))):=by rw[(b ah).e.T,lN _ _ d hi,(b i).xE]
    refine(F9 w (22+d) (W.heap.size+1+1) c (W.heap.size+1) (lv a 0) (lv a 1) (lv a 2) (lv a 3) most true _ x au (by omega) aL (tm _ _ (by simp;omega)) ax aE ((b y).still (b B))).mono ?_;rintro e a8 ⟨rfl,aF,af,ar⟩;have T:=l ar;have aw:=l af;clear ar af;go_wp2;go_roundw
    .refine⟨c+1,aF,by simp,by omega,l ((b ah).mod (b T) (λv aa e=>?_)),l ?_,l (((b Y).trans ((b B).mono (λ_ _ a=>a.elim))).trans ((b T).mono (λv _ a=>?_))),l ((b T).e ((b B).e (b r) (λa=>a)) ?_)⟩
     .have aW:=(b Q).bg v aa;have n:=(b i).om;obtain e|e:=e
      .omega
      .obtain n|n:=n
       .rw[e] at aa;exact aa ((b ad).bg _ (by omega)).2
       .omega
     .rw[b R,Am];exact b aw
     .obtain a|a:=a
      .exact .inl a
      .exact .inr (.inl a)
     .have n:=(b i).om;rintro(e|e)
      .omega
      .obtain n|n:=n
       .have:=((b ad).bg (W.heap.size+1+1) (by omega)).1;omega
       .omega
    .simp[intOf];omega
 |some aJ=>
  obtain⟨ao,ai,ak,aO,aK,aN⟩:=am.is d hi aJ aP;have i:=l (QG ae d hi ak aO aK aN);clear ae am;go_enter func67,ntmps67;go_wp2_with fail;clear ak aO aK aN aQ
  go_loopw [24] (λa wr=>∃(c:Nat) (x:V),a=F K c/\c<=21/\Hid (cI wr p w I k o)/\Hid (n9 wr (W.heap.size+1) ao false (bP most ⟨[],false,aJ,ai⟩ (jd o c)) x)/\
    Hid (G (λv=>W.heap.size+1<=v\/v=ao\/v=w) W wr)/\Hid (X wr W.heap.size #[L false,C J 0 0,L false] 97)) (λa _=>21 - (intOf a).toNat)
  case atStart=>exact⟨0,C J 0 0,rfl,by omega,(b i).keep,(b i).gA,(b i).mod,(b i).res⟩
  case round=>
   obtain⟨c,x,rfl,aY,N,y,Y,r⟩:=hrel;have A:=(b y).e;have aU:=A.lt;have a5:=(b r).lt;have aE:w<W.heap.size+1:=by omega
   by_cases aB:c=21
   .subst aB;have a0:¬((21:Nat):Int)<21:=by omega
    obtain⟨a6,a7,rfl⟩:=aR (b y).row;have aT:=A.T;have d0:wr.cell? (u W.heap.size 0 J)=E (L false):=(b r).T 0;have d1:wr.cell? (u W.heap.size 1 J)=E (C J 0 0):=(b r).T 1;have d2:wr.cell? (u W.heap.size 2 J)=E (L false):=(b r).T 2;have a4:=(b r).aC;have H:=b i;have ag:=λaA aC=>Gb (w':=aA) (b Q) (b ad) hi (b N) (b y) (b Y) aC H.dS H.xE H.om;have ay:=l ag;clear ag H A;go_wp2
    refine cN (by simp[results,results67,go_sem,d0,d1,d2];try rfl) rfl ?_;refine⟨_,ai,rfl,(b ay) _ ?_⟩;exact((G.refl _ wr).at 0 _|>.at 1 _).at 2 _
   have aZ:(c:Int)<21:=by omega
   obtain⟨M,aD⟩:=Ga (b N) c (by omega);have s:=Aq o c;obtain⟨ab,Z⟩|⟨aS,a,ab,Z,aj⟩:=aD
   .rw[ab] at M;simp only[bL,xF] at M;have P:lq o c=[]:=by unfold lq;rw[Z]
    rw[P,dG] at s;have R:=l s;clear s A;go_wp2;go_roundw
    .refine⟨c+1,x,by simp,by omega,N,?_,Y,r⟩;rw[b R];exact y
    .simp[intOf];omega
   .rw[ab] at M;simp only[bL,uN] at M;have P:lq o c=items c (lv a 0) (lv a 1) (lv a 2) (lv a 3) 4:=by unfold lq;rw[Z]
    rw[P] at s;have R:=l s;have az:=l aj;clear s A aj P;go_wp2_with fail;refine((b az) _ (G.refl _ _)).mono ?_;rintro e au ⟨rfl,ap⟩;have B:=l ap;clear ap;go_wp2_with fail;have ah:=l ((b N).mod (b B) (λ_ _ a=>a));have ax:au.cell? ⟨w,22+d,J⟩=E (.map (E ao)):=by rw[(b ah).e.T,lN _ _ d hi,(b i).xE]
    refine(F9 w (22+d) ao c (W.heap.size+1) (lv a 0) (lv a 1) (lv a 2) (lv a 3) most false _ x au (by omega) aL (tm _ _ (by simp;omega)) ax aE ((b y).still (b B))).mono ?_;rintro e a8 ⟨rfl,aF,af,ar⟩;have T:=l ar;have aw:=l af;clear ar af;go_wp2;go_roundw
    .refine⟨c+1,aF,by simp,by omega,l ((b ah).mod (b T) (λv aa e=>?_)),l ?_,l (((b Y).trans ((b B).mono (λ_ _ a=>a.elim))).trans ((b T).mono (λv _ a=>?_))),l ((b T).e ((b B).e (b r) (λa=>a)) ?_)⟩
     .have aW:=(b Q).bg v aa;have n:=(b i).om;obtain e|e:=e
      .omega
      .obtain n|n:=n
       .rw[e] at aa;exact aa ((b ad).bg _ (by omega)).2
       .omega
     .rw[b R,Am];exact b aw
     .obtain a|a:=a
      .exact .inl a
      .exact .inr (.inl a)
     .have n:=(b i).om;rintro(e|e)
      .omega
      .obtain n|n:=n
       .have:=((b ad).bg ao (by omega)).1;omega
       .omega
    .simp[intOf];omega
theorem kM.mod{w w':U}{S:Nat->Prop}{l:Nat->Nat}(c:kM w p l Q j)(d:G S w w')(B:¬S Q)(H:∀b,l b≠0->¬S b):kM w' p l Q j:=
 have a:∀k n,w.cell? (u Q k J)=E n->w'.cell? (u Q k J)=E n:=λk n a=>by
  have I:=jk w _ a;rw[oB (w:=w) (d.block _ I B)];exact a
 ⟨λi hi e=>a _ _ (c.un i hi e),λi hi A e=>by
  obtain⟨r,z,s,v,x,y⟩:=c.is i hi A e
  exact⟨r,z,a _ _ s,v,jJ d x (H r (by omega)),y⟩,λb o=>⟨bj (c.bg b o).1 d.size,(c.bg b o).2⟩⟩
theorem qk.QI{e w3 w4:U}{l:Nat->Option (List aX)}(c:qk e p S w I k o l Q w3 N v)(r:kM W p S w l)(n:cI W p w I k o)(A:G No W e)(y:W.heap.size<e.heap.size)(d:G (λj=>j=W.heap.size) w3 w4):qk W p S w I k o l Q w4 N v:=by
 obtain⟨H,a,x⟩:=c.keep;obtain⟨B,f1,f2⟩:=c.mR;have P:=n.e.lt;refine⟨⟨H,a.mod d (λb a i=>by have:=n.bg b a;omega),x⟩,⟨B,f1.mod d (by omega) (λb a i=>?_),λb a=>f2 b (by omega)⟩,?_,d.owns c.row (λb a i=>by have:=c.own b a;omega),λb a=>by have:=c.own b a;omega⟩
 .subst i;rw[f2 _ y] at a;have:=r.bg _ a;omega
 .exact((A.mono (λ_ _ M=>M.elim)).trans c.mod).trans' d (λb a s=>absurd s (by omega))
def fk(a:Bool)(b:V)(more:Bool):V:=t #[L a,b,L more]
theorem QJ(j:Nat)(a most x:Int)(i:(¬(0<=a/\a<8)/\x=14)\/((0<=a/\a<8)/\¬(1<=most/\most<=50)/\x=12)):Calls h 39 #[g (E (u j 0 J)),F K a,F K most] W λd w'=>d=q (aq #[fk false (C J 0 0) false,F K x])/\G No W w':=by
 unfold fk;obtain⟨c,rfl⟩|⟨c,k,rfl⟩:=i
 .obtain b|⟨b,e⟩:=(show a<0\/(¬a<0/\8<=a) by omega)
  all_goals
   go_enter func39,ntmps39;go_wp2;refine cN (by simp[results,results39,go_sem];try rfl) rfl ?_;exact⟨rfl,by repeat' (first|with_reducible exact G.refl No W|refine G.drewN ?_ _|refine G.alloc ?_ _|refine G.setCell ?_ (.inr (cz _)) _)⟩
 .obtain⟨l,n⟩:=c;have o:¬a<0:=by omega
  have p:¬ 8<=a:=by omega
  obtain b|⟨b,e⟩:=(show most<1\/(¬most<1/\50<most) by omega)
  all_goals
   go_enter func39,ntmps39;go_wp2;refine cN (by simp[results,results39,go_sem];try rfl) rfl ?_;exact⟨rfl,by repeat' (first|with_reducible exact G.refl No W|refine G.drewN ?_ _|refine G.alloc ?_ _|refine G.setCell ?_ (.inr (cz _)) _)⟩
theorem QK(e:cI W p w I k o)(x:kM W p S w j)(a:Nat)(hi:a<8)(most:Int)(T:1<=most/\most<=50):Calls h 39 #[g (E (u w 0 J)),F K a,F K most] W λc w'=>∃y d,c=q (aq #[fk (j a).isNone y (bP most ⟨[],false,(j a).getD [],d⟩ (jd o 21)).more,F K 0])/\qk W p S w I k o j a w' y (bP most ⟨[],false,(j a).getD [],d⟩ (jd o 21)):=by
 have N:=l λs (i:G No W s)=>QH (e.mod i (λ_ _ Y=>Y)) (x.still i) a hi most T;have H:=l e;have A:=l x;have af:=e.e.lt;clear e x;have Z:¬(a:Int)<0:=by omega
 have aa:¬ 8<=(a:Int):=by omega
 have ab:(a:Int)<8:=by omega
 have ad:¬most<1:=by omega
 have ae:¬ 50<most:=by omega
 go_enter func39,ntmps39;go_wp2_with fail;have B:=l ((G.refl No W).alloc (m #[L false,C J 0 0,L false] 97));have R:=l (X.new W #[L false,C J 0 0,L false] 97)
 have Q:=l (show ¬(W.heap.size=w\/S W.heap.size≠0) from by
  rintro(c|c)
  .omega
  .have:=((b A).bg _ c).1;omega)
 go_region_with (go_at_call 67;refine((b N) _ (b B).drew).mono ?_;rintro c w3 ⟨y,d,rfl,n⟩;obtain⟨ah,ai,rfl⟩:=aR n.row;have r:=n.mod.e (b R).drew (b Q);have v:=r.T;have f3:=r.aC;have ag:=r.lt;have P:=l n;clear n r);have d0:w3.cell? (u W.heap.size 0 J)=E (L false):=v 0;have d1:w3.cell? (u W.heap.size 1 J)=E (C J 0 0):=v 1;have d2:w3.cell? (u W.heap.size 2 J)=E (L false):=v 2
 have M:=l λs i=>(b P).QI (w4:=s) (b A) (b H) (b B).drew (by simp) i;go_wp2;refine cN (by simp[results,results39,go_sem,d0,d1,d2];try rfl) rfl ?_;refine⟨_,d,rfl,(b M) _ ?_⟩
 repeat' (first|with_reducible exact G.refl _ w3|refine G.drewN ?_ _|refine G.at ?_ _ _)
theorem dH.told{w':U}{i:bU}(b:dH W p w I k o i)(n:kM W p S w j)(l:qk W p S w I k o j Q w' N v):∃e,dH w' p w I e o i:=by
 obtain⟨e,c,d⟩:=l.keep;refine⟨e,c,by rw[d 29 (by omega)];exact b.ptr,?_,?_,b.tape.mod l.mod (λr c a=>?_)⟩
 .have:=b.file;unfold oM at this ⊢;rw[d 30 (by omega)];exact this
 .have:=b.torn;unfold nG at this ⊢;rw[d 31 (by omega)];exact this
 .obtain a|a:=a
  .rw[a,b.keep.bw] at c;omega
  .have:=(n.bg r a).2;omega
def kN(c:List aN)(d b:Int):Int:=c.foldl (λe a=>if a.n=d/\a.c=b then a.l else e) (-1)
theorem Gd(c:List aN)(x:aN)(b a:Int):kN (c++[x]) b a=if x.n=b/\x.c=a then x.l else kN c b a:=by
 unfold kN;rw[sI];rfl
theorem QL(a:List aN)(j:Nat)(d:j<a.length)(c b:Int):kN (a.take (j+1)) c b=if a[j].n=c/\a[j].c=b then a[j].l else kN (a.take j) c b:=by
 rw[show a.take (j+1)=a.take j++[a[j]] by rw[mD,du d];rfl,Gd]
def l7(b:List aX)(d:List aN):Prop:=ir b/\∀c a,tb b c a=kN d c a
variable {i:List aN}
theorem Ge{most:Int}{x:aN}(b:l7 v.es (i++v.bO))(j:x.ok):l7 (eo most v x).es (i++(eo most v x).bO):=by
 refine⟨F4 b.1 j,λd c=>?_⟩;unfold eo;split
 .exact b.2 d c
 .split
  .exact b.2 d c
  .unfold tb;simp only;rw[DL _ b.1,<-cQ,Gd];by_cases a:d=x.n/\c=x.c
   .rw[D a,D ⟨a.1.symm,a.2.symm⟩];rfl
   .rw[f a,f (λe=>a ⟨e.1.symm,e.2.symm⟩)];exact b.2 d c
theorem Ar{most:Int}{ns:List aN}:∀(b:List aN) (a:fj),l7 a.es (ns++a.bO)->(∀x∈b,x.ok)->l7 (bP most a b).es (ns++(bP most a b).bO)
 |[],a,c,_=>c
 |x::b,a,c,d=>Ar b (eo most a x) (Ge c (d x (by simp))) (λe hy=>d e (by simp[hy]))
theorem xG{most:Int}:∀(b:List aN) (a:fj),(a.bO.length:Int)=most->(bP most a b).bO=a.bO/\(bP most a b).es=a.es/\(a.more=true->(bP most a b).more=true)
 |[],a,_=>⟨rfl,rfl,id⟩
 |x::b,a,c=>by
  have j:bP most a (x::b)=bP most (eo most a x) b:=rfl;rw[j];unfold eo;split
  .exact xG b a c
  .first
    |(obtain⟨d,e,i⟩:=xG b ⟨a.bO,true,a.es,a.dY⟩ c
      exact⟨d,e,λ_=>i rfl⟩)
    |(rw[D c]
      obtain⟨d,e,i⟩:=xG b ⟨a.bO,true,a.es,a.dY⟩ c
      exact⟨d,e,λ_=>i rfl⟩)
theorem QM{most:Int}{x:aN}(a:List aN)(j:x.l≠tb v.es x.n x.c)(b:(v.bO.length:Int)=most):(bP most v (x::a)).bO=v.bO/\(bP most v (x::a)).es=v.es/\(bP most v (x::a)).more=true:=by
 have c:bP most v (x::a)=bP most ⟨v.bO,true,v.es,v.dY⟩ a:=by
  show bP most (eo most v x) a=_;unfold eo;rw[f j,D b]
 rw[c];obtain⟨d,e,i⟩:=xG a ⟨v.bO,true,v.es,v.dY⟩ b;exact⟨d,e,i rfl⟩
def jx(x:aB):List aN:=items x.f.num (lv (x.f.c.at x.f.ep,x.f.Y) 0) (lv (x.f.c.at x.f.ep,x.f.Y) 1) (lv (x.f.c.at x.f.ep,x.f.Y) 2) (lv (x.f.c.at x.f.ep,x.f.Y) 3) 4
theorem Gf:∀(b:List aB) (a:Int),b.Pairwise (λx i=>x.f.num<i.f.num)->b.filter (λx=>decide (x.f.num<a+1))=b.filter (λx=>decide (x.f.num<a))++b.filter (λx=>decide (x.f.num=a))
 |[],_,_=>rfl
 |x::b,a,l=>by
  have k:=rU.1 l;have c:=Gf b a k.2;by_cases e:x.f.num<a
  .rw[xH (by simp;omega),xH (by simpa using e),uY (by simp;omega),c];rfl
  .have d:b.filter (λx=>decide (x.f.num<a))=[]:=List.filter_eq_nil_iff.2 (λi hy=>by
    have:=k.1 i hy
    simp;omega)
   rw[d] at c;by_cases j:x.f.num=a
   .rw[xH (by simp;omega),uY (by simpa using e),xH (by simpa using j),c,d];rfl
   .rw[uY (by simp;omega),uY (by simpa using e),uY (by simpa using j),c,d]
theorem dC.one{b:List aB}(n:dC b o)(a:Nat)(v:a<21):lq o a=(b.filter (λx=>decide (x.f.num=(a:Int)))).flatMap jx:=by
 unfold lq;rw[n.eq a v];obtain i|⟨s,hi,i,p⟩:=xk b a
 .rw[zR b a i]
  have:b.filter (λx=>decide (x.f.num=(a:Int)))=[]:=List.filter_eq_nil_iff.2 (λj hy=>by
   have k:fh b a=J:=zR b a i
   unfold fh at k
   rw[Option.map_eq_none_iff,List.find?_eq_none] at k
   simpa using k j hy)
  rw[this];rfl
 .rw[Ey b a s hi i];have hu:b.filter (λx=>decide (x.f.num=(a:Int)))=[b[s]]:=by
   have A:∀(c:List aB),c.Pairwise (λx j=>x.f.num<j.f.num)->∀x∈c,x.f.num=(a:Int)->c.filter (λx=>decide (x.f.num=(a:Int)))=[x]:=by
    intro c
    induction c with
    |nil=>intro _ x l;cases l
    |cons j c y=>
     intro d x l r;have d:=rU.1 d;obtain e|e:=List.mem_cons.1 l
     .subst e;rw[xH (by simpa using r)];congr 1;exact List.filter_eq_nil_iff.2 (λB w=>by have:=d.1 B w;simp;omega)
     .have:=d.1 x e;rw[uY (by simp;omega)];exact y d.2 x e r
   exact A b n.sort _ (eK hi) p
  rw[hu];simp only[jE,uw,dG];unfold jx;rw[p]
theorem dC.items{b:List aB}(c:dC b o):jd o 21=b.flatMap jx:=by
 have j:∀a,a<=21->jd o a=(b.filter (λd=>decide (d.f.num<(a:Int)))).flatMap jx:=by
  intro a
  induction a with
  |zero=>
   intro _;have:b.filter (λd=>decide (d.f.num<((0:Nat):Int)))=[]:=List.filter_eq_nil_iff.2 (λe hy=>by have:=c.iw e hy;simp;omega);rw[this];rfl
  |succ a i=>
   intro k;rw[Aq,i (by omega),c.one a (by omega)];have:=Gf b (a:Int) c.sort;rw[show((a+1:Nat):Int)=(a:Int)+1 by omega,this,jW]
 rw[j 21 (by omega)];congr 1;exact List.filter_eq_self.2 (λe hy=>by have:=c.iw e hy;simp;omega)
def pq(d:Option (List aX))(c:List aN)(a:Bool):Prop:=(d=J/\c=[]/\a=false)\/∃b,d=E b/\a=true/\l7 b c
theorem pq.At(a:pq n i B):l7 (n.getD []) i:=by
 obtain⟨rfl,rfl,_⟩|⟨c,rfl,_,a⟩:=a
 .exact⟨ir.nil,λd b=>rfl⟩
 .exact a
theorem pq.fresh(a:pq n i B):n.isNone= !B:=by
 obtain⟨rfl,rfl,rfl⟩|⟨b,rfl,rfl,a⟩:=a<;>rfl
end Go.Proofs.YthhibagcpjeihaaGreat
