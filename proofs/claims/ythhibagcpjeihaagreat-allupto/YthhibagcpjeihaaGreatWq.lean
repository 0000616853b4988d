import Derived.Test.YthhibagcpjeihaaGreatWm
import Derived.Test.YthhibagcpjeihaaGreatWp
open Go.Proofs.Tryz
open Go.Addr renaming mk->u,add_mid->dE
open Go.Value renaming int->F,pointer->g,slice->C,bool->L,agg->t,tuple->aq,ownBlock->aV
open Go.IntKind renaming i64->K
open Option renaming none->J,some->E
open Go renaming World->U,Value->V
open Go.Proofs.Tryz renaming prog->h
open Go.Ending renaming returned->q
open Go.Obj renaming cells->m
open Go.Act renaming eval->aM,put->bN
set_option linter.unusedVariables false
set_option linter.unusedSimpArgs false
set_option maxRecDepth 100000
set_option maxHeartbeats 8000000
namespace Go.Proofs.YthhibagcpjeihaaGreat
open Go.RowKit
open M
theorem Hj:∀(b:List aN) (j a:Nat) (d:j<b.length) (c:a<3),(b.flatMap dj)[j* 3+a]? =(dj b[j])[a]?
 |x::b,0,a,_,c=>by
  rw[jE,vJ,bK,vK (by simpa [dj] using c)];rfl
 |x::b,j+1,a,d,c=>by
  rw[jE,tS (by simp[dj];omega)];have:=Hj b j a (by simpa using d) c;rw[show(j+1)* 3+a - (dj x).length=j* 3+a by simp[dj];omega,this];rfl
variable {Q P:Nat} {I:List aN} {p S:Int} {o j:Bool} {B:Nat->Option (O×List z)} {R:Nat->Prop} {i:List aB} {n:V}
theorem AV{w:U}{a:Option Addr}(l:w.ownsRow 0 68 3 (C a Q P) I.length (I.flatMap dj))(j:Nat)(o:j<I.length):∃b,a=E (u b 0 J)/\b<w.heap.size/\w.cell? ⟨b,j* 3,J⟩=E (F K I[j].n)/\w.cell? ⟨b,j* 3+1,J⟩=E (F K I[j].c)/\w.cell? ⟨b,j* 3+2,J⟩=E (F K I[j].l):=by
 obtain⟨z,A⟩|⟨b,r,s,e,_,n,B⟩:=l.2
 .omega
 .injection e with i x y;have d:=λc (p:c<3) v (e:(dj I[j])[c]? =E v)=>l.cells (by rw[i];rfl) (j* 3+c) v (by rw[Hj I j c o p];exact e);refine⟨b,i,X.lt n,?_,?_,?_⟩
  .have:=d 0 (by omega) _ rfl;rw[dE] at this;simpa using this
  .have:=d 1 (by omega) _ rfl;rw[dE,bK] at this;exact this
  .have:=d 2 (by omega) _ rfl;rw[dE,bK] at this;exact this
theorem SQ{w:U}{tob:Nat}{vs:Nat->V}{bs:Nat->Bool}(y:X w tob (lr vs bs) 76)(k:Nat)(av:k<8)(r:w.ownsRow 0 68 3 (vs k) I.length (I.flatMap dj))(z:I.length<=4611686018427387000)(e d:Int):Calls h 68 #[g (E (u tob 0 J)),F K k,F K e,F K d] w λp w'=>p=q (F K (kN I e d))/\G No w w':=by
 obtain⟨Z,ad,A⟩:=aR r;rw[A] at r;have x:w.cell? (u tob k J)=E (C Z I.length ad):=by
  rw[y.T,<-A];have:k=0\/k=1\/k=2\/k=3\/k=4\/k=5\/k=6\/k=7:=by omega
  obtain rfl|rfl|rfl|rfl|rfl|rfl|rfl|rfl:=this<;>rfl
 have Q:=l x;have Y:=l y.lt;have T:=l r;have S:=l z;have aw:(0:Int)<=k:=by omega
 have ax:(k:Int)<8:=by omega
 clear y r A x z;go_enter func68,ntmps68;go_wp2_with fail;go_loopw [9,10] (λaj ai ak=>∃a:Nat,ai=F K (a:Int)/\a<=I.length/\aj=F K (kN (I.take a) e d)/\Hid (G No w ak)) (λ_ ah _=>I.length - (intOf ah).toNat)
 case atStart=>exact⟨0,rfl,by omega,rfl,G.refl _ _⟩
 case round=>
  obtain⟨a,rfl,ap,rfl,j⟩:=hrel;have z:=b S;have x:=eG (b j) (b Q);have ay:=bj (b Y) (b j).size;by_cases P:a<I.length
  .have af:(a:Int)<(I.length:Int):=by omega
   have ar:(0:Int)<=a:=by omega
   have au:K.wrap ((a:Int)+1)=((a+1:Nat):Int):=by rw[bh _ (by omega) (by omega)];rfl
   obtain⟨am,rfl,ae,H,M,O⟩:=AV (b T) a P;have H:=eG (b j) H;have M:=eG (b j) M;have O:=eG (b j) O;have ao:=bj ae (b j).size;have LT:=l (QL I a P e d);generalize I[a]=i at *;generalize kN (I.take a) e d=ag at *;have s:=l ((b j).alloc (m #[F K i.n,F K i.c,F K i.l] 68));by_cases n:i.n=e
   .have aa:(i.n==e)=true:=by simp[n]
    by_cases o:i.c=d
    .have ab:(i.c==d)=true:=by simp[o]
     have c:=b LT;rw[D ⟨n,o⟩] at c;have c:=l c;clear n o;go_wp2;exact⟨⟨a+1,rfl,by omega,by rw[b c],s⟩,by simp[intOf];omega⟩
    .have ab:(i.c==d)=false:=by simp[o]
     have c:=b LT;rw[f (λB=>o B.2)] at c;have c:=l c;clear n o;go_wp2;exact⟨⟨a+1,rfl,by omega,by rw[b c],s⟩,by simp[intOf];omega⟩
   .have aa:(i.n==e)=false:=by simp[n]
    have c:=b LT;rw[f (λB=>n B.1)] at c;have c:=l c;clear n;go_wp2;exact⟨⟨a+1,rfl,by omega,by rw[b c],s⟩,by simp[intOf];omega⟩
  .have af:¬(a:Int)<(I.length:Int):=by omega
   obtain rfl:a=I.length:=by omega
   have p:kN (I.take I.length) e d=kN I e d:=by rw[fN]
   have R:=l p;clear p;generalize kN (I.take I.length) e d=ag at *;go_wp2;go_ret;exact⟨by rw[b R];rfl,b j⟩
theorem SR{w:U}{v2:V}(e:w.ownsRow 0 68 3 n I.length (I.flatMap dj))(i:w.ownsRow 0 68 3 v2 I.length (I.flatMap dj))(j:I.length<=120):Calls h 41 #[n,v2] w λP w'=>P=q (L true)/\G No w w':=by
 obtain⟨Y,ae,rfl⟩:=aR e;obtain⟨Z,af,rfl⟩:=aR i;have B:=l e;have H:=l i;have M:=l j;clear e i j;go_enter func41,ntmps41;go_wp2_with fail;go_loopw [5] (λd X=>∃a:Nat,d=F K (a:Int)/\a<=I.length/\Hid (G No w X)) (λd _=>I.length - (intOf d).toNat)
 case atStart=>exact⟨0,rfl,by omega,G.refl _ _⟩
 case round=>
  obtain⟨a,rfl,ak,c⟩:=hrel;have j:=b M;by_cases o:a<I.length
  .have S:(a:Int)<(I.length:Int):=by omega
   have am:(0:Int)<=a:=by omega
   have ao:K.wrap ((a:Int)+1)=((a+1:Nat):Int):=by rw[bh _ (by omega) (by omega)];rfl
   obtain⟨ag,Q,ai,p,r,s⟩:=AV (b B) a o;obtain⟨ah,R,aj,x,y,z⟩:=AV (b H) a o;subst Q;subst R;have p:=eG (b c) p;have r:=eG (b c) r;have s:=eG (b c) s;have x:=eG (b c) x;have y:=eG (b c) y;have z:=eG (b c) z;have aa:(I[a].n !=I[a].n)=false:=by simp
   have ab:(I[a].c !=I[a].c)=false:=by simp
   have ad:(I[a].l !=I[a].l)=false:=by simp
   generalize I[a]=d at *;have O:=l λT=>(b c).drewN T;go_wp2_with fail;go_quiet (fail);go_wp2;exact⟨⟨a+1,rfl,by omega,(b O) _⟩,by simp[intOf];omega⟩
  .have S:¬(a:Int)<(I.length:Int):=by omega
   have A:=l (b c);go_wp2;go_ret;exact⟨rfl,b A⟩
def gj{a:Type}(c:Nat->a)(k:Nat)(x:a):Nat->a:=λb=>if b=k then x else c b
structure gC (w W:U) (owt:Nat->Nat) (tob k rb bb:Nat) (vs:Nat->V) (ns:Nat->List aN) (bs:Nat->Bool) (fresh:Bool) (N N2:List aN) (v v2:V):Prop where
 mod:G (λg=>owt g=1\/owt g=k+2) w W
 res:X W rb #[L false,C J 0 0,L false] 97
 gA:X W bb #[L fresh,v,L false] 97
 row:W.ownsRow 0 68 3 v N.length (N.flatMap dj)
 own:∀g,v.ownBlock=E g->w.heap.size<=g
 told:X W tob (lr (gj vs k v2) (gj bs k true)) 76
 jf:W.ownsRow 0 68 3 v2 (ns k++N2).length ((ns k++N2).flatMap dj)
 qu:∀g,v2.ownBlock=E g->(vs k).ownBlock=E g\/w.heap.size<=g
 apart:∀g,v.ownBlock=E g->v2.ownBlock≠E g
 box:w.heap.size<=rb/\w.heap.size<=bb/\rb≠bb
 bw:owt tob=1/\tob<w.heap.size/\∀g,(vs k).ownBlock=E g->owt g=k+2/\g<w.heap.size
theorem jM{W:U}{c:Array V}{b:TypeId}{v:V}{n:List V}(d:X W Q c b)(i:b≠68)(l:W.ownsRow 0 68 3 v P n):v.ownBlock≠E Q:=by
 intro a;obtain⟨_,e|⟨r,o,p,rfl,_,j,_⟩⟩:=l
 .rw[e.1] at a;simp[aV] at a
 .simp[aV] at a;subst a;exact d.ne j i rfl
section
variable {w W W':U} {owt:Nat->Nat} {tob k rb bb:Nat} {vs:Nat->V} {ns:Nat->List aN} {bs:Nat->Bool} {fresh:Bool} {N N2:List aN} {v v2:V}
theorem gC.still(a:gC w W owt tob k rb bb vs ns bs fresh N N2 v v2)(c:G No W W'):gC w W' owt tob k rb bb vs ns bs fresh N N2 v v2:=
 ⟨a.mod.trans (c.mono (λ_ _ b=>b.elim)),c.e a.res (λb=>b),c.e a.gA (λb=>b),c.owns a.row (λ_ _ b=>b),a.own,c.e a.told (λb=>b),c.owns a.jf (λ_ _ b=>b),a.qu,a.apart,a.box,a.bw⟩
theorem gC.xX(a:gC w W owt tob k rb bb vs ns bs fresh N N2 v v2)(b:k<8):W.cell? (u tob k J)=E v2:=by
 rw[a.told.T];have:k=0\/k=1\/k=2\/k=3\/k=4\/k=5\/k=6\/k=7:=by omega
 obtain rfl|rfl|rfl|rfl|rfl|rfl|rfl|rfl:=this<;>rfl
theorem gC.app(a:gC w W owt tob k rb bb vs ns bs fresh N N2 v v2)(c:G (λb=>v2.ownBlock=E b) W W')(j:W'.ownsRow 0 68 3 v2 (ns k++N2).length ((ns k++N2).flatMap dj)):gC w W' owt tob k rb bb vs ns bs fresh N N2 v v2:=
 ⟨a.mod.trans' c (λb d l=>by
  obtain e|e:=a.qu b d
  .exact .inr (a.bw.2.2 b e).1
  .omega),c.e a.res (jM a.res (by decide) a.jf),c.e a.gA (jM a.gA (by decide) a.jf),c.owns a.row (λb d i=>a.apart b d i),a.own,c.e a.told (jM a.told (by decide) a.jf),j,a.qu,a.apart,a.box,a.bw⟩
theorem gC.SU{w3:U}{v':V}{x:aN}(a:gC w W owt tob k rb bb vs ns bs fresh N N2 v v2)(l:Obj)(r:w3.ownsRow 0 68 3 v' (N.length+1) (N.flatMap dj++dj x))(e:(W.alloc l).grownBy w3 v.ownBlock)(s:fm (W.alloc l) v v'):gC w (w3.setCell (u bb 1 J) v') owt tob k rb bb vs ns bs fresh (N++[x]) N2 v' v2:=by
 have n:G (λb=>v.ownBlock=E b) W w3:=((G.refl _ W).alloc l).grown e (λb e=>.inl e);have i:G (λb=>v.ownBlock=E b\/b=bb) W (w3.setCell (u bb 1 J) v'):=(n.mono (λ_ _ x=>.inl x)).setCell (p:=u bb 1 J) (.inl (.inr rfl)) _;have o:X w3 bb _ _:=n.e a.gA (jM a.gA (by decide) a.row);have y:=a.gA.lt;have j:∀b,v'.ownBlock=E b->v.ownBlock=E b\/W.heap.size<b:=λb e=>by
  obtain d|d:=s b e
  .exact .inl d
  .rw[bW] at d;exact .inr (by omega)
 have A:=a.mod.size;have p:v'.ownBlock≠E bb:=λc=>by
  obtain d|d:=j bb c
  .exact jM a.gA (by decide) a.row d
  .omega
 refine⟨a.mod.trans' i (λb e z=>?_),i.e a.res ?_,o.set 1 v',?_,λb e=>?_,i.e a.told ?_,i.owns a.jf (λb e c=>?_),a.qu,λb e c=>?_,a.box,a.bw⟩
 .obtain d|d:=e
  .have:=a.own b d;omega
  .have:=a.box.2.1;omega
 .rintro(c|c)
  .exact jM a.res (by decide) a.row c
  .exact a.box.2.2 c
 .rw[bG,jW];simp only[jE,uw,dG,eL,iR];exact jh r (a:=u bb 1 J) p _
 .obtain d|d:=j b e
  .exact a.own b d
  .omega
 .rintro(c|c)
  .exact jM a.told (by decide) a.row c
  .have:=a.bw.2.1;have:=a.box.2.1;omega
 .obtain c|c:=c
  .exact a.apart b c e
  .subst c;exact jM a.gA (by decide) a.jf e
 .obtain d|d:=j b e
  .exact a.apart b d c
  .have:=fE a.jf b c;omega
theorem gC.qa{v':V}{x:aN}(b:gC w W owt tob k rb bb vs ns bs fresh N N2 v v2)(o:k<8)(r:w.heap.size<=Q)(n:∀a,v.ownBlock=E a->a<Q)(j:W.ownsRow 0 68 3 v' ((ns k++N2).length+1) ((ns k++N2).flatMap dj++dj x))(l:∀a,v'.ownBlock=E a->v2.ownBlock=E a\/Q<=a):gC w (W.setCell (u tob k J) v') owt tob k rb bb vs ns bs fresh N (N2++[x]) v v':=by
 have e:G (λa=>a=tob) W (W.setCell (u tob k J) v'):=(G.refl (λa=>a=tob) W).setCell (p:=u tob k J) (.inl rfl) _;refine⟨b.mod.trans' e (λa c p=>.inl (by rw[c];exact b.bw.1)),e.e b.res (λd=>by have:=b.bw.2.1;have:=b.box.1;omega),e.e b.gA (λd=>by have:=b.bw.2.1;have:=b.box.2.1;omega),e.owns b.row (λa c d=>by subst d;exact jM b.told (by decide) b.row c),b.own,?_,?_,λa c=>?_,λa c d=>?_,b.box,b.bw⟩
 .have:=b.told.set k v';have d:(lr (gj vs k v2) (gj bs k true)).setIfInBounds k v'=lr (gj vs k v') (gj bs k true):=by
   have:k=0\/k=1\/k=2\/k=3\/k=4\/k=5\/k=6\/k=7:=by omega
   obtain rfl|rfl|rfl|rfl|rfl|rfl|rfl|rfl:=this<;>rfl
  rw[<-d];exact this
 .rw[<-cQ,bG,jW];simp only[jE,uw,dG,eL,iR];exact e.owns j (λa c d=>by subst d;exact jM b.told (by decide) j c)
 .obtain i|i:=l a c
  .exact b.qu a i
  .exact .inr (by omega)
 .obtain i|i:=l a d
  .exact b.apart a c i
  .have:=n a c;omega
end
structure dJ (n:Nat) (xs:List V) (x:aN) (l:V) (W W':U):Prop where
 e:∀b cs T',X W b cs T'->l.ownBlock≠E b->X W' b cs T'
 row:∀u,W.ownsRow 0 68 3 u (n+1) (xs++dj x)->W'.ownsRow 0 68 3 u (n+1) (xs++dj x)
theorem dJ.refl(c:Nat)(d:List V)(x:aN)(b:V)(W:U):dJ c d x b W W:=⟨λ_ _ _ a _=>a,λ_ a=>a⟩
theorem dJ.of{n:Nat}{xs:List V}{x:aN}{l:V}{W W':U}(b:G No W W'):dJ n xs x l W W':=⟨λ_ _ _ a _=>b.e a (λx=>x),λ_ a=>b.owns a (λ_ _ x=>x)⟩
def lV(w0 w:U)(tob k:Nat)(x:aN)(c:V)(e:Nat)(i:List V)(d:Nat)(v:V)(W:U):Prop:=
 match d with
 |0|2|4|5|14|15=>v=g (E (u tob 0 J))
 |1|3=>v=F K (k:Int)
 |6|16=>v=g (E (u tob k J))
 |7=>v=c
 |8=>v=F K x.n
 |9=>v=F K x.c
 |10=>v=F K x.l
 |11=>v=t #[F K x.n,F K x.c,F K x.l]
 |12=>∃a,v=C (E (u a 0 J)) 1 1/\X W a #[F K x.n,F K x.c,F K x.l] 68/\c.ownBlock≠E a
 |13=>W.ownsRow 0 68 3 v (e+1) (i++dj x)/\∀b,v.ownBlock=E b->c.ownBlock=E b\/w.heap.size<=b
 |_=>True
theorem lV.fW{w0 w:U}{tob k:Nat}{x:aN}{b:List V}(e:Nat)(v:V)(W W':U)(d:dJ Q b x n W W')(a:lV w0 w tob k x n Q b e v W):lV w0 w tob k x n Q b e v W':=by
 unfold lV at a ⊢;split at a
 all_goals first
  |exact a
  |(obtain⟨i,j,l,c⟩:=a;exact⟨i,j,d.e _ _ _ l c,c⟩)
  |exact⟨d.row _ a.1,a.2⟩
noncomputable def SV(a:Nat):Code:=ub (f40.body.getD .skip) a
def pz(w0 w W:U)(owt:Nat->Nat)(tob k rb bb:Nat)(vs:Nat->V)(ns:Nat->List aN)(bs:Nat->Bool)(fresh:Bool)(N N2:List aN)(v v2:V):Prop:=gC w0 W owt tob k rb bb vs ns bs fresh N N2 v v2/\G (λa=>v2.ownBlock=E a) w W
section
variable {w0 w W W':U} {owt:Nat->Nat} {tob k rb bb:Nat} {vs:Nat->V} {ns:Nat->List aN} {bs:Nat->Bool} {fresh:Bool} {N N2:List aN} {v v2:V}
theorem pz.still(a:pz w0 w W owt tob k rb bb vs ns bs fresh N N2 v v2)(b:G No W W'):pz w0 w W' owt tob k rb bb vs ns bs fresh N N2 v v2:=⟨a.1.still b,a.2.trans (b.mono (λ_ _ c=>c.elim))⟩
theorem pz.app(a:pz w0 w W owt tob k rb bb vs ns bs fresh N N2 v v2)(b:G (λc=>v2.ownBlock=E c) W W')(d:W'.ownsRow 0 68 3 v2 (ns k++N2).length ((ns k++N2).flatMap dj)):pz w0 w W' owt tob k rb bb vs ns bs fresh N N2 v v2:=⟨a.1.app b d,a.2.trans b⟩
theorem pz.xX(a:pz w0 w W owt tob k rb bb vs ns bs fresh N N2 v v2)(b:k<8):W.cell? (u tob k J)=E v2:=a.1.xX b
end
theorem SX{w0 w:U}{owt:Nat->Nat}{tob k rb bb:Nat}{vs:Nat->V}{ns:Nat->List aN}{bs:Nat->Bool}{fresh:Bool}{N N2:List aN}{v v2:V}{x:aN}(aa:gC w0 w owt tob k rb bb vs ns bs fresh N N2 v v2)(R:k<8)(cp:(ns k++N2).length+1<=1099511627776)(ai:Exit->Act->U->Prop)(au aP a2 bf br bF bT b5 av aw ay az aA aB aC aD aE aF aG aH aI aJ aK aL aO aQ aS aT aU aW aX aY aZ a0 a1 a3 a4 a5 a6 a7 a8 a9 ba bc bd bg bh bi bk bl bm bn bo bp bq bt bu bv bw bx bz bA bB bC bE bH bI bJ bL bM bO bP bQ bR bS bU bV bX bY bZ b0 b1 b2 b3 b4 b6 b7 b8 b9 ca cb cH cI cJ cK cs ct cu cv cw cx cy cA cB cD cE cF cG ax:V)
  (ak:∀(c0 c1 c2 c3 cL cM cO cP cR cS cT cU cV cW cX cY cZ:V) (v':V) (W:U),Hid (gC w0 W owt tob k rb bb vs ns bs fresh N (N2++[x]) v v')->ai .normal ⟨#[au,g (E (u tob 0 J)),F K (k:Int),aP,a2,bf,br,bF,bT,b5,av,aw,F K x.c,F K x.n,F K x.l,ay,az,aA,aB,aC,aD,aE,aF,aG,aH,aI,aJ,aK,aL,aO,aQ,aS,aT,aU,aW,aX,aY,aZ,a0,a1,a3,a4,a5,a6,a7,a8,a9,ba,bc,bd,bg,bh,bi,bk,bl,bm,bn,bo,bp,bq,bt,bu,bv,bw,bx,bz,bA,bB,bC,bE,bH,bI,bJ,bL,bM,bO,bP,bQ,bR,bS,bU,bV,bX,bY,bZ,b0,b1,b2,b3,b4,b6,b7,b8,b9,ca,cb,c0,c1,c2,c3,cL,cM,cO,cP,cR,cS,cT,cU,cV,cW,cX,cY,cZ,ax],[]⟩ W):
  Code.wp h (SV 21) ai ⟨#[au,g (E (u tob 0 J)),F K (k:Int),aP,a2,bf,br,bF,bT,b5,av,aw,F K x.c,F K x.n,F K x.l,ay,az,aA,aB,aC,aD,aE,aF,aG,aH,aI,aJ,aK,aL,aO,aQ,aS,aT,aU,aW,aX,aY,aZ,a0,a1,a3,a4,a5,a6,a7,a8,a9,ba,bc,bd,bg,bh,bi,bk,bl,bm,bn,bo,bp,bq,bt,bu,bv,bw,bx,bz,bA,bB,bC,bE,bH,bI,bJ,bL,bM,bO,bP,bQ,bR,bS,bU,bV,bX,bY,bZ,b0,b1,b2,b3,b4,b6,b7,b8,b9,ca,cb,cH,cI,cJ,cK,cs,ct,cu,cv,cw,cx,cy,cA,cB,cD,cE,cF,cG,ax],[]⟩ w:=by
 conv=>arg 4;dsimp only
 conv=>arg 2;whnf
 obtain⟨cr,c4,c5,c6,c7⟩:=fq Ap;have A:=l ak;have j:=l aa;obtain⟨n,o,rfl⟩:=aR aa.jf;obtain⟨i,ad⟩:∃i,(ns k++N2).length=i:=⟨_,rfl⟩;obtain⟨P,ar⟩:∃P,(ns k++N2).flatMap dj=P:=⟨_,rfl⟩;rw[ad] at cp j;have S:=l ad;have T:=l ar;clear ad ar;have dw:(0:Int)<=k:=by omega
 have dz:(k:Int)<8:=by omega
 clear ak aa;refine BT (n:=114) 17 (λW=>pz w0 w W owt tob k rb bb vs ns bs fresh N N2 v (C n i o)) (dJ i P x (C n i o)) (lV w0 w tob k x (C n i o) i P) (by kernel_rfl) rfl (by kernel_rfl) (by kernel_rfl) (λe v W W' af Z=>Z.fW e v W W' af) ?_ ?_ ⟨(b j).still (G.refl No w).drew,(G.refl _ w).drew⟩ ⟨_,rfl⟩
 .intro e ah c W dt I H d hd;have hi:e<18:=(Array.getElem?_eq_some_iff.1 I).1;have p:c.eval (.tmp 1)=g (E (u tob 0 J)):=H.rest 1 (by kernel_rfl);have r:c.eval (.tmp 2)=F K (k:Int):=H.rest 2 (by kernel_rfl);have s:c.eval (.tmp 12)=F K x.c:=H.rest 12 (by kernel_rfl);have y:c.eval (.tmp 13)=F K x.n:=H.rest 13 (by kernel_rfl);have z:c.eval (.tmp 14)=F K x.l:=H.rest 14 (by kernel_rfl);clear H
  have cm:e=0\/e=1\/e=2\/e=3\/e=4\/e=5\/e=6\/e=7\/e=8\/e=9\/e=10\/e=11\/e=12\/e=13\/e=14\/e=15\/e=16:=by omega
  obtain rfl|rfl|rfl|rfl|rfl|rfl|rfl|rfl|rfl|rfl|rfl|rfl|rfl|rfl|rfl|rfl|rfl:=cm
  all_goals
   replace I:=bD (show E _=E ah from I);subst I
  .refine dR _ rfl ?_;exact⟨_,rfl,d,dJ.refl _ _ _ _ _,p⟩
  .refine dR _ rfl ?_;exact⟨_,rfl,d,dJ.refl _ _ _ _ _,r⟩
  .refine dR _ rfl ?_;exact⟨_,rfl,d,dJ.refl _ _ _ _ _,p⟩
  .refine dR _ rfl ?_;exact⟨_,rfl,d,dJ.refl _ _ _ _ _,r⟩
  .have dk:c.tmps[98]?.getD undef=g (E (u tob 0 J)):=by simpa using (show c.tmps.getD 98 undef=_ from hd ⟨2,.data⟩ (by simp) rfl)
   have a:=l d;clear hd d p r s y z A j;go_simp
   first|exact b a|exact⟨_,rfl,b a,dJ.refl _ _ _ _ _,rfl⟩|exact⟨b a,dJ.refl _ _ _ _ _,rfl⟩|exact⟨b a,dJ.refl _ _ _ _ _⟩
  .have c8:c.tmps[100]?.getD undef=g (E (u tob 0 J)):=by simpa using (show c.tmps.getD 100 undef=_ from hd ⟨4,.data⟩ (by simp) rfl)
   have a:=l d;clear hd d p r s y z A j;go_simp
   first|exact b a|exact⟨_,rfl,b a,dJ.refl _ _ _ _ _,rfl⟩|exact⟨b a,dJ.refl _ _ _ _ _,rfl⟩|exact⟨b a,dJ.refl _ _ _ _ _⟩
  .have c9:c.tmps[101]?.getD undef=g (E (u tob 0 J)):=by simpa using (show c.tmps.getD 101 undef=_ from hd ⟨5,.data⟩ (by simp) rfl)
   have dl:c.tmps[99]?.getD undef=F K (k:Int):=by simpa using (show c.tmps.getD 99 undef=_ from hd ⟨3,.data⟩ (by simp) rfl)
   have a:=l d;clear hd d p r s y z A j;go_simp
   first|exact b a|exact⟨_,rfl,b a,dJ.refl _ _ _ _ _,rfl⟩|exact⟨b a,dJ.refl _ _ _ _ _,rfl⟩|exact⟨b a,dJ.refl _ _ _ _ _⟩
  .have c':c.tmps[102]?.getD undef=g (E (u tob k J)):=by simpa using (show c.tmps.getD 102 undef=_ from hd ⟨6,.data⟩ (by simp) rfl)
   have ck:W.cell? (u tob k J)=E (C n i o):=d.xX R;have a:=l d;clear hd d p r s y z A j;go_simp
   first|exact b a|exact⟨_,rfl,b a,dJ.refl _ _ _ _ _,rfl⟩|exact⟨b a,dJ.refl _ _ _ _ _,rfl⟩|exact⟨b a,dJ.refl _ _ _ _ _⟩
  .refine dR _ rfl ?_;exact⟨_,rfl,d,dJ.refl _ _ _ _ _,y⟩
  .refine dR _ rfl ?_;exact⟨_,rfl,d,dJ.refl _ _ _ _ _,s⟩
  .refine dR _ rfl ?_;exact⟨_,rfl,d,dJ.refl _ _ _ _ _,z⟩
  .have db:c.tmps[104]?.getD undef=F K x.n:=by simpa using (show c.tmps.getD 104 undef=_ from hd ⟨8,.data⟩ (by simp) rfl)
   have dc:c.tmps[105]?.getD undef=F K x.c:=by simpa using (show c.tmps.getD 105 undef=_ from hd ⟨9,.data⟩ (by simp) rfl)
   have dd:c.tmps[106]?.getD undef=F K x.l:=by simpa using (show c.tmps.getD 106 undef=_ from hd ⟨10,.data⟩ (by simp) rfl)
   have a:=l d;clear hd d p r s y z A j;go_simp
   first|exact b a|exact⟨_,rfl,b a,dJ.refl _ _ _ _ _,rfl⟩|exact⟨b a,dJ.refl _ _ _ _ _,rfl⟩|exact⟨b a,dJ.refl _ _ _ _ _⟩
  .have de:c.tmps[107]?.getD undef=t #[F K x.n,F K x.c,F K x.l]:=by simpa using (show c.tmps.getD 107 undef=_ from hd ⟨11,.data⟩ (by simp) rfl)
   have ag:G No W (W.alloc (m #[F K x.n,F K x.c,F K x.l] 68)):=(G.refl No W).alloc _;have ci:=l (d.still ag);have cj:=l (dJ.of (xs:=P) (l:=C n i o) (n:=i) (x:=x) ag);have cg:=l (show lV w0 w tob k x (C n i o) i P 12 (C (E (u W.heap.size 0 J)) 1 1) (W.alloc (m #[F K x.n,F K x.c,F K x.l] 68)) from⟨W.heap.size,rfl,X.new W _ _,λO=>by have:=fE d.1.jf _ O;omega⟩);clear hd d p r s y z A j ag;go_simp
   exact⟨_,rfl,b ci,b cj,b cg⟩
  .have ce:c.eval (.tmp 103)=C n i o:=hd ⟨7,.data⟩ (by simp) rfl;obtain⟨M,cf,ab,dr⟩:∃M,c.eval (.tmp 108)=C (E (u M 0 J)) 1 1/\X W M #[F K x.n,F K x.c,F K x.l] 68/\(C n i o).ownBlock≠E M:=hd ⟨12,.data⟩ (by simp) rfl;have ae:=d.1.jf;rw[b S,b T] at ae
   have cl:Reads W (C (E (u M 0 J)) 1 1) 1 (dj x):=.inr ⟨(u M 0 J),1,rfl,λdv cc hu=>by
    rw[dE,bK,ab.T,<-dy]
    exact hu⟩
   refine pH _ _ 66 rfl 68 cr _ 3 24 underlying66 c4 c5 c6 c7 rfl (by decide) (C n i o) i _ ce ae _ 1 (dj x) cf cl rfl (by intro cc hu;simp[dj] at hu;obtain rfl|rfl|rfl:=hu<;>rfl) (by unfold maxLen;omega) (by omega) ?_;intro v' w' ao Q af ap co;have cq:G (λB=>(C n i o).ownBlock=E B) W w':=(G.refl _ W).grown Q (λB R=>.inl R)
   refine⟨v',rfl,d.app cq (by rw[b S,b T];exact ap),⟨λM dq dm Z ab=>Z.grown Q (λO=>ab O.symm),λcc hu=>BV (by decide) (by omega) ae ao Q co ap hu⟩,ao,λB cn=>?_⟩;obtain O|O:=af B cn
   .exact .inl O
   .exact .inr (cC d.2.size O)
  .have dh:c.tmps[96]?.getD undef=g (E (u tob 0 J)):=by simpa using (show c.tmps.getD 96 undef=_ from hd ⟨0,.data⟩ (by simp) rfl)
   have a:=l d;clear hd d p r s y z A j;go_simp
   first|exact b a|exact⟨_,rfl,b a,dJ.refl _ _ _ _ _,rfl⟩|exact⟨b a,dJ.refl _ _ _ _ _,rfl⟩|exact⟨b a,dJ.refl _ _ _ _ _⟩
  .have df:c.tmps[110]?.getD undef=g (E (u tob 0 J)):=by simpa using (show c.tmps.getD 110 undef=_ from hd ⟨14,.data⟩ (by simp) rfl)
   have a:=l d;clear hd d p r s y z A j;go_simp
   first|exact b a|exact⟨_,rfl,b a,dJ.refl _ _ _ _ _,rfl⟩|exact⟨b a,dJ.refl _ _ _ _ _,rfl⟩|exact⟨b a,dJ.refl _ _ _ _ _⟩
  .have dg:c.tmps[111]?.getD undef=g (E (u tob 0 J)):=by simpa using (show c.tmps.getD 111 undef=_ from hd ⟨15,.data⟩ (by simp) rfl)
   have di:c.tmps[97]?.getD undef=F K (k:Int):=by simpa using (show c.tmps.getD 97 undef=_ from hd ⟨1,.data⟩ (by simp) rfl)
   have a:=l d;clear hd d p r s y z A j;go_simp
   first|exact b a|exact⟨_,rfl,b a,dJ.refl _ _ _ _ _,rfl⟩|exact⟨b a,dJ.refl _ _ _ _ _,rfl⟩|exact⟨b a,dJ.refl _ _ _ _ _⟩
 .intro ah c W I H d hF;replace I:=bD (show E _=E ah from I);subst I;obtain⟨f8,f9⟩:=hF 13 (by decide) (by decide);have aj:c.tmps.getD 112 undef=g (E (u tob k J)):=hF 16 (by decide) (by decide);have f8:W.ownsRow 0 68 3 (c.tmps.getD 109 undef) (i+1) (P++dj x):=f8;have f9:∀B,(c.tmps.getD 109 undef).ownBlock=E B->(C n i o).ownBlock=E B\/w.heap.size<=B:=f9
  obtain⟨cd,Y⟩:∃cd,c.tmps.getD 109 undef=cd:=⟨_,rfl⟩;rw[Y] at f8 f9;obtain⟨dn,dp,rfl⟩:=aR f8;have ch:=l (d.1.qa R (b j).mod.size (λB Q=>fE (b j).row B Q) (by rw[b S,b T];exact f8) f9);have am:=H.lit;rw[am];clear am;simp only[oW,oX,jT,nM,oY,nN,nO,Y,aj];have ck:W.cell? (u tob k J)=E (C n i o):=d.xX R;have dA:=d.1.told.aC;have dB:=d.1.told.lt;clear f8 f9 d hF Y aj H j;go_simp
  exact(b A) _ _ _ _ _ _ _ _ _ _ _ _ _ _ _ _ _ _ _ ch
theorem SY(i b c d e:Int)(a:Nat)(l:a<4):∃j,items i b c d e 4=items i b c d e a++⟨i,(a:Int),mQ b c d e a⟩::j:=by
 have:a=0\/a=1\/a=2\/a=3:=by omega
 obtain rfl|rfl|rfl|rfl:=this<;>exact⟨_,rfl⟩
def rJ(x:aB)(a:Nat):List aN:=items x.f.num (lv (x.f.c.at x.f.ep,x.f.Y) 0) (lv (x.f.c.at x.f.ep,x.f.Y) 1) (lv (x.f.c.at x.f.ep,x.f.Y) 2) (lv (x.f.c.at x.f.ep,x.f.Y) 3) a
theorem SZ(x:aB)(a:Nat)(b:a<4):rJ x (a+1)=rJ x a++[⟨x.f.num,(a:Int),lv (x.f.c.at x.f.ep,x.f.Y) a⟩]:=by
 unfold rJ;rw[F7];have:a=0\/a=1\/a=2\/a=3:=by omega
 obtain rfl|rfl|rfl|rfl:=this<;>rfl
theorem S3(x:aB)(a:Nat)(d:a<4):∃b,jx x=rJ x a++⟨x.f.num,(a:Int),lv (x.f.c.at x.f.ep,x.f.Y) a⟩::b:=by
 obtain⟨b,c⟩:=SY x.f.num (lv (x.f.c.at x.f.ep,x.f.Y) 0) (lv (x.f.c.at x.f.ep,x.f.Y) 1) (lv (x.f.c.at x.f.ep,x.f.Y) 2) (lv (x.f.c.at x.f.ep,x.f.Y) 3) a d;refine⟨b,?_⟩;unfold jx rJ;rw[c];have:a=0\/a=1\/a=2\/a=3:=by omega
 obtain rfl|rfl|rfl|rfl:=this<;>rfl
def eu(b:List aB)(a c:Nat):List aN:=(b.take a).flatMap jx++(match b[a]? with|some d=>rJ d c|none=>[])
theorem xY(b:List aB)(a:Nat):eu b a 0=(b.take a).flatMap jx:=by
 unfold eu
 cases b[a]?<;>simp[rJ,items]
theorem S4(b:List aB)(a c:Nat)(hi:a<b.length)(d:c<4):eu b a (c+1)=eu b a c++[⟨b[a].f.num,(c:Int),lv (b[a].f.c.at b[a].f.ep,b[a].f.Y) c⟩]:=by
 unfold eu;rw[du hi];simp only;rw[SZ _ _ d,cQ]
theorem Hk(b:List aB)(a:Nat)(hi:a<b.length):eu b a 4=eu b (a+1) 0:=by
 rw[xY,mD,du hi];unfold eu;rw[du hi,jW];simp only[qS,jE,uw,dG];rfl
theorem S5(a:List aB):eu a a.length 0=a.flatMap jx:=by rw[xY,fN]
theorem Hm(a:List aB)(b c:Nat)(hi:b<a.length)(j:c<4):∃d,a.flatMap jx=eu a b c++⟨a[b].f.num,(c:Int),lv (a[b].f.c.at a[b].f.ep,a[b].f.Y) c⟩::d:=by
 obtain⟨d,i⟩:=S3 a[b] c j;refine⟨d++(a.drop (b+1)).flatMap jx,?_⟩;have e:a=a.take b++a[b]::a.drop (b+1):=by rw[<-zq hi,EA]
 conv=>lhs;rw[e]
 rw[jW,jE,i];unfold eu;rw[du hi];simp[cQ]
theorem S6(b:∀x∈i,1<=x.f.num/\x.f.num<=20):∀x∈i.flatMap jx,x.ok:=λx a=>by
 obtain⟨c,hy,a⟩:=List.mem_flatMap.1 a;exact Ao ⟨by have:=b c hy;omega,(b c hy).2⟩ (cz 4) x a
theorem S7(c b:Nat)(l:b<=4):∀x∈eu i c b,x∈i.flatMap jx:=λx a=>by
 by_cases hi:c<i.length
 .by_cases e:b<4
  .obtain⟨n,d⟩:=Hm i c b hi e;rw[d];exact List.mem_append_left _ a
  .obtain rfl:b=4:=by omega
   rw[Hk i c hi,xY] at a;obtain⟨j,hy,a⟩:=List.mem_flatMap.1 a;exact List.mem_flatMap.2 ⟨j,sM hy,a⟩
 .unfold eu at a;rw[tU (by omega),wk (by omega)] at a;simpa using a
theorem S8(c:dC i B)(a:Nat)(hi:a<i.length)(j:Nat)(y:j<4):nU B i[a].f.num (j:Int)=(lv (i[a].f.c.at i[a].f.ep,i[a].f.Y) j,0):=by
 have s:=c.iw _ (eK hi);unfold nU;rw[f (by omega)];have G:=c.one i[a].f.num.toNat (by omega);have A:((i[a].f.num.toNat:Nat):Int)=i[a].f.num:=by omega
 obtain⟨d,o⟩|⟨e,n,d,o,p⟩:=c.find i[a].f.num s
 .exfalso;unfold dF at d
  cases l:i.findIdx? (λx=>x.f.num==i[a].f.num) with
  |none=>
   rw[nd] at l;have:=l i[a] (eK hi);simp at this
  |some b=>rw[l] at d;simp only at d;omega
 .have r:a=e:=by
   obtain b|b|b:=yK a e
   .have:=(mh.1 c.sort) a e hi n b;omega
   .exact b
   .have:=(mh.1 c.sort) e a n hi b;omega
  subst r;rw[p];simp only;rw[f (by omega)];rfl
structure xZ (w w':U) (owt:Nat->Nat) (tob k:Nat) (vs:Nat->V) (ns:Nat->List aN) (bs:Nat->Bool) (N:List aN) (v v2:V):Prop where
 mod:G (λg=>owt g=1\/owt g=k+2) w w'
 row:w'.ownsRow 0 68 3 v N.length (N.flatMap dj)
 own:∀g,v.ownBlock=E g->w.heap.size<=g
 told:X w' tob (lr (gj vs k v2) (gj bs k true)) 76
 jf:w'.ownsRow 0 68 3 v2 (ns k++N).length ((ns k++N).flatMap dj)
 qu:∀g,v2.ownBlock=E g->(vs k).ownBlock=E g\/w.heap.size<=g
 apart:∀g,v.ownBlock=E g->v2.ownBlock≠E g
theorem gC.done{w W W':U}{owt:Nat->Nat}{tob k rb bb:Nat}{vs:Nat->V}{ns:Nat->List aN}{bs:Nat->Bool}{fresh:Bool}{N:List aN}{v v2:V}(a:gC w W owt tob k rb bb vs ns bs fresh N N v v2)(e:G (λd=>d=rb\/d=bb) W W'):xZ w W' owt tob k vs ns bs N v v2:=by
 have j:=a.box;have n:=a.bw.2.1;refine⟨a.mod.trans' e (λd c l=>by obtain i|i:=c<;>omega),e.owns a.row (λd c b=>?_),a.own,e.e a.told (by omega),e.owns a.jf (λd c b=>?_),a.qu,a.apart⟩
 .obtain b|b:=b
  .subst b;exact jM a.res (by decide) a.row c
  .subst b;exact jM a.gA (by decide) a.row c
 .obtain b|b:=b
  .subst b;exact jM a.res (by decide) a.jf c
  .subst b;exact jM a.gA (by decide) a.jf c
theorem gC.start{w:U}{owt:Nat->Nat}{tob k:Nat}{vs:Nat->V}{ns:Nat->List aN}{bs:Nat->Bool}{fresh:Bool}(c:oc w owt tob vs ns bs)(i:k<8):gC w (((w.setCell ⟨tob,8+k,J⟩ (L true)).alloc (m #[L false,C J 0 0,L false] 97)).alloc (m #[L fresh,C J 0 0,L false] 97)) owt tob k w.heap.size (w.heap.size+1) vs ns bs fresh [] [] (C J 0 0) (vs k):=by
 have r:=c.e.lt;have p:=(G.refl (λb=>b=tob) w).setCell (p:=⟨tob,8+k,J⟩) (.inl rfl) (L true);have j:G No (w.setCell ⟨tob,8+k,J⟩ (L true)) (((w.setCell ⟨tob,8+k,J⟩ (L true)).alloc (m #[L false,C J 0 0,L false] 97)).alloc (m #[L fresh,C J 0 0,L false] 97)):=((G.refl No _).alloc _).alloc _;have o:(w.setCell ⟨tob,8+k,J⟩ (L true)).heap.size=w.heap.size:=by simp
 have l:=(X.new (w.setCell ⟨tob,8+k,J⟩ (L true)) #[L false,C J 0 0,L false] 97).alloc (m #[L fresh,C J 0 0,L false] 97);have n:=X.new ((w.setCell ⟨tob,8+k,J⟩ (L true)).alloc (m #[L false,C J 0 0,L false] 97)) #[L fresh,C J 0 0,L false] 97;rw[bW,o] at n;rw[o] at l
 refine⟨(p.mono (λb _ d=>.inl (by rw[d];exact c.bw))).trans (j.mono (λ_ _ e=>e.elim)),l,n,dx _ _ _ _,λb a=>by simp[aV] at a,?_,?_,λb a=>.inl a,λb a=>by simp[aV] at a,⟨cz _,by omega,by omega⟩,c.bw,r,λb a=>⟨c.own k i b a,fE (c.rows k i) b a⟩⟩
 .have:=c.e.set (8+k) (L true);have d:(lr vs bs).setIfInBounds (8+k) (L true)=lr (gj vs k (vs k)) (gj bs k true):=by
   have:k=0\/k=1\/k=2\/k=3\/k=4\/k=5\/k=6\/k=7:=by omega
   obtain rfl|rfl|rfl|rfl|rfl|rfl|rfl|rfl:=this<;>rfl
  rw[<-d];exact j.e this (λe=>e)
 .rw[dG];exact j.owns (p.owns (c.rows k i) (λb a d=>by subst d;exact jM c.e (by decide) (c.rows k i) a)) (λ_ _ e=>e)
theorem S9{w:U}{bt:Nat->Nat}{owt:Nat->Nat}{tob:Nat}{vs:Nat->V}{ns:Nat->List aN}{bs:Nat->Bool}(bf:bB w bt Q n i p)(hS:dC i B)(ag:oc w owt tob vs ns bs)(bg:∀s,bt s≠0->owt s=0)(k:Nat)(bi:k<8){t:Option (List aX)}(ay:pq t (ns k) (bs k))(aH:(ns k).length<=1099511627000)(most:Int)(bn:1<=most/\most<=50)(af:Nat):
  Calls h 40 #[g (E (u Q 0 J)),g (E (u tob 0 J)),F K k,F K most] w λao w'=>∃v v2,ao=q (aq #[fk t.isNone v (bP most ⟨[],false,t.getD [],af⟩ (jd B 21)).more,F K 0])/\xZ w w' owt tob k vs ns bs (bP most ⟨[],false,t.getD [],af⟩ (jd B 21)).bO v v2:=by
 rw[hS.items,ay.fresh];have bd:l7 (⟨[],false,t.getD [],af⟩:fj).es (ns k++(⟨[],false,t.getD [],af⟩:fj).bO):=by
  show l7 (t.getD []) (ns k++[]);rw[dG];exact ay.At
 generalize az:(⟨[],false,t.getD [],af⟩:fj)=j at *;have aF:j.bO=[]:=by rw[<-az]
 have bm:j.more=false:=by rw[<-az]
 have bM:=l (λ(d a:Nat) (A:a<=4)=>Ar (most:=most) (eu i d a) j bd (λc S=>S6 hS.iw c (S7 d a A c S)));have bL:=l (λ(e:List aN)=>tm (most:=most) e j (by rw[aF];simp;omega));have ST:=l (gC.start (fresh:= !bs k) ag bi);have au:=l (λ(W:U) (ah:G (λs=>owt s=1\/owt s=k+2) w W)=>bf.mod ah (λs aC ao=>by have:=bg s aC;omega));have bU:w.cell? ⟨tob,8+k,J⟩=E (L (bs k)):=by
  rw[ag.e.T];have:k=0\/k=1\/k=2\/k=3\/k=4\/k=5\/k=6\/k=7:=by omega
  obtain rfl|rfl|rfl|rfl|rfl|rfl|rfl|rfl:=this<;>rfl
 have cj:=ag.e.aC;have ck:=ag.e.lt;have cJ:(0:Int)<=k:=by omega
 have cK:(k:Int)<8:=by omega
 have b9:¬(k:Int)<0:=by omega
 have ca:¬(8:Int)<=(k:Int):=by omega
 have cb:¬(k:Int)>=8:=by omega
 have cc:¬most<1:=by omega
 have cd:¬most>50:=by omega
 have a4:=l hS;have bA:=l aH;have aZ:=l bi;have bz:=l bn;have a5:=l (show(bP most j (eu i 0 0)).bO=[]/\(bP most j (eu i 0 0)).more=false from by rw[xY];exact⟨aF,bm⟩);clear bd aF bm az bf hS ag bg ay aH bn;go_enter func40,ntmps40;go_upto_region 7 with fail;generalize (((w.setCell ⟨tob,8+k,J⟩ (L true)).alloc (m #[L false,C J 0 0,L false] 97)).alloc (m #[L (!bs k),C J 0 0,L false] 97))=co at *
 generalize w.heap.size+1=bb at *;generalize w.heap.size=rb at *;have a7:=l (show ∃v2,gC w co owt tob k rb bb vs ns bs (!bs k) [] [] (C J 0 0) v2 from⟨_,b ST⟩);clear bU cj ck ST b9 ca cb cc cd;go_wp2_with fail
 go_loopw [11] (λT aW=>∃(d:Nat) (N:List aN) (v v2:V),T=F K (d:Int)/\d<=i.length/\Hid (gC w aW owt tob k rb bb vs ns bs (!bs k) N N v v2)/\Hid ((bP most j (eu i d 0)).bO=N/\(bP most j (eu i d 0)).more=false)) (λT _=>i.length - (intOf T).toNat)
 case atStart=>
  obtain⟨v2,b7⟩:=b a7;exact⟨0,[],_,v2,rfl,gr _,b7,b a5⟩
 case round=>
  obtain⟨d,N,v,v2,rfl,hi,r,y⟩:=hrel;clear a7 a5;have R:=(b au) wr (b r).mod;have cA:=R.fg;obtain⟨bQ,bV,aK⟩:∃bO a,n=C bO i.length a:=by
   obtain⟨ax,bZ⟩|⟨ap,a9,ax,_⟩:=R.kL
   .exact⟨J,0,by rw[bZ,ax];rfl⟩
   .exact⟨_,_,ax⟩
  have a8:wr.cell? (u Q 0 J)=E (C bQ i.length bV):=by rw[<-aK];exact R.e.T 0
  have bv:=R.e.lt;by_cases aa:d<i.length
  .have b3:(d:Int)<(i.length:Int):=by omega
   have cE:(0:Int)<=d:=by omega
   have cF:K.wrap ((d:Int)+1)=((d+1:Nat):Int):=by rw[bh _ (by omega) (by omega)];rfl
   have ct:=l aa;obtain⟨c,S⟩:∃c,i[d]=c:=⟨_,rfl⟩;have bx:=l (λ(a:Nat) (A:a<4)=>(show nU B c.f.num (a:Int)=(lv (c.f.c.at c.f.ep,c.f.Y) a,0) from by rw[<-S];exact S8 (b a4) d aa a A));have bF:=l (λ(a:Nat) (A:a<4)=>(show eu i d (a+1)=eu i d a++[⟨c.f.num,(a:Int),lv (c.f.c.at c.f.ep,c.f.Y) a⟩] from by rw[<-S];exact S4 i d a aa A))
   have bC:=l (λ(a:Nat) (A:a<4)=>(show ∃aT,i.flatMap jx=eu i d a++⟨c.f.num,(a:Int),lv (c.f.c.at c.f.ep,c.f.Y) a⟩::aT from by rw[<-S];exact Hm i d a aa A));have bE:=l (Hk i d aa);obtain⟨ap,a9,aJ⟩:=R.some (by omega)
   have bw:=l (λ(W:U) (ah:G (λs=>owt s=1\/owt s=k+2) w W)=>(show W.cell? (u Q 0 J)=E (C (E (u ap 0 J)) i.length a9)/\Q<W.heap.size/\W.cell? ⟨ap,d* 10,J⟩=E (F K c.f.num) from by
    have aL:=(b au) W ah
    have bp:=aL
    rw[aJ] at bp
    obtain⟨_,cg⟩:=bp.parts rfl (by omega)
    refine⟨by rw[<-aJ];exact aL.e.T 0,aL.e.lt,?_⟩
    rw[<-S]
    exact cg.T d aa 0 (by omega)))
   have bH:=l (λ(W:U) (ah:G (λs=>owt s=1\/owt s=k+2) w W) (a:Nat)=>Gv ((b au) W ah) (b a4) c.f.num (a:Int));clear aJ S R aK;go_upto_region 10 with fail;go_upto_block 2 with fail;go_wp2_with fail
   go_loopw [12] (λT aW=>∃(a:Nat) (N:List aN) (v v2:V),T=F K (a:Int)/\a<=4/\Hid (gC w aW owt tob k rb bb vs ns bs (!bs k) N N v v2)/\Hid ((bP most j (eu i d a)).bO=N/\(bP most j (eu i d a)).more=false)) (λT _=>4 - (intOf T).toNat)
   case atStart=>exact⟨0,N,v,v2,rfl,gr _,r,y⟩
   case round=>
    obtain⟨a,N,v,v2,rfl,A,r,y⟩:=hrel;by_cases aA:a<4
    .have b1:(a:Int)<4:=by omega
     have cB:(0:Int)<=a:=by omega
     have cD:K.wrap ((a:Int)+1)=((a+1:Nat):Int):=by rw[bh _ (by omega) (by omega)];rfl
     obtain⟨a8,bv,ba⟩:=(b bw) wr (b r).mod;have Y:=(b bH) wr (b r).mod a;rw[(b bx) a aA] at Y;have Y:=l Y;obtain⟨e,aE⟩:∃e,lv (c.f.c.at c.f.ep,c.f.Y) a=e:=⟨_,rfl⟩;rw[aE] at Y;have ae:=(b bF) a aA;have am:=(b bC) a aA;rw[aE] at ae am;have ae:=l ae;have am:=l am;clear aE;have bY:ap<wr.heap.size:=jk wr _ ba;go_wp2_with fail;refine(b Y).mono ?_;rintro cx w3 ⟨rfl,bq⟩;have aj:=l ((b r).still bq)
     have aw:=(b bM) d a (by omega);rw[(b y).1] at aw;have ak:=(b bL) (eu i d a);rw[(b y).1] at ak;have cG:=b bz;have aH:=b bA;have bk:(ns k++N).length+1<=1099511627776:=by rw[bG];omega
     have bu:w3.ownsRow 0 68 3 (gj vs k v2 k) (ns k++N).length ((ns k++N).flatMap dj):=by
      unfold gj;rw[D rfl];exact(b aj).jf
     have a0:=l (SQ (b aj).told k (b aZ) bu (by omega) c.f.num (a:Int));have I:=l (aw.2 c.f.num (a:Int));have av:=l bk;have ak:=l ak;clear bq Y a8 bv ba bY r aw bu bk;go_wp2_with fail;refine(b a0).mono ?_;rintro cy x ⟨rfl,br⟩;have o:=l ((b aj).still br);clear br a0 aj;obtain⟨ai,bl⟩:∃ai,kN (ns k++N) c.f.num (a:Int)=ai:=⟨_,rfl⟩;rw[bl] at I ⊢;clear bl;by_cases H:e=ai
     .have b0:(e==ai)=true:=by simp[H]
      have ad:=l (show(bP most j (eu i d (a+1))).bO=N/\(bP most j (eu i d (a+1))).more=false from by
       rw[b ae,Al]
       unfold eo
       rw[D (by rw[b I];exact H)]
       exact b y)
      clear H I av;go_wp2;exact⟨⟨a+1,N,v,v2,rfl,by omega,o,ad⟩,by simp[intOf];omega⟩
     .have b0:(e==ai)=false:=by simp[H]
      obtain⟨M,P,rfl⟩:=aR (b o).row;have d0:x.cell? (u bb 0 J)=E (L (!bs k)):=(b o).gA.T 0;have d1:x.cell? (u bb 1 J)=E (C M N.length P):=(b o).gA.T 1;have d2:x.cell? (u bb 2 J)=E (L false):=(b o).gA.T 2;have bX:=(b o).gA.aC;have bc:=(b o).gA.lt;by_cases Z:(N.length:Int)=most
      .have b2:((N.length:Int)==most)=true:=by simp[Z]
       have aO:x.cell? (u rb 0 J)=E (L false):=(b o).res.T 0;have aQ:x.cell? (u rb 1 J)=E (C J 0 0):=(b o).res.T 1;have aS:x.cell? (u rb 2 J)=E (L false):=(b o).res.T 2;have ce:=(b o).res.aC;have cf:=(b o).res.lt;have cL:=(b o).box.2.2
       have ab:=l (show(bP most j (i.flatMap jx)).bO=N/\(bP most j (i.flatMap jx)).more=true from by
        obtain⟨aT,b5⟩:=b am
        rw[b5,Am]
        have aG:(⟨c.f.num,(a:Int),e⟩:aN).l≠tb (bP most j (eu i d a)).es (⟨c.f.num,(a:Int),e⟩:aN).n (⟨c.f.num,(a:Int),e⟩:aN).c:=by
         show e≠tb (bP most j (eu i d a)).es c.f.num (a:Int)
         rw[b I]
         exact H
        obtain⟨ch,cM,ci⟩:=QM (most:=most) aT aG (by rw[(b y).1];exact Z)
        exact⟨ch.trans (b y).1,ci⟩)
       clear H I av Z;go_wp2;refine cN (by simp[results,results40,go_sem,aO,aQ,aS];try rfl) rfl ?_;refine⟨C M N.length P,v2,?_,?_⟩
       .rw[(b ab).2];rfl
       .rw[(b ab).1];exact(b o).done (by repeat' (first|with_reducible exact G.refl _ _|refine G.setCell ?_ (.inl (.inl rfl)) _|refine G.setCell ?_ (.inl (.inr rfl)) _))
      .have b2:((N.length:Int)==most)=false:=by simp[Z]
       have ad:=l (show(bP most j (eu i d (a+1))).bO=N++[⟨c.f.num,(a:Int),e⟩]/\(bP most j (eu i d (a+1))).more=false from by
        rw[b ae,Al]
        have aG:¬(⟨c.f.num,(a:Int),e⟩:aN).l=tb (bP most j (eu i d a)).es (⟨c.f.num,(a:Int),e⟩:aN).n (⟨c.f.num,(a:Int),e⟩:aN).c:=by
         show ¬e=tb (bP most j (eu i d a)).es c.f.num (a:Int)
         rw[b I]
         exact H
        unfold eo
        rw[f aG,f (by rw[(b y).1];exact Z)]
        exact⟨by rw[(b y).1],(b y).2⟩)
       have aP:G No x (x.alloc (m #[F K c.f.num,F K (a:Int),F K e] 68)):=(G.refl _ _).alloc _;have a1:=l (aP.owns (b o).row (λ_ _ c=>c));have aY:=l (aP.e (b o).gA (λc=>c))
       have a3:=l (show Reads (x.alloc (m #[F K c.f.num,F K (a:Int),F K e] 68)) (C (E (u x.heap.size 0 J)) 1 1) 1 (dj ⟨c.f.num,(a:Int),e⟩) from .inr ⟨(u x.heap.size 0 J),1,rfl,λcI cl hu=>by
        rw[dE,bK,(X.new x #[F K c.f.num,F K (a:Int),F K e] 68).T,<-dy]
        exact hu⟩)
       have a6:=l (show E bb≠(C M N.length P).ownBlock from λao=>jM (b o).gA (by decide) (b o).row ao.symm);have a2:=l (λ(aU:U) (cm:V) b4 aC b6=>(b o).SU (x:=⟨c.f.num,(a:Int),e⟩) (w3:=aU) (v':=cm) (m #[F K c.f.num,F K (a:Int),F K e] 68) b4 aC b6);obtain⟨b8,cp,cq,cr,cs⟩:=fq Ap;have cH:N.length<=1000:=by have:=b ak;omega
       clear aP H I Z;go_upto_region 20 with fail
       go_wp2_with (at_builtin;refine fJ rfl (.tmp 88) (.tmp 93) 66 rfl 68 b8 _ 3 24 underlying66 cp cq cr cs rfl (by decide) (C M N.length P) N.length (N.flatMap dj) (by simp[aM]) (by exact b a1) (C (E (u x.heap.size 0 J)) 1 1) 1 (dj ⟨c.f.num,(a:Int),e⟩) (by simp[aM]) (by exact b a3) rfl (by intro cl hu;simp[dj] at hu;obtain rfl|rfl|rfl:=hu<;>rfl) (by unfold maxLen;omega) (by omega) ?_;intro cO aU aI aD bo;obtain⟨cv,cw,rfl⟩:=aR aI;have ar:=X.grown (b aY) aD (b a6);have bR:=ar.T 1;have bT:=ar.lt;have bS:=ar.aC)
       have bI:=l ((b a2) aU _ aI aD bo);clear aI aD bo ar a1 aY a3 a6 a2 o d0 d1 d2 bX bc;go_upto_region 21 with fail;clear bR bT bS
       refine SX (x:=⟨c.f.num,(a:Int),e⟩) (b bI) (b aZ) (b av) _ _ _ _ _ _ _ _ _ _ _ _ _ _ _ _ _ _ _ _ _ _ _ _ _ _ _ _ _ _ _ _ _ _ _ _ _ _ _ _ _ _ _ _ _ _ _ _ _ _ _ _ _ _ _ _ _ _ _ _ _ _ _ _ _ _ _ _ _ _ _ _ _ _ _ _ _ _ _ _ _ _ _ _ _ _ _ _ _ _ _ _ _ _ _ _ _ _ _ _ _ _ _ _ _ _ _ _ _ _ ?_;intro c3 c4 c5 c6 cP cR cS cT cU cV cW cX cY cZ c0 c1 c2 cn cu bJ;go_wp2
       exact⟨⟨a+1,N++[⟨c.f.num,(a:Int),e⟩],_,cn,rfl,by omega,bJ,ad⟩,by simp[intOf];omega⟩
    .have b1:¬(a:Int)<4:=by omega
     obtain rfl:a=4:=by omega
     have ad:=l (show(bP most j (eu i (d+1) 0)).bO=N/\(bP most j (eu i (d+1) 0)).more=false from by
      have:=b y
      rw[b bE] at this
      exact this)
     go_wp2;exact⟨⟨d+1,N,v,v2,rfl,by omega,r,ad⟩,by simp[intOf];omega⟩
  .have b3:¬(d:Int)<(i.length:Int):=by omega
   obtain rfl:d=i.length:=by omega
   have ab:=l (show(bP most j (i.flatMap jx)).bO=N/\(bP most j (i.flatMap jx)).more=false from by
    have:=b y
    rw[S5] at this
    exact this)
   obtain⟨M,P,rfl⟩:=aR (b r).row;have d0:wr.cell? (u bb 0 J)=E (L (!bs k)):=(b r).gA.T 0;have d1:wr.cell? (u bb 1 J)=E (C M N.length P):=(b r).gA.T 1;have d2:wr.cell? (u bb 2 J)=E (L false):=(b r).gA.T 2;have bc:=(b r).gA.lt;have aO:wr.cell? (u rb 0 J)=E (L false):=(b r).res.T 0;have aQ:wr.cell? (u rb 1 J)=E (C J 0 0):=(b r).res.T 1;have aS:wr.cell? (u rb 2 J)=E (L false):=(b r).res.T 2
   have ce:=(b r).res.aC;have cf:=(b r).res.lt;clear R aK;go_wp2;refine cN (by simp[results,results40,go_sem,aO,aQ,aS];try rfl) rfl ?_;refine⟨C M N.length P,?_,v2,?_⟩
   .rw[(b ab).2];rfl
   .rw[(b ab).1];exact(b r).done (by repeat' (first|with_reducible exact G.refl _ _|refine G.setCell ?_ (.inl (.inl rfl)) _|refine G.setCell ?_ (.inl (.inr rfl)) _))
def gY(a:Bool)(c:V)(b:Bool):Array V:=#[L a,c,L b]
def gm(w:U)(a:List aN)(W:U)(b:V):Prop:=W.ownsRow 0 68 3 b a.length (a.flatMap dj)/\∀k,b.ownBlock=E k->w.heap.size<=k
structure bo (w:U) (D:List aN) (fre mo:Bool) (W W':U):Prop where
 e:∀b cs T',T'≠97->w.heap.size<=b->X W b cs T'->X W' b cs T'
 mV:∀b cs,w.heap.size<=b->X W b cs 97->cs.size=3->∃cs',X W' b cs' 97/\cs'.size=3/\(cs'=cs\/∃u,cs'=gY fre u mo/\gm w D W' u)
theorem bo.mod{w:U}{W W':U}{S:Nat->Prop}(d:G S W W')(hS:∀k,S k->k<w.heap.size):bo w I o j W W':=⟨λa _ _ _ e b=>d.e b (λc=>by have:=hS a c;omega),λa _ e b i=>⟨_,d.e b (λc=>by have:=hS a c;omega),i,.inl rfl⟩⟩
theorem bo.no{w:U}{D:List aN}{fre mo:Bool}{W W':U}(a:G No W W'):bo w D fre mo W W':=bo.mod a (λ_ b=>b.elim)
theorem gm.fW{w:U}{W W':U}(a:gm w I W n)(s:bo w I o j W W'):gm w I W' n:=by
 refine⟨?_,a.2⟩;obtain⟨d,l|⟨b,e,i,c,p,r,x⟩⟩:=a.1
 .exact⟨d,.inl l⟩
 .exact⟨d,.inr ⟨b,e,i,c,p,s.e _ _ _ (by decide) (a.2 b (by rw[c];rfl)) r,x⟩⟩
structure x' (w:U) (D:List aN) (fre mo:Bool) (err:Int) (S:Nat->Prop) (Post:U->Prop) (W:U) (e:Ending) (W':U):Prop where
 ex:∃u,e=q (aq #[fk fre u mo,F K err])/\gm w D W' u
 mod:G S W W'
 post:Post W'
structure tD (w:U) (Post:U->Prop):Prop where
 no:∀W W',Post W->G No W W'->Post W'
 box:∀W W' b cs,w.heap.size<=b->Post W->X W b cs 97->G (λk=>k=b) W W'->Post W'
noncomputable def Hn(a:Nat):Code:=ub (f17.body.getD .skip) a
def tE(w:U)(d:List aN)(i j:Bool)(e:Int)(l bb r:Nat)(n o:Int)(p:Nat)(v:V)(s:Nat->V)(W:U):Prop:=
 match p with
 |0=>v=g (E (u l 0 J))
 |1=>v=g (E (u l 0 J))
 |2=>v=g (E (u l 1 J))
 |3=>v=g (E (u r 0 J))
 |4=>v=g (E (u bb 2 J))
 |5=>v=F K n
 |6=>v=g (E (u bb 3 J))
 |7=>v=F K o
 |8=>∃a,v=aq #[fk i a j,F K e]/\gm w d W a
 |9=>∃a,v=aq #[fk i a j,F K e]/\gm w d W a
 |10=>∃a,v=fk i a j/\gm w d W a
 |11=>v=F K e
 |12=>∃b c,v=g (E (u b 0 J))/\X W b c 97/\c.size=3/\w.heap.size<=b
 |13=>∃b,s 12=g (E (u b 0 J))/\w.heap.size<=b/\∃c,X W b c 97/\c.size=3/\∃a,c=gY i a j/\gm w d W a
 |14=>v=F K e
 |_=>True
theorem tE.fW{w:U}{bb:Nat}{z:Int}(A:Nat)(v:V)(B:Nat->V)(W W':U)(i:bo w I o j W W')(a:tE w I o j p Q bb P S z A v B W):tE w I o j p Q bb P S z A v B W':=by
 unfold tE at a ⊢;split at a
 all_goals first
  |exact a
  |(obtain⟨y,d,b⟩:=a;exact⟨y,d,b.fW i⟩)
  |(obtain⟨c,n,d,b,r,e⟩:=a;obtain⟨cs',s,x,l⟩:=i.mV c n e b r;exact⟨c,cs',d,s,x,e⟩)
  |(obtain⟨c,d,b,n,r,e,y,G,H⟩:=a
    obtain⟨cs',s,x,l⟩:=i.mV c n b r e
    refine⟨c,d,b,cs',s,x,?_⟩
    obtain rfl|l:=l
    .exact⟨y,G,H.fW i⟩
    .exact l)
theorem Ta{w:U}{D:List aN}{fre mo:Bool}{err:Int}{bb:Nat}{M:Int}{S:Nat->Prop}{Post:U->Prop}(ag:w.cell? (u Q 1 J)=E (g (E (u P 0 J)))/\w.cell? (u bb 2 J)=E (F K p)/\w.cell? (u bb 3 J)=E (F K M))(hS:∀k,S k->k<w.heap.size/\k≠Q/\k≠bb)(ai:tD w Post)(aB:∀W,G No w W->Calls h 39 #[g (E (u P 0 J)),F K p,F K M] W λaz W'=>x' w D fre mo err S Post W az W')(ay:Exit->Act->U->Prop)(aJ cj cu cH c4 df dr dI aK aZ ba bl bn bB et eu cb ci ck cl cm cn co cp cq cr cs ct cv cw cx cy cA cB cD cE cF cG cI cJ cK cL cM cO cP cR cS cT cU cV cW cX cY cZ c0 c1 c2 c3 c5 c6 c7 c8 c9 c' db dc dd de dg dh di dj dk dl dm dn dp dq dt dv dw dz dA dB dC dD dF dH dJ dK dL dM dN dO dP dQ dS dT aL aO aP aQ aS aT aU aW aX aY a0 a1 a2 a3 a4 a5 a6 a7 a8 a9 bc bd bf bg bh bi bk eh ei ej ek el em en eo ep eq er es bm bp bq br bt bu bv bw bx bz bA bC bE bF bH bI bJ bL bM bO bP bQ bR bS bT bU bV bX bY bZ b0 b1 b2 b3 b4 b5 b6 b7 b8 b9 ca cc cd ce cf cg ch:V)
  (aC:∀(ew ey ez eB eC eD eE eF eG ev eH eI:V) (e:Nat) (i:V) (W:U),Hid (G S w W/\Post W/\X W e (gY fre i mo) 97/\gm w D W i/\w.heap.size<=e)->ay .normal ⟨#[aJ,g (E (u Q 0 J)),cj,cu,cH,g (E (u bb 0 J)),c4,df,dr,dI,aK,aZ,ba,bl,bn,bB,g (E (u e 0 J)),F K err,cb,ci,ck,cl,cm,cn,co,cp,cq,cr,cs,ct,cv,cw,cx,cy,cA,cB,cD,cE,cF,cG,cI,cJ,cK,cL,cM,cO,cP,cR,cS,cT,cU,cV,cW,cX,cY,cZ,c0,c1,c2,c3,c5,c6,c7,c8,c9,c',db,dc,dd,de,dg,dh,di,dj,dk,dl,dm,dn,dp,dq,dt,dv,dw,dz,dA,dB,dC,dD,dF,dH,dJ,dK,dL,dM,dN,dO,dP,dQ,dS,dT,aL,aO,aP,aQ,aS,aT,aU,aW,aX,aY,a0,a1,a2,a3,a4,a5,a6,a7,a8,a9,bc,bd,bf,bg,bh,bi,bk,ev,ew,ey,ez,eB,eC,eD,eE,eF,eG,eH,eI,bm,bp,bq,br,bt,bu,bv,bw,bx,bz,bA,bC,bE,bF,bH,bI,bJ,bL,bM,bO,bP,bQ,bR,bS,bT,bU,bV,bX,bY,bZ,b0,b1,b2,b3,b4,b5,b6,b7,b8,b9,ca,cc,cd,ce,cf,cg,ch],[]⟩ W):
  Code.wp h (Hn 17) ay ⟨#[aJ,g (E (u Q 0 J)),cj,cu,cH,g (E (u bb 0 J)),c4,df,dr,dI,aK,aZ,ba,bl,bn,bB,et,eu,cb,ci,ck,cl,cm,cn,co,cp,cq,cr,cs,ct,cv,cw,cx,cy,cA,cB,cD,cE,cF,cG,cI,cJ,cK,cL,cM,cO,cP,cR,cS,cT,cU,cV,cW,cX,cY,cZ,c0,c1,c2,c3,c5,c6,c7,c8,c9,c',db,dc,dd,de,dg,dh,di,dj,dk,dl,dm,dn,dp,dq,dt,dv,dw,dz,dA,dB,dC,dD,dF,dH,dJ,dK,dL,dM,dN,dO,dP,dQ,dS,dT,aL,aO,aP,aQ,aS,aT,aU,aW,aX,aY,a0,a1,a2,a3,a4,a5,a6,a7,a8,a9,bc,bd,bf,bg,bh,bi,bk,eh,ei,ej,ek,el,em,en,eo,ep,eq,er,es,bm,bp,bq,br,bt,bu,bv,bw,bx,bz,bA,bC,bE,bF,bH,bI,bJ,bL,bM,bO,bP,bQ,bR,bS,bT,bU,bV,bX,bY,bZ,b0,b1,b2,b3,b4,b5,b6,b7,b8,b9,ca,cc,cd,ce,cf,cg,ch],[]⟩ w:=by
 conv=>arg 4;dsimp only
 conv=>arg 2;whnf
 have ax:=l aC;have H:=l ag;have A:=l hS;have I:=l ai;have z:=l aB;have aF:∀ {n:Bool} {W:U},(match n with|false=>G No w W|true=>G S w W/\Post W)->G S w W:=λ{n W} j=>by
  cases n
  .exact j.mono (λ_ _ ah=>ah.elim)
  .exact j.1
 have ec:∀ {n:Bool} {W W':U},(match n with|false=>G No w W|true=>G S w W/\Post W)->G No W W'->(match n with|false=>G No w W'|true=>G S w W'/\Post W'):=λ{n W W'} j x=>by
  cases n
  .exact j.trans x
  .exact⟨j.1.trans (x.mono (λ_ _ ah=>ah.elim)),ai.no _ _ j.2 x⟩
 have ed:∀ {n:Bool} {W W':U} {e:Nat} {s:Array V},(match n with|false=>G No w W|true=>G S w W/\Post W)->X W e s 97->w.heap.size<=e->G (λk=>k=e) W W'->(match n with|false=>G No w W'|true=>G S w W'/\Post W'):=λ{n W W' e s} j ap d7 x=>by
  cases n
  .exact j.trans' x (λk ar d8=>by omega)
  .exact⟨j.1.trans' x (λk ar d8=>by omega),ai.box _ _ _ _ d7 j.2 ap x⟩
 have cells:∀ {n:Bool} {W:U},(match n with|false=>G No w W|true=>G S w W/\Post W)->W.cell? (u Q 1 J)=E (g (E (u P 0 J)))/\W.cell? (u bb 2 J)=E (F K p)/\W.cell? (u bb 3 J)=E (F K M):=λ{n W} j=>by
  have x:=aF j;have k:∀(ad Z:Nat) (v:V),¬S ad->w.cell? (u ad Z J)=E v->W.cell? (u ad Z J)=E v:=λad Z v d5 aj=>by
   have d9:=jk w _ aj;rw[oB (w:=w) (x.block _ d9 d5)];exact aj
  have no:=λ(ab:S Q)=>(hS _ ab).2.1 rfl;have aG:=λ(ab:S bb)=>(hS _ ab).2.2 rfl;exact⟨k _ _ _ no ag.1,k _ _ _ aG ag.2.1,k _ _ _ aG ag.2.2⟩
 clear aC ag hS ai aB;refine B7 (n:=186) 8 (λn W=>match n with|false=>G No w W|true=>G S w W/\Post W) (bo w D fre mo) (tE w D fre mo err Q bb P p M) (by kernel_rfl) rfl (by kernel_rfl) (λo v eg W W' au j=>j.fW o v eg W W' au) ?_ ?_ ?_ (G.refl No w).drew ⟨_,rfl⟩
 .intro o Z d W n eS Y ae c hd;have hi:o<15:=(Array.getElem?_eq_some_iff.1 Y).1;have y:d.eval (.tmp 1)=g (E (u Q 0 J)):=ae.rest 1 (by kernel_rfl);have T:d.tmps[5]?.getD undef=g (E (u bb 0 J)):=by simpa using ae.rest 5 (by kernel_rfl)
  clear ax ae;have d4:o=0\/o=1\/o=2\/o=3\/o=4\/o=5\/o=6\/o=7\/o=9\/o=10\/o=11\/o=12\/o=13\/o=14:=by omega
  obtain rfl|rfl|rfl|rfl|rfl|rfl|rfl|rfl|rfl|rfl|rfl|rfl|rfl|rfl:=d4
  all_goals
   replace Y:=bD (show E _=E Z from Y);subst Y
  .refine dR _ rfl ?_;exact⟨_,rfl,c,bo.no (G.refl _ _),y⟩
  .have eJ:d.tmps[128]?.getD undef=g (E (u Q 0 J)):=by simpa using (show d.tmps.getD 128 undef=_ from hd ⟨0,.data⟩ (by simp) rfl)
   have a:=l c;clear hd c y T H z A I;go_simp
   first|exact b a|exact⟨_,rfl,b a,bo.no (G.refl _ _),rfl⟩|exact⟨b a,bo.no (G.refl _ _),rfl⟩|exact⟨b a,bo.no (G.refl _ _)⟩
  .have eM:d.tmps[129]?.getD undef=g (E (u Q 0 J)):=by simpa using (show d.tmps.getD 129 undef=_ from hd ⟨1,.data⟩ (by simp) rfl)
   have a:=l c;clear hd c y T H z A I;go_simp
   first|exact b a|exact⟨_,rfl,b a,bo.no (G.refl _ _),rfl⟩|exact⟨b a,bo.no (G.refl _ _),rfl⟩|exact⟨b a,bo.no (G.refl _ _)⟩
  .have eN:d.tmps[130]?.getD undef=g (E (u Q 1 J)):=by simpa using (show d.tmps.getD 130 undef=_ from hd ⟨2,.data⟩ (by simp) rfl)
   have M:=(cells c).1;have a:=l c;clear hd c y T H z A I;go_simp
   first|exact b a|exact⟨_,rfl,b a,bo.no (G.refl _ _),rfl⟩|exact⟨b a,bo.no (G.refl _ _),rfl⟩|exact⟨b a,bo.no (G.refl _ _)⟩
  .have a:=l c;clear hd c y H z A I;go_simp
   first|exact b a|exact⟨_,rfl,b a,bo.no (G.refl _ _),rfl⟩|exact⟨b a,bo.no (G.refl _ _),rfl⟩|exact⟨b a,bo.no (G.refl _ _)⟩
  .have eP:d.tmps[132]?.getD undef=g (E (u bb 2 J)):=by simpa using (show d.tmps.getD 132 undef=_ from hd ⟨4,.data⟩ (by simp) rfl)
   have M:=(cells c).2.1;have a:=l c;clear hd c y T H z A I;go_simp
   first|exact b a|exact⟨_,rfl,b a,bo.no (G.refl _ _),rfl⟩|exact⟨b a,bo.no (G.refl _ _),rfl⟩|exact⟨b a,bo.no (G.refl _ _)⟩
  .have a:=l c;clear hd c y H z A I;go_simp
   first|exact b a|exact⟨_,rfl,b a,bo.no (G.refl _ _),rfl⟩|exact⟨b a,bo.no (G.refl _ _),rfl⟩|exact⟨b a,bo.no (G.refl _ _)⟩
  .have eQ:d.tmps[134]?.getD undef=g (E (u bb 3 J)):=by simpa using (show d.tmps.getD 134 undef=_ from hd ⟨6,.data⟩ (by simp) rfl)
   have M:=(cells c).2.2;have a:=l c;clear hd c y T H z A I;go_simp
   first|exact b a|exact⟨_,rfl,b a,bo.no (G.refl _ _),rfl⟩|exact⟨b a,bo.no (G.refl _ _),rfl⟩|exact⟨b a,bo.no (G.refl _ _)⟩
  .have r:∃i,d.eval (.tmp 136)=aq #[fk fre i mo,F K err]/\gm w D W i:=hd ⟨8,.data⟩ (by simp) rfl;refine dR _ rfl ?_;exact⟨_,rfl,c,bo.no (G.refl _ _),r⟩
  .obtain⟨i,r,B⟩:∃i,d.tmps.getD 127 undef=aq #[fk fre i mo,F K err]/\gm w D W i:=hd ⟨9,.data⟩ (by simp) rfl;have r:d.tmps[127]?.getD undef=aq #[fk fre i mo,F K err]:=by simpa using r
   unfold fk at r;have dV:=l B;clear B;have a:=l c;clear hd c y T H z A I;go_simp;exact⟨_,rfl,b a,bo.no (G.refl _ _),i,rfl,b dV⟩
  .obtain⟨i,r,B⟩:∃i,d.tmps.getD 127 undef=aq #[fk fre i mo,F K err]/\gm w D W i:=hd ⟨9,.data⟩ (by simp) rfl;have r:d.tmps[127]?.getD undef=aq #[fk fre i mo,F K err]:=by simpa using r
   unfold fk at r;clear B;have a:=l c;clear hd c y T H z A I;go_simp
   first|exact b a|exact⟨_,rfl,b a,bo.no (G.refl _ _),rfl⟩|exact⟨b a,bo.no (G.refl _ _),rfl⟩|exact⟨b a,bo.no (G.refl _ _)⟩
  .have av:G No W (W.alloc (m #[L false,C J 0 0,L false] 97)):=(G.refl No W).alloc _;have a:=l (ec c av);have dW:=l (bo.no (w:=w) (D:=D) (fre:=fre) (mo:=mo) av);have dU:=l (show tE w D fre mo err Q bb P p M 12 (g (E (u W.heap.size 0 J))) (λ_=>undef) (W.alloc (m #[L false,C J 0 0,L false] 97)) from⟨W.heap.size,_,rfl,X.new W _ _,rfl,(aF c).size⟩);clear hd c y T H z A I av;go_simp
   exact⟨_,rfl,b a,b dW,b dU⟩
  .obtain⟨e,s,r,B,aw,aI⟩:∃e s,d.eval (.tmp 16)=g (E (u e 0 J))/\X W e s 97/\s.size=3/\w.heap.size<=e:=hd ⟨12,.data⟩ (by simp) rfl;obtain⟨i,ee,ak⟩:∃i,d.eval (.tmp 137)=fk fre i mo/\gm w D W i:=hd ⟨10,.data⟩ (by simp) rfl;obtain⟨O,R,rfl⟩:=aR ak.1;refine wp_store_mid _ _ _ rfl e 0 (gY fre (C O D.length R) mo) r ee (B.there 0 3 (by omega)) (by kernel_rfl) (by simp[gY,Value.oneCell']) ?_
   have aA:X (W.setCells e 0 (gY fre (C O D.length R) mo).toList) e (gY fre (C O D.length R) mo) 97:=by
    have:=X.setCells (gY fre (C O D.length R) mo).toList 0 W _ B
    rwa [tQ _ _ (by rw[aw];rfl)] at this
   have am:G (λk=>k=e) W (W.setCells e 0 (gY fre (C O D.length R) mo).toList):=G.setCells (S:=λk=>k=e) (.inl rfl) _ 0 W (G.refl _ _);have hS:bo w D fre mo W (W.setCells e 0 (gY fre (C O D.length R) mo).toList):=by
    have aD:∀b' s aa,aa≠97->X W b' s aa->X (W.setCells e 0 (gY fre (C O D.length R) mo).toList) b' s aa:=λb' s aa ao j=>am.e j (j.ne B ao);have d3:gm w D (W.setCells e 0 (gY fre (C O D.length R) mo).toList) (C O D.length R):=by
     refine⟨?_,ak.2⟩;obtain⟨aH,af|⟨ad,dX,dY,aj,ap,d6,ef⟩⟩:=ak.1
     .exact⟨aH,.inl af⟩
     .exact⟨aH,.inr ⟨ad,dX,dY,aj,ap,aD _ _ _ (by decide) d6,ef⟩⟩
    refine⟨λb' s aa ao _ j=>aD b' s aa ao j,λb' cs' _ j au=>?_⟩;by_cases ab:b'=e
    .subst ab;exact⟨_,aA,rfl,.inr ⟨_,rfl,d3⟩⟩
    .exact⟨cs',am.e j ab,au,.inl rfl⟩
   refine⟨undef,rfl,ed c B aI am,hS,e,?_,aI,_,aA,rfl,_,rfl,ak.fW hS⟩;exact(qs (k:=12) rfl (by kernel_rfl)).trans r
  .have r:d.eval (.tmp 138)=F K err:=hd ⟨11,.data⟩ (by simp) rfl;refine sy _ rfl ?_;exact⟨_,rfl,c,bo.no (G.refl _ _),r⟩
 .intro Z d W Y ae c hd;replace Y:=bD (show E _=E Z from Y);subst Y;have c:G No w W:=c;have r:d.eval (.tmp 131)=g (E (u P 0 J)):=hd ⟨3,.data⟩ (by simp) rfl;have B:d.eval (.tmp 133)=F K p:=hd ⟨5,.data⟩ (by simp) rfl;have aw:d.eval (.tmp 135)=F K M:=hd ⟨7,.data⟩ (by simp) rfl;refine vS 39 _ _ rfl #[g (E (u P 0 J)),F K p,F K M] (by simp[r,B,aw]) (λW=>by kernel_rfl) ((b z) W c) ?_
  rintro az w' ⟨⟨i,rfl,hu⟩,x,ea⟩;exact⟨_,rfl,_,rfl,⟨(c.mono (λ_ _ ah=>ah.elim)).trans x,ea⟩,bo.mod x (λk ar=>((b A) k ar).1),i,rfl,hu⟩
 .intro d W ae c hF;obtain⟨e,af,d0,s,d1,eR,i,rfl,d2⟩:=hF 13 (by decide);have af:d.tmps.getD 16 undef=g (E (u e 0 J)):=(qs (k:=12) rfl (by kernel_rfl)).symm.trans af;have dZ:d.tmps.getD 17 undef=F K err:=hF 14 (by decide);have aE:=ae.lit;rw[aE];clear aE;simp only[oW,oX,jT,nM,oY,nN,nO,af,dZ];exact(b ax) _ _ _ _ _ _ _ _ _ _ _ _ e i W ⟨c.1,c.2,d1,d2,d0⟩
def tG(w:U)(e:List aN)(j l:Bool)(i:Int)(d bb s tob:Nat)(n o:Int)(p:Nat)(v:V)(r:Nat->V)(W:U):Prop:=
 match p with
 |0=>v=g (E (u d 0 J))
 |1=>v=g (E (u d 0 J))
 |2=>v=g (E (u d 2 J))
 |3=>v=g (E (u s 0 J))
 |4=>v=g (E (u d 0 J))
 |5=>v=g (E (u d 0 J))
 |6=>v=g (E (u d 4 J))
 |7=>v=g (E (u tob 0 J))
 |8=>v=g (E (u bb 2 J))
 |9=>v=F K n
 |10=>v=g (E (u bb 3 J))
 |11=>v=F K o
 |12=>∃a,v=aq #[fk j a l,F K i]/\gm w e W a
 |13=>∃a,v=aq #[fk j a l,F K i]/\gm w e W a
 |14=>∃a,v=fk j a l/\gm w e W a
 |15=>v=F K i
 |16=>∃b c,v=g (E (u b 0 J))/\X W b c 97/\c.size=3/\w.heap.size<=b
 |17=>∃b,r 16=g (E (u b 0 J))/\w.heap.size<=b/\∃c,X W b c 97/\c.size=3/\∃a,c=gY j a l/\gm w e W a
 |18=>v=F K i
 |_=>True
theorem tG.fW{w:U}{bb tob:Nat}{z:Int}(A:Nat)(v:V)(B:Nat->V)(W W':U)(i:bo w I o j W W')(a:tG w I o j p Q bb P tob S z A v B W):tG w I o j p Q bb P tob S z A v B W':=by
 unfold tG at a ⊢;split at a
 all_goals first
  |exact a
  |(obtain⟨y,d,b⟩:=a;exact⟨y,d,b.fW i⟩)
  |(obtain⟨c,n,d,b,r,e⟩:=a;obtain⟨cs',s,x,l⟩:=i.mV c n e b r;exact⟨c,cs',d,s,x,e⟩)
  |(obtain⟨c,d,b,n,r,e,y,G,H⟩:=a
    obtain⟨cs',s,x,l⟩:=i.mV c n b r e
    refine⟨c,d,b,cs',s,x,?_⟩
    obtain rfl|l:=l
    .exact⟨y,G,H.fW i⟩
    .exact l)
theorem Tb{w:U}{D:List aN}{fre mo:Bool}{err:Int}{bb tob:Nat}{M:Int}{S:Nat->Prop}{Post:U->Prop}(ae:w.cell? (u Q 2 J)=E (g (E (u P 0 J)))/\w.cell? (u Q 4 J)=E (g (E (u tob 0 J)))/\w.cell? (u bb 2 J)=E (F K p)/\w.cell? (u bb 3 J)=E (F K M))(hS:∀k,S k->k<w.heap.size/\k≠Q/\k≠bb)(ai:tD w Post)(aC:∀W,G No w W->Calls h 40 #[g (E (u P 0 J)),g (E (u tob 0 J)),F K p,F K M] W λaA W'=>x' w D fre mo err S Post W aA W')(az:Exit->Act->U->Prop)(aJ cf cq cD c0 db dm dC aK aZ ba bp bB bC bL bY et eu cg ch ci cj ck cl cm cn co cp cr cs ct cu cv cw cx cy cA cB cE cF cG cH cI cJ cK cL cM cO cP cR cS cT cU cV cW cX cY cZ c1 c2 c3 c4 c5 c6 c7 c8 c9 c' dc dd de df dg dh di dj dk dl dn dp dq dr dt dv dw dz dA dB dD dF dH dI dJ dK dL dM dN dO aL aO aP aQ aS aT aU aW aX aY a0 a1 a2 a3 a4 a5 a6 a7 a8 a9 bc bd bf bg bh bi bk bl bm bn bq br bt bu bv bw bx bz bA ed ee ef eg eh ei ej ek el em en eo ep eq er es bE bF bH bI bJ bM bO bP bQ bR bS bT bU bV bX bZ b0 b1 b2 b3 b4 b5 b6 b7 b8 b9 ca cb cc cd ce:V)
  (aD:∀(ew ey ez eB eC eD eE eF eG eH eI eJ eM ev eN eP:V) (e:Nat) (i:V) (W:U),Hid (G S w W/\Post W/\X W e (gY fre i mo) 97/\gm w D W i/\w.heap.size<=e)->az .normal ⟨#[aJ,g (E (u Q 0 J)),cf,cq,cD,g (E (u bb 0 J)),c0,db,dm,dC,aK,aZ,ba,bp,bB,bC,bL,bY,g (E (u e 0 J)),F K err,cg,ch,ci,cj,ck,cl,cm,cn,co,cp,cr,cs,ct,cu,cv,cw,cx,cy,cA,cB,cE,cF,cG,cH,cI,cJ,cK,cL,cM,cO,cP,cR,cS,cT,cU,cV,cW,cX,cY,cZ,c1,c2,c3,c4,c5,c6,c7,c8,c9,c',dc,dd,de,df,dg,dh,di,dj,dk,dl,dn,dp,dq,dr,dt,dv,dw,dz,dA,dB,dD,dF,dH,dI,dJ,dK,dL,dM,dN,dO,aL,aO,aP,aQ,aS,aT,aU,aW,aX,aY,a0,a1,a2,a3,a4,a5,a6,a7,a8,a9,bc,bd,bf,bg,bh,bi,bk,bl,bm,bn,bq,br,bt,bu,bv,bw,bx,bz,bA,ev,ew,ey,ez,eB,eC,eD,eE,eF,eG,eH,eI,eJ,eM,eN,eP,bE,bF,bH,bI,bJ,bM,bO,bP,bQ,bR,bS,bT,bU,bV,bX,bZ,b0,b1,b2,b3,b4,b5,b6,b7,b8,b9,ca,cb,cc,cd,ce],[]⟩ W):
  Code.wp h (Hn 18) az ⟨#[aJ,g (E (u Q 0 J)),cf,cq,cD,g (E (u bb 0 J)),c0,db,dm,dC,aK,aZ,ba,bp,bB,bC,bL,bY,et,eu,cg,ch,ci,cj,ck,cl,cm,cn,co,cp,cr,cs,ct,cu,cv,cw,cx,cy,cA,cB,cE,cF,cG,cH,cI,cJ,cK,cL,cM,cO,cP,cR,cS,cT,cU,cV,cW,cX,cY,cZ,c1,c2,c3,c4,c5,c6,c7,c8,c9,c',dc,dd,de,df,dg,dh,di,dj,dk,dl,dn,dp,dq,dr,dt,dv,dw,dz,dA,dB,dD,dF,dH,dI,dJ,dK,dL,dM,dN,dO,aL,aO,aP,aQ,aS,aT,aU,aW,aX,aY,a0,a1,a2,a3,a4,a5,a6,a7,a8,a9,bc,bd,bf,bg,bh,bi,bk,bl,bm,bn,bq,br,bt,bu,bv,bw,bx,bz,bA,ed,ee,ef,eg,eh,ei,ej,ek,el,em,en,eo,ep,eq,er,es,bE,bF,bH,bI,bJ,bM,bO,bP,bQ,bR,bS,bT,bU,bV,bX,bZ,b0,b1,b2,b3,b4,b5,b6,b7,b8,b9,ca,cb,cc,cd,ce],[]⟩ w:=by
 conv=>arg 4;dsimp only
 conv=>arg 2;whnf
 have ay:=l aD;have z:=l ae;have y:=l hS;have A:=l ai;have x:=l aC;have aG:∀ {o:Bool} {W:U},(match o with|false=>G No w W|true=>G S w W/\Post W)->G S w W:=λ{o W} j=>by
  cases o
  .exact j.mono (λ_ _ ah=>ah.elim)
  .exact j.1
 have d7:∀ {o:Bool} {W W':U},(match o with|false=>G No w W|true=>G S w W/\Post W)->G No W W'->(match o with|false=>G No w W'|true=>G S w W'/\Post W'):=λ{o W W'} j H=>by
  cases o
  .exact j.trans H
  .exact⟨j.1.trans (H.mono (λ_ _ ah=>ah.elim)),ai.no _ _ j.2 H⟩
 have d8:∀ {o:Bool} {W W':U} {e:Nat} {B:Array V},(match o with|false=>G No w W|true=>G S w W/\Post W)->X W e B 97->w.heap.size<=e->G (λk=>k=e) W W'->(match o with|false=>G No w W'|true=>G S w W'/\Post W'):=λ{o W W' e B} j ar d3 H=>by
  cases o
  .exact j.trans' H (λk au d4=>by omega)
  .exact⟨j.1.trans' H (λk au d4=>by omega),ai.box _ _ _ _ d3 j.2 ar H⟩
 have cells:∀ {o:Bool} {W:U},(match o with|false=>G No w W|true=>G S w W/\Post W)->W.cell? (u Q 2 J)=E (g (E (u P 0 J)))/\W.cell? (u Q 4 J)=E (g (E (u tob 0 J)))/\W.cell? (u bb 2 J)=E (F K p)/\W.cell? (u bb 3 J)=E (F K M):=λ{o W} j=>by
  have H:=aG j;have k:∀(ad Z:Nat) (v:V),¬S ad->w.cell? (u ad Z J)=E v->W.cell? (u ad Z J)=E v:=λad Z v d1 aj=>by
   have d5:=jk w _ aj;rw[oB (w:=w) (H.block _ d5 d1)];exact aj
  have no:=λ(ab:S Q)=>(hS _ ab).2.1 rfl;have aH:=λ(ab:S bb)=>(hS _ ab).2.2 rfl;exact⟨k _ _ _ no ae.1,k _ _ _ no ae.2.1,k _ _ _ aH ae.2.2.1,k _ _ _ aH ae.2.2.2⟩
 clear aD ae hS ai aC;refine B7 (n:=186) 12 (λo W=>match o with|false=>G No w W|true=>G S w W/\Post W) (bo w D fre mo) (tG w D fre mo err Q bb P tob p M) (by kernel_rfl) rfl (by kernel_rfl) (λn v ec W W' av j=>j.fW n v ec W W' av) ?_ ?_ ?_ (G.refl No w).drew ⟨_,rfl⟩
 .intro n Z d W o eZ Y af c hd;have hi:n<19:=(Array.getElem?_eq_some_iff.1 Y).1;have s:d.eval (.tmp 1)=g (E (u Q 0 J)):=af.rest 1 (by kernel_rfl);have I:d.tmps[5]?.getD undef=g (E (u bb 0 J)):=by simpa using af.rest 5 (by kernel_rfl)
  clear ay af;have d0:n=0\/n=1\/n=2\/n=3\/n=4\/n=5\/n=6\/n=7\/n=8\/n=9\/n=10\/n=11\/n=13\/n=14\/n=15\/n=16\/n=17\/n=18:=by omega
  obtain rfl|rfl|rfl|rfl|rfl|rfl|rfl|rfl|rfl|rfl|rfl|rfl|rfl|rfl|rfl|rfl|rfl|rfl:=d0
  all_goals
   replace Y:=bD (show E _=E Z from Y);subst Y
  .refine dR _ rfl ?_;exact⟨_,rfl,c,bo.no (G.refl _ _),s⟩
  .have eQ:d.tmps[140]?.getD undef=g (E (u Q 0 J)):=by simpa using (show d.tmps.getD 140 undef=_ from hd ⟨0,.data⟩ (by simp) rfl)
   have a:=l c;clear hd c s I z x y A;go_simp
   first|exact b a|exact⟨_,rfl,b a,bo.no (G.refl _ _),rfl⟩|exact⟨b a,bo.no (G.refl _ _),rfl⟩|exact⟨b a,bo.no (G.refl _ _)⟩
  .have eR:d.tmps[141]?.getD undef=g (E (u Q 0 J)):=by simpa using (show d.tmps.getD 141 undef=_ from hd ⟨1,.data⟩ (by simp) rfl)
   have a:=l c;clear hd c s I z x y A;go_simp
   first|exact b a|exact⟨_,rfl,b a,bo.no (G.refl _ _),rfl⟩|exact⟨b a,bo.no (G.refl _ _),rfl⟩|exact⟨b a,bo.no (G.refl _ _)⟩
  .have eS:d.tmps[142]?.getD undef=g (E (u Q 2 J)):=by simpa using (show d.tmps.getD 142 undef=_ from hd ⟨2,.data⟩ (by simp) rfl)
   have M:=(cells c).1;have a:=l c;clear hd c s I z x y A;go_simp
   first|exact b a|exact⟨_,rfl,b a,bo.no (G.refl _ _),rfl⟩|exact⟨b a,bo.no (G.refl _ _),rfl⟩|exact⟨b a,bo.no (G.refl _ _)⟩
  .refine dR _ rfl ?_;exact⟨_,rfl,c,bo.no (G.refl _ _),s⟩
  .have eT:d.tmps[144]?.getD undef=g (E (u Q 0 J)):=by simpa using (show d.tmps.getD 144 undef=_ from hd ⟨4,.data⟩ (by simp) rfl)
   have a:=l c;clear hd c s I z x y A;go_simp
   first|exact b a|exact⟨_,rfl,b a,bo.no (G.refl _ _),rfl⟩|exact⟨b a,bo.no (G.refl _ _),rfl⟩|exact⟨b a,bo.no (G.refl _ _)⟩
  .have eU:d.tmps[145]?.getD undef=g (E (u Q 0 J)):=by simpa using (show d.tmps.getD 145 undef=_ from hd ⟨5,.data⟩ (by simp) rfl)
   have a:=l c;clear hd c s I z x y A;go_simp
   first|exact b a|exact⟨_,rfl,b a,bo.no (G.refl _ _),rfl⟩|exact⟨b a,bo.no (G.refl _ _),rfl⟩|exact⟨b a,bo.no (G.refl _ _)⟩
  .have eV:d.tmps[146]?.getD undef=g (E (u Q 4 J)):=by simpa using (show d.tmps.getD 146 undef=_ from hd ⟨6,.data⟩ (by simp) rfl)
   have M:=(cells c).2.1;have a:=l c;clear hd c s I z x y A;go_simp
   first|exact b a|exact⟨_,rfl,b a,bo.no (G.refl _ _),rfl⟩|exact⟨b a,bo.no (G.refl _ _),rfl⟩|exact⟨b a,bo.no (G.refl _ _)⟩
  .have a:=l c;clear hd c s z x y A;go_simp
   first|exact b a|exact⟨_,rfl,b a,bo.no (G.refl _ _),rfl⟩|exact⟨b a,bo.no (G.refl _ _),rfl⟩|exact⟨b a,bo.no (G.refl _ _)⟩
  .have eW:d.tmps[148]?.getD undef=g (E (u bb 2 J)):=by simpa using (show d.tmps.getD 148 undef=_ from hd ⟨8,.data⟩ (by simp) rfl)
   have M:=(cells c).2.2.1;have a:=l c;clear hd c s I z x y A;go_simp
   first|exact b a|exact⟨_,rfl,b a,bo.no (G.refl _ _),rfl⟩|exact⟨b a,bo.no (G.refl _ _),rfl⟩|exact⟨b a,bo.no (G.refl _ _)⟩
  .have a:=l c;clear hd c s z x y A;go_simp
   first|exact b a|exact⟨_,rfl,b a,bo.no (G.refl _ _),rfl⟩|exact⟨b a,bo.no (G.refl _ _),rfl⟩|exact⟨b a,bo.no (G.refl _ _)⟩
  .have eX:d.tmps[150]?.getD undef=g (E (u bb 3 J)):=by simpa using (show d.tmps.getD 150 undef=_ from hd ⟨10,.data⟩ (by simp) rfl)
   have M:=(cells c).2.2.2;have a:=l c;clear hd c s I z x y A;go_simp
   first|exact b a|exact⟨_,rfl,b a,bo.no (G.refl _ _),rfl⟩|exact⟨b a,bo.no (G.refl _ _),rfl⟩|exact⟨b a,bo.no (G.refl _ _)⟩
  .have r:∃i,d.eval (.tmp 152)=aq #[fk fre i mo,F K err]/\gm w D W i:=hd ⟨12,.data⟩ (by simp) rfl;refine dR _ rfl ?_;exact⟨_,rfl,c,bo.no (G.refl _ _),r⟩
  .obtain⟨i,r,O⟩:∃i,d.tmps.getD 139 undef=aq #[fk fre i mo,F K err]/\gm w D W i:=hd ⟨13,.data⟩ (by simp) rfl;have r:d.tmps[139]?.getD undef=aq #[fk fre i mo,F K err]:=by simpa using r
   unfold fk at r;have dQ:=l O;clear O;have a:=l c;clear hd c s I z x y A;go_simp;exact⟨_,rfl,b a,bo.no (G.refl _ _),i,rfl,b dQ⟩
  .obtain⟨i,r,O⟩:∃i,d.tmps.getD 139 undef=aq #[fk fre i mo,F K err]/\gm w D W i:=hd ⟨13,.data⟩ (by simp) rfl;have r:d.tmps[139]?.getD undef=aq #[fk fre i mo,F K err]:=by simpa using r
   unfold fk at r;clear O;have a:=l c;clear hd c s I z x y A;go_simp
   first|exact b a|exact⟨_,rfl,b a,bo.no (G.refl _ _),rfl⟩|exact⟨b a,bo.no (G.refl _ _),rfl⟩|exact⟨b a,bo.no (G.refl _ _)⟩
  .have aw:G No W (W.alloc (m #[L false,C J 0 0,L false] 97)):=(G.refl No W).alloc _;have a:=l (d7 c aw);have dS:=l (bo.no (w:=w) (D:=D) (fre:=fre) (mo:=mo) aw);have dP:=l (show tG w D fre mo err Q bb P tob p M 16 (g (E (u W.heap.size 0 J))) (λ_=>undef) (W.alloc (m #[L false,C J 0 0,L false] 97)) from⟨W.heap.size,_,rfl,X.new W _ _,rfl,(aG c).size⟩);clear hd c s I z x y A aw;go_simp
   exact⟨_,rfl,b a,b dS,b dP⟩
  .obtain⟨e,B,r,O,ax,am⟩:∃e B,d.eval (.tmp 18)=g (E (u e 0 J))/\X W e B 97/\B.size=3/\w.heap.size<=e:=hd ⟨16,.data⟩ (by simp) rfl;obtain⟨i,d9,ak⟩:∃i,d.eval (.tmp 153)=fk fre i mo/\gm w D W i:=hd ⟨14,.data⟩ (by simp) rfl;obtain⟨R,T,rfl⟩:=aR ak.1;refine wp_store_mid _ _ _ rfl e 0 (gY fre (C R D.length T) mo) r d9 (O.there 0 3 (by omega)) (by kernel_rfl) (by simp[gY,Value.oneCell']) ?_
   have aB:X (W.setCells e 0 (gY fre (C R D.length T) mo).toList) e (gY fre (C R D.length T) mo) 97:=by
    have:=X.setCells (gY fre (C R D.length T) mo).toList 0 W _ O
    rwa [tQ _ _ (by rw[ax];rfl)] at this
   have ao:G (λk=>k=e) W (W.setCells e 0 (gY fre (C R D.length T) mo).toList):=G.setCells (S:=λk=>k=e) (.inl rfl) _ 0 W (G.refl _ _);have hS:bo w D fre mo W (W.setCells e 0 (gY fre (C R D.length T) mo).toList):=by
    have aE:∀b' B aa,aa≠97->X W b' B aa->X (W.setCells e 0 (gY fre (C R D.length T) mo).toList) b' B aa:=λb' B aa ap j=>ao.e j (j.ne O ap);have dZ:gm w D (W.setCells e 0 (gY fre (C R D.length T) mo).toList) (C R D.length T):=by
     refine⟨?_,ak.2⟩;obtain⟨aI,ag|⟨ad,dT,dU,aj,ar,d2,ea⟩⟩:=ak.1
     .exact⟨aI,.inl ag⟩
     .exact⟨aI,.inr ⟨ad,dT,dU,aj,ar,aE _ _ _ (by decide) d2,ea⟩⟩
    refine⟨λb' B aa ap _ j=>aE b' B aa ap j,λb' cs' _ j av=>?_⟩;by_cases ab:b'=e
    .subst ab;exact⟨_,aB,rfl,.inr ⟨_,rfl,dZ⟩⟩
    .exact⟨cs',ao.e j ab,av,.inl rfl⟩
   refine⟨undef,rfl,d8 c O am ao,hS,e,?_,am,_,aB,rfl,_,rfl,ak.fW hS⟩;exact(qs (k:=16) rfl (by kernel_rfl)).trans r
  .have r:d.eval (.tmp 154)=F K err:=hd ⟨15,.data⟩ (by simp) rfl;refine sy _ rfl ?_;exact⟨_,rfl,c,bo.no (G.refl _ _),r⟩
 .intro Z d W Y af c hd;replace Y:=bD (show E _=E Z from Y);subst Y;have c:G No w W:=c;have r:d.eval (.tmp 143)=g (E (u P 0 J)):=hd ⟨3,.data⟩ (by simp) rfl;have O:d.eval (.tmp 147)=g (E (u tob 0 J)):=hd ⟨7,.data⟩ (by simp) rfl;have ax:d.eval (.tmp 149)=F K p:=hd ⟨9,.data⟩ (by simp) rfl;have am:d.eval (.tmp 151)=F K M:=hd ⟨11,.data⟩ (by simp) rfl
  refine vS 40 _ _ rfl #[g (E (u P 0 J)),g (E (u tob 0 J)),F K p,F K M] (by simp[r,O,ax,am]) (λW=>by kernel_rfl) ((b x) W c) ?_;rintro aA w' ⟨⟨i,rfl,hu⟩,H,d6⟩;exact⟨_,rfl,_,rfl,⟨(c.mono (λ_ _ ah=>ah.elim)).trans H,d6⟩,bo.mod H (λk au=>((b y) k au).1),i,rfl,hu⟩
 .intro d W af c hF;obtain⟨e,ag,dW,B,dX,eY,i,rfl,dY⟩:=hF 17 (by decide);have ag:d.tmps.getD 18 undef=g (E (u e 0 J)):=(qs (k:=16) rfl (by kernel_rfl)).symm.trans ag;have dV:d.tmps.getD 19 undef=F K err:=hF 18 (by decide);have aF:=af.lit;rw[aF];clear aF;simp only[oW,oX,jT,nM,oY,nN,nO,ag,dV];exact(b ay) _ _ _ _ _ _ _ _ _ _ _ _ _ _ _ _ e i W ⟨c.1,c.2,dX,dY,dW⟩
theorem Tc{w:U}(l tob:Nat)(a most x:Int)(j:(¬(0<=a/\a<8)/\x=14)\/((0<=a/\a<8)/\¬(1<=most/\most<=50)/\x=12)):Calls h 40 #[g (E (u l 0 J)),g (E (u tob 0 J)),F K a,F K most] w λd w'=>d=q (aq #[fk false (C J 0 0) false,F K x])/\G No w w':=by
 unfold fk;obtain⟨c,rfl⟩|⟨c,n,rfl⟩:=j
 .obtain b|⟨b,e,i⟩:=(show a<0\/(¬a<0/\8<=a/\a>=8) by omega)
  all_goals
   go_enter func40,ntmps40;go_wp2;refine cN (by simp[results,results40,go_sem];try rfl) rfl ?_;exact⟨rfl,by repeat' (first|with_reducible exact G.refl No w|refine G.drewN ?_ _|refine G.alloc ?_ _|refine G.setCell ?_ (.inr (cz _)) _)⟩
 .obtain⟨o,p⟩:=c;have r:¬a<0:=by omega
  have s:¬ 8<=a:=by omega
  have y:¬a>=8:=by omega
  obtain b|⟨b,e,i⟩:=(show most<1\/(¬most<1/\50<most/\most>50) by omega)
  all_goals
   go_enter func40,ntmps40;go_wp2;refine cN (by simp[results,results40,go_sem];try rfl) rfl ?_;exact⟨rfl,by repeat' (first|with_reducible exact G.refl No w|refine G.drewN ?_ _|refine G.alloc ?_ _|refine G.setCell ?_ (.inr (cz _)) _)⟩
def jg(W:U)(c:Nat):Prop:=∃b a,W.heap[c]? =E (gU b a)
theorem AW{W:U}{c:Array V}{b:TypeId}(a:jg W Q)(d:X W Q c b):False:=by
 obtain⟨i,e,a⟩:=a;exact d.uX a rfl
def aG.vg(I:aG)(c:Nat->Nat)(k:Nat)(b:List aX):aG:={ I with om:=c,tl:=λa=>if a=k then E b else I.tl a }
theorem aO.vg{w w':U}{k:Nat}{I:aG}{am:Nat->Option Nat}{v:V}{H:fj}(j:aO w R Q I)(ak:I.kb=E P)(aj:dH w I.okp P I.now am I.fl I.K)(ai:kM w I.okp I.om P I.tl)(G:qk w I.okp I.om P I.now am I.fl I.tl k w' v H):∃z,aO w' (λa=>R a\/(w.heap.size<=a/\z a≠0)) Q (I.vg z k H.es)/\(∀a,a<w.heap.size->z a=I.om a)/\∀a,z a≠0->w.heap.size<=a->jg w' a:=by
 classical
 obtain⟨aw,au⟩:=aj.told ai G;obtain⟨e,f1,f2⟩:=G.mR;obtain⟨i,T,Y,Z,aa,ab,ad,ae⟩:=j.ex;have o:=G.mod;have p:∀a,i a≠0->a<w.heap.size:=λa b=>j.lt a (ae a b);have av:=aj.keep.bw;have hS:∀a r,i a=r->r≠2->r≠5->r≠0->¬(a=P\/I.om a≠0):=λa r ax az aA ay c=>by
  obtain c|c:=c
  .subst c;have:=Y a (by rw[av];omega);omega
  .have:=ab a c;omega
 refine⟨λa=>if a<w.heap.size then I.om a else if jg w' a then e a else 0,?_,λa b=>D b,λa b aB=>?_⟩
 .have ag:∀a,(if a<w.heap.size then I.om a else if jg w' a then e a else 0)≠0->(a<w.heap.size/\I.om a≠0)\/(w.heap.size<=a/\e a≠0):=λa b=>by
   by_cases c:a<w.heap.size
   .rw[D c] at b;exact .inl ⟨c,b⟩
   .rw[f c] at b;by_cases d:jg w' a
    .rw[D d] at b;exact .inr ⟨by omega,b⟩
    .rw[f d] at b;exact absurd rfl b
  refine⟨?_,⟨λar n=>?_,λx=>?_⟩,?_,λM s=>?_,?_,?_,λa b=>?_⟩
  .show X w' Q (dO I) 55;exact o.e j.e (hS Q 1 T (by omega) (by omega) (by omega))
  .have n:I.kb=E ar:=n;rw[ak] at n;injection n with n;subst n;refine⟨⟨aw,au⟩,⟨λy hi B=>f1.un y hi B,λy hi ah B=>?_,λa b=>?_⟩⟩
   .obtain⟨l,af,ao,O,S,ap⟩:=f1.is y hi ah B;refine⟨l,af,ao,?_,S,ap⟩;show(if l<w.heap.size then I.om l else if jg w' l then e l else 0)=y+1;by_cases c:l<w.heap.size
    .rw[D c,<-f2 l c];exact O
    .rw[f c,D ⟨ah,af,S⟩];exact O
   .obtain⟨A,d⟩|⟨A,d⟩:=ag a b
    .exact⟨bj A o.size,(ai.bg a d).2⟩
    .exact f1.bg a d
  .have x:I.kb=J:=x;rw[ak] at x;cases x
  .exact j.bM.mod o (λa b=>hS a 3 (Z a b) (by omega) (by omega) (by omega))
  .exact(j.may M s).mod o (λa b=>hS a 6 (ad M s a b) (by omega) (by omega) (by omega))
  .exact j.told.mod o (λa b=>hS a 4 (aa a b) (by omega) (by omega) (by omega))
  .refine⟨λa=>if a<w.heap.size then i a else if e a≠0/\jg w' a then 5 else 0,?_,λa b=>?_,λa b=>?_,λa b=>?_,λa b=>?_,λM s a b=>?_,λa b=>?_⟩
   .show(if Q<w.heap.size then i Q else _)=1;rw[D (p Q (by omega))];exact T
   .have:=Y a b;show(if a<w.heap.size then i a else _)=2;rw[D (p a (by omega))];exact this
   .have:=Z a b;show(if a<w.heap.size then i a else _)=3;rw[D (p a (by omega))];exact this
   .have:=aa a b;show(if a<w.heap.size then i a else _)=4;rw[D (p a (by omega))];exact this
   .show(if a<w.heap.size then i a else if e a≠0/\jg w' a then 5 else 0)=5;have b:(if a<w.heap.size then I.om a else if jg w' a then e a else 0)≠0:=b;by_cases c:a<w.heap.size
    .rw[D c] at b ⊢;exact ab a b
    .rw[f c] at b ⊢;by_cases d:jg w' a
     .rw[D d] at b;rw[D ⟨b,d⟩]
     .rw[f d] at b;exact absurd rfl b
   .have:=ad M s a b;show(if a<w.heap.size then i a else _)=6;rw[D (p a (by omega))];exact this
   .have b:(if a<w.heap.size then i a else if e a≠0/\jg w' a then 5 else 0)≠0:=b;by_cases c:a<w.heap.size
    .rw[D c] at b;exact .inl (ae a b)
    .rw[f c] at b;by_cases d:e a≠0/\jg w' a
     .refine .inr ⟨by omega,?_⟩;show(if a<w.heap.size then I.om a else if jg w' a then e a else 0)≠0;rw[f c,D d.2];exact d.1
     .rw[f d] at b;exact absurd rfl b
  .obtain b|b:=b
   .exact bj (j.lt a b) o.size
   .obtain⟨A,d⟩|⟨A,d⟩:=ag a b.2
    .omega
    .exact(f1.bg a d).1
 .have b:(if a<w.heap.size then I.om a else if jg w' a then e a else 0)≠0:=b;rw[f (by omega)] at b;by_cases d:jg w' a
  .exact d
  .rw[f d] at b;exact absurd rfl b
def aG.ya(I:aG)(k:Nat)(v2:V)(N:List aN):aG:={ I with owt:=λa=>if v2.ownBlock=E a then k+2 else I.owt a,vs:=gj I.vs k v2,ns:=gj I.ns k (I.ns k++N),bs:=gj I.bs k true }
theorem aO.ya{w w':U}{k:Nat}{I:aG}{N:List aN}{v v2:V}(d:aO w R Q I)(P:k<8)(l:xZ w w' I.owt I.tob k I.vs I.ns I.bs N v v2):aO w' (λa=>R a\/(w.heap.size<=a/\v2.ownBlock=E a)) Q (I.ya k v2 N):=by
 classical
 obtain⟨j,O,x,y,r,z,A,H⟩:=d.ex;have p:=l.mod;have s:∀a,j a≠0->a<w.heap.size:=λa b=>d.lt a (H a b);have hS:∀a G,j a=G->G≠4->G≠0->¬(I.owt a=1\/I.owt a=k+2):=λa G n aa Y c=>by
  have:=r a (by omega);omega
 have B:∀a,v2.ownBlock=E a->(a<w.heap.size/\I.owt a=k+2)\/w.heap.size<=a:=λa b=>by
  obtain c|c:=l.qu a b
  .exact .inl ⟨fE (d.told.rows k P) a c,d.told.own k P a c⟩
  .exact .inr c
 refine⟨?_,?_,?_,λM o=>?_,⟨?_,λe hi=>?_,λe hi a b=>?_,?_⟩,?_,λa b=>?_⟩
 .show X w' Q (dO I) 55;exact p.e d.e (hS Q 1 O (by omega) (by omega))
 .exact d.keep.mod p (λa b=>hS a 2 (x a b) (by omega) (by omega)) (λa b=>hS a 5 (z a b) (by omega) (by omega))
 .exact d.bM.mod p (λa b=>hS a 3 (y a b) (by omega) (by omega))
 .exact(d.may M o).mod p (λa b=>hS a 6 (A M o a b) (by omega) (by omega))
 .exact l.told
 .show w'.ownsRow 0 68 3 (gj I.vs k v2 e) (gj I.ns k (I.ns k++N) e).length ((gj I.ns k (I.ns k++N) e).flatMap dj);unfold gj;by_cases n:e=k
  .subst n;simp only[iP];exact l.jf
  .simp only[f n];refine p.owns (d.told.rows e hi) (λa b c=>?_);have:=d.told.own e hi a b;omega
 .show(if v2.ownBlock=E a then k+2 else I.owt a)=e+2;have b:(gj I.vs k v2 e).ownBlock=E a:=b;unfold gj at b;by_cases n:e=k
  .subst n;simp only[iP] at b;rw[D b]
  .simp only[f n] at b;have S:=d.told.own e hi a b;have Z:=fE (d.told.rows e hi) a b;by_cases c:v2.ownBlock=E a
   .obtain i|i:=B a c
    .omega
    .omega
   .rw[f c];exact S
 .show(if v2.ownBlock=E I.tob then k+2 else I.owt I.tob)=1;have T:=jM l.told (by decide) l.jf;rw[f T];exact d.told.bw
 .refine⟨λa=>if v2.ownBlock=E a then 4 else j a,?_,λa b=>?_,λa b=>?_,λa b=>?_,λa b=>?_,λM o a b=>?_,λa b=>?_⟩
  .show(if v2.ownBlock=E Q then 4 else j Q)=1
   rw[f (λc=>by
    obtain i|i:=B Q c
    .have:=r Q (by omega);omega
    .have:=s Q (by omega);omega)]
   exact O
  all_goals try
   (show(if v2.ownBlock=E a then 4 else j a)=_
    rw[f (λc=>by
     obtain i|i:=B a c
     .have:=r a (by omega)
      first
       |(have:=x a b;omega)
       |(have:=y a b;omega)
       |(have:=z a b;omega)
       |(have:=A M o a b;omega)
     .first
       |(have:=s a (by have:=x a b;omega);omega)
       |(have:=s a (by have:=y a b;omega);omega)
       |(have:=s a (by have:=z a b;omega);omega)
       |(have:=s a (by have:=A M o a b;omega);omega))]
    first
     |exact x a b
     |exact y a b
     |exact z a b
     |exact A M o a b)
  .show(if v2.ownBlock=E a then 4 else j a)=4;have b:(if v2.ownBlock=E a then k+2 else I.owt a)≠0:=b;by_cases c:v2.ownBlock=E a
   .rw[D c]
   .rw[f c] at b ⊢;exact r a b
  .have b:(if v2.ownBlock=E a then 4 else j a)≠0:=b;by_cases c:v2.ownBlock=E a
   .obtain i|i:=B a c
    .exact .inl (H a (by have:=r a (by omega);omega))
    .exact .inr ⟨i,c⟩
   .rw[f c] at b;exact .inl (H a b)
 .obtain b|b:=b
  .exact bj (d.lt a b) p.size
  .exact fE l.jf a b.2
structure yc (w w':U) (S1 S2:Nat->Prop) (Post2:U->U->Prop) (D:List aN) (yb:Nat) (lv av bv:V) (lb:List Nat):Prop where
 ex:∃(W1 W3:U) (u:V) (bv':V) (rb:Nat) (hs:Array V),w.heap.size<=W1.heap.size/\G (λg=>S1 g\/S2 g) w W3/\Post2 W1 W3/\W3.ownsRow 0 68 3 u D.length (D.flatMap dj)/\(∀g,u.ownBlock=E g->w.heap.size<=g/\g<W1.heap.size)/\wQ W3 w' yb lb.length lv bv av u (lb.map xD) bv' rb hs
theorem Ho{w:U}{O:Nat->Prop}{kb wb tob:Nat}{ai:aG}{lv B:V}{am:List Nat}{S:Array V}{ad:Int}(hS:ly S 8 p ad)(br:X w P (dO ai) 55)(bf:(dO ai)[1]? =E (g (E (u kb 0 J))))(bg:(dO ai)[2]? =E (g (E (u wb 0 J))))(bh:(dO ai)[4]? =E (g (E (u tob 0 J))))(hy:X w Q #[lv,n,B] 34)(bt:iz w R B am)(bu:R Q)(bk:∀a,O a->R a)(aO:∀a,O a->a<w.heap.size)(bv:¬O Q)(bi:am.length<=1099511627776)
  {S1 S2:Nat->Prop}{Post1:U->Prop}{Post2:U->U->Prop}{D:List aN}{fre mo:Bool}{err:Int}(I:D.length<=50)(aP:∀a,S1 a->O a/\a≠P)(bn:∀a,S2 a->O a/\a≠P)(bl:tD (w.alloc (m S 45)) Post1)(bm:∀d,tD d (Post2 d))(bo:∀W,G No (w.alloc (m S 45)) W->Calls h 39 #[g (E (u kb 0 J)),F K p,F K ad] W λaL W'=>x' (w.alloc (m S 45)) D fre mo err S1 Post1 W aL W')
  (bq:∀d,G S1 (w.alloc (m S 45)) d->Post1 d->∀W,G No d W->Calls h 40 #[g (E (u wb 0 J)),g (E (u tob 0 J)),F K p,F K ad] W λaL W'=>x' d D fre mo err S2 (Post2 d) W aL W'):Calls h 17 #[g (E (u Q 0 J)),g (E (u P 0 J)),t S] w λc w'=>c=q (L true)/\yc w w' S1 S2 Post2 D Q lv n B am:=by
 have aB:G No w (w.alloc (m S 45)):=(G.refl No w).alloc _;have x:=X.new w S 45;have ca:=(x.T 0).trans hS.fL;have bw:=(x.T 2).trans hS.fU;have bx:=(x.T 3).trans hS.c3;have bU:=x.lt;have ONE:=l (aB.e br (λi=>i));have ap:=l x;have bP:=l aB;have bz:=((b ONE).T 1).trans bf
 have af:=l (show(w.alloc (m S 45)).cell? (u P 1 J)=E (g (E (u kb 0 J)))/\(w.alloc (m S 45)).cell? (u w.heap.size 2 J)=E (F K p)/\(w.alloc (m S 45)).cell? (u w.heap.size 3 J)=E (F K ad) from⟨bz,bw,bx⟩)
 have a8:=l (λa (e:S1 a)=>(show a<(w.alloc (m S 45)).heap.size/\a≠P/\a≠w.heap.size from by
  have j:=aP a e
  have b4:=aO a j.1
  exact⟨by rw[bW];omega,j.2,by omega⟩))
 have bL:=l hy;have ay:=l bt;have bM:=l bu;have bH:=l bi;have a1:=l I;have aZ:=l bo;have a0:=l bq;have a2:=l bl;have av:=l bm;have aw:=l aP;have ax:=l bn;have bJ:=l bk;have au:=l aO;have bO:=l bv;have bE:=l bg;have bF:=l bh;have bc:=l (show(w.alloc (m S 45)).heap.size=w.heap.size+1 from by simp);clear hS br bf bg bh hy bt bu bk aO bv bi I aP bn bl bm bo bq aB x bz bw bx;go_enter func17,ntmps17
 go_upto_region 17 with fail;clear ca bU;generalize w.alloc (m S 45)=cp at *
 refine Ta (S:=S1) (Post:=Post1) (D:=D) (fre:=fre) (mo:=mo) (err:=err) (b af) (b a8) (b a2) (b aZ) _ _ _ _ _ _ _ _ _ _ _ _ _ _ _ _ _ _ _ _ _ _ _ _ _ _ _ _ _ _ _ _ _ _ _ _ _ _ _ _ _ _ _ _ _ _ _ _ _ _ _ _ _ _ _ _ _ _ _ _ _ _ _ _ _ _ _ _ _ _ _ _ _ _ _ _ _ _ _ _ _ _ _ _ _ _ _ _ _ _ _ _ _ _ _ _ _ _ _ _ _ _ _ _ _ _ _ _ _ _ _ _ _ _ _ _ _ _ _ _ _ _ _ _ _ _ _ _ _ _ _ _ _ _ _ _ _ _ _ _ _ _ _ _ _ _ _ _ _ _ _ _ _ _ _ _ _ _ _ _ _ _ _ _ _ _ _ _ _ _ _ _ _ _ _ _ _ _ _ _ _ _ _ _ _ ?_
 intro cr cs ct cu cv cw cx cy cA cq cB cD o cn d ag;have T:=l (b ag).1;have aD:=l ((b T).e (b ONE) (λc=>((b aw) P c).2 rfl));have ar:=l ((b T).e (b ap) (λc=>by have:=(b au) _ ((b aw) _ c).1;omega))
 have aW:=l (show d.cell? (u P 2 J)=E (g (E (u wb 0 J)))/\d.cell? (u P 4 J)=E (g (E (u tob 0 J)))/\d.cell? (u w.heap.size 2 J)=E (F K p)/\d.cell? (u w.heap.size 3 J)=E (F K ad) from
  ⟨((b aD).T 2).trans (b bE),((b aD).T 4).trans (b bF),((b ar).T 2).trans (((b ap).T 2).symm.trans (b af).2.1),((b ar).T 3).trans (((b ap).T 3).symm.trans (b af).2.2)⟩)
 have a9:=l (λa (e:S2 a)=>(show a<d.heap.size/\a≠P/\a≠w.heap.size from by
  have j:=(b ax) a e
  have b4:=(b au) a j.1
  have cl:=(b T).size
  have cm:=b bc
  exact⟨by omega,j.2,by omega⟩))
 go_upto_region 18 with fail
 refine Tb (S:=S2) (Post:=Post2 d) (D:=D) (fre:=fre) (mo:=mo) (err:=err) (b aW) (b a9) ((b av) d) ((b a0) d (b T) (b ag).2.1) _ _ _ _ _ _ _ _ _ _ _ _ _ _ _ _ _ _ _ _ _ _ _ _ _ _ _ _ _ _ _ _ _ _ _ _ _ _ _ _ _ _ _ _ _ _ _ _ _ _ _ _ _ _ _ _ _ _ _ _ _ _ _ _ _ _ _ _ _ _ _ _ _ _ _ _ _ _ _ _ _ _ _ _ _ _ _ _ _ _ _ _ _ _ _ _ _ _ _ _ _ _ _ _ _ _ _ _ _ _ _ _ _ _ _ _ _ _ _ _ _ _ _ _ _ _ _ _ _ _ _ _ _ _ _ _ _ _ _ _ _ _ _ _ _ _ _ _ _ _ _ _ _ _ _ _ _ _ _ _ _ _ _ _ _ _ _ _ _ _ _ _ _ _ _ _ _ _ _ _ _ _ _ _ _ ?_
 intro cF cG cH cI cJ cK cL cM cO cP cR cS cT cE cU cV ak co aa aY;obtain⟨aS,cd,aU,M,cb⟩:=b ag;obtain⟨ao,bB,bA,aT,cc⟩:=b aY;have b8:=aS.size;have b9:=b bc;have aQ:∀a,S2 a->a<w.heap.size:=λa e=>(b au) a ((b ax) a e).1;have b5:=aU.lt;have Z:=l (ao.e aU (λc=>by have:=aQ o c;omega));have aH:=l bA;obtain⟨A,H,rfl⟩:=aR M.1;obtain⟨bT,bX,rfl⟩:=aR aT.1
 have bR:=l (show ∀a,(C A D.length H).ownBlock=E a->w.heap.size<=a/\a<d.heap.size from λa e=>⟨by have:=M.2 a e;omega,fE M.1 a e⟩);have az:=l (ao.owns M.1 (λa e c=>by have:=aQ a c;have:=M.2 a e;omega));have a3:=l aT.1;have a5:=l (show G (λa=>S1 a\/S2 a) w aa from(((b bP).mono (S':=λa=>S1 a\/S2 a) (λ_ _ i=>i.elim)).trans (aS.mono (λ_ _ i=>.inl i))).trans (ao.mono (λ_ _ i=>.inr i)))
 have bS:=l (show w.heap.size<=d.heap.size from by omega);have a7:=l bB;have ba:=l (SR (b az) (b a3) (by have:=b a1;omega));have d0:aa.cell? (u o 0 J)=E (L fre):=(b Z).T 0;have d1:aa.cell? (u o 1 J)=E (C A D.length H):=(b Z).T 1;have d2:aa.cell? (u o 2 J)=E (L mo):=(b Z).T 2;have b2:aa.cell? (u ak 1 J)=E (C bT D.length bX):=(b aH).T 1
 clear aS cd aU M cb ao bB bA aT cc ag aY T aD ar aW a9 aZ a0 a2 af a8 b8 b9 aQ b5;go_upto_region 19 with fail;go_wp2_with fail;refine(b ba).mono ?_;rintro ci ab ⟨rfl,s⟩;have cf:=l s;have aE:=l (s.e (b Z) (λi=>i));have a6:=l (s.e (b aH) (λi=>i));have aA:=l (s.owns (b az) (λ_ _ i=>i));have bQ:=l (((b av) d).no _ _ (b a7) s.drew);have aC:=l ((b a5).trans (s.mono (λ_ _ i=>i.elim)))
 have OF:=l (show ∀a,S1 a\/S2 a->O a from λa e=>by
  obtain c|c:=e
  .exact((b aw) a c).1
  .exact((b ax) a c).1)
 have Y:=l ((b aC).e (b bL) (λc=>(b bO) ((b OF) Q c)));have ah:=l ((b aC).owns (b ay).row (λa e c=>(b ay).lZ a e ((b bJ) a ((b OF) a c))));clear d0 d1 d2 b2 s Z aH az a3 ba a7 a5 av;have d1:ab.cell? (u o 1 J)=E (C A D.length H):=(b aE).T 1;have ce:=(b Y).lt;have bI:=l (show D.length+3<=1000000 from by have:=b a1;omega);have aj:=l (⟨_,b aA⟩:bp 68 3 ab (C A D.length H) D.length)
 have a4:=l (show ∀a,(C A D.length H).ownBlock=E a->a≠Q/\B.ownBlock≠E a from λa e=>by
  obtain⟨bY,b0,_,r,_⟩:=bp.owns (b aj) e
  refine⟨r.ne (b Y) (by decide),λc=>?_⟩
  obtain⟨_,j|⟨b3,bZ,b1,rfl,_,ae,_⟩⟩:=b ah
  .rw[j.1] at c;simp[aV] at c
  .simp[aV] at c
   subst c
   exact r.ne ae (by decide) rfl)
 have bd:=l (show B.ownBlock≠E Q from λc=>(b ay).lZ Q c (b bM));have aX:=l (Nv (w:=ab.drew) (ov:=n) (lv:=lv) (b Y) (b ah) (b bH) (b aj) (b bI) (b a4) (b bd));go_upto_region 20 with fail;go_region_law (refine fP rfl 42 _ _ rfl #[g (E (u Q 1 J)),C A D.length H] (by simp[aM,bN]) (λW=>by kernel_rfl) (aq #[]) _ (b aX) ?_;intro z b6);obtain⟨bV,rb,b7,I⟩:=b6
 have bC:=l (show yc w z S1 S2 Post2 D Q lv n B am from⟨d,ab.drew,_,bV,rb,b7,b bS,(b aC).drew,b bQ,b aA,b bR,I⟩)
 have aJ:=l (show ∀a aK y,X ab a aK y->y≠34->y≠68->y≠65->X z a aK y from λa aK y r t1 t2 t3=>I.mod.e r (by
  rintro(c|c|c)
  .subst c;exact r.ne (b Y) t1 rfl
  .obtain⟨bY,b0,_,ae,_⟩:=bp.owns (b aj) c
   exact r.ne ae t2 rfl
  .obtain⟨_,j|⟨b3,bZ,b1,rfl,_,ae,_⟩⟩:=b ah
   .rw[j.1] at c;simp[aV] at c
   .simp[aV] at c
    subst c
    exact r.ne ae t3 rfl))
 have aF:=(b aJ) o _ _ (b aE) (by decide) (by decide) (by decide);have aI:=(b aJ) ak _ _ (b a6) (by decide) (by decide) (by decide);have f0:z.cell? (u o 0 J)=E (L fre):=aF.T 0;have f2:z.cell? (u o 2 J)=E (L mo):=aF.T 2;have cj:z.cell? (u ak 0 J)=E (L fre):=aI.T 0;have ck:z.cell? (u ak 2 J)=E (L mo):=aI.T 2;have cg:(fre==fre)=true:=by cases fre<;>rfl
 have ch:(mo==mo)=true:=by cases mo<;>rfl
 have be:(err==err)=true:=by simp
 clear I aF aI d1 ce aX Y ah aj a4 bd aA aE a6 aJ;go_wp2;go_ret;exact⟨rfl,b bC⟩
def vh(most:Int)(ns:List aN)(a:List aN×Bool)(x:aN):List aN×Bool:=if x.l=kN (ns++a.1) x.n x.c then a else if (a.1.length:Int)=most then(a.1,true) else(a.1++[x],a.2)
def tH(most:Int)(ns:List aN)(b:List aN×Bool)(a:List aN):List aN×Bool:=a.foldl (vh most ns) b
theorem Hp{most:Int}{ns:List aN}:∀(b:List aN) (a:fj),l7 a.es (ns++a.bO)->(∀x∈b,x.ok)->(bP most a b).bO=(tH most ns (a.bO,a.more) b).1/\(bP most a b).more=(tH most ns (a.bO,a.more) b).2
 |[],a,_,_=>⟨rfl,rfl⟩
 |x::b,a,c,d=>by
  have i:=Hp (most:=most) (ns:=ns) b (eo most a x) (Ge c (d x (by simp))) (λj hy=>d j (by simp[hy]));have e:vh most ns (a.bO,a.more) x=((eo most a x).bO,(eo most a x).more):=by
   unfold vh eo;rw[<-c.2];simp only;split
   .rfl
   .split<;>rfl
  show(bP most (eo most a x) b).bO=(tH most ns (vh most ns (a.bO,a.more) x) b).1/\(bP most (eo most a x) b).more=(tH most ns (vh most ns (a.bO,a.more) x) b).2;rw[e];exact i
theorem Hq:∀x∈jd B 21,x.ok:=λx a=>by
 obtain⟨c,b,a⟩:=List.mem_flatMap.1 a;have b:c<21:=List.mem_range.1 b;unfold lq at a;split at a
 .cases a
 .exact Ao ⟨by omega,by omega⟩ (cz 4) x a
def AX(I I':aG):Prop:=∃(b:Nat->Nat) (a:Nat->Option (List aX)) (owt:Nat->Nat) (vs:Nat->V) (ns:Nat->List aN) (bs:Nat->Bool),I'={ I with om:=b,tl:=a,owt:=owt,vs:=vs,ns:=ns,bs:=bs }/\(∀k,k<8->pq (a k) (ns k) (bs k))/\∀k,k<8->(ns k).length<=(I.ns k).length+50
def vj(e:Nat)(i:Nat->Prop)(l:Nat)(I:aG)(d W:U):Prop:=e<=d.heap.size/\∃(c:aG) (b:Nat->Prop),aO W (λa=>i a\/b a) l c/\AX I c/\∀a,b a->e<=a/\(jg W a\/(d.heap.size<=a/\∃j,X W a j 68))
theorem tI{W W':U}{S:Nat->Prop}(a:jg W Q)(e:G S W W')(d:¬S Q):jg W' Q:=by
 obtain⟨c,b,a⟩:=a;exact⟨c,b,jJ e a d⟩
theorem Hr{I:aG}(M:∀a,R a->a<Q)(A:U):tD A (vj Q R P I A):=by
 refine⟨λW W' r d=>?_,λW W' H B O r G d=>?_⟩
 .obtain⟨s,o,l,x,y,e⟩:=r;refine⟨s,o,l,x.mod d (λ_ _ j=>j),y,λa b=>⟨(e a b).1,?_⟩⟩;obtain c|⟨n,B,i⟩:=(e a b).2
  .exact .inl (tI c d (λj=>j))
  .exact .inr ⟨n,B,d.e i (λj=>j)⟩
 .obtain⟨s,o,l,x,y,e⟩:=r;have z:∀a,l a->a≠H:=λa b p=>by
   subst p;obtain c|⟨n,cs',i⟩:=(e a b).2
   .exact AW c G
   .exact i.ne G (by decide) rfl
  refine⟨s,o,l,x.mod d (λa b p=>?_),y,λa b=>⟨(e a b).1,?_⟩⟩
  .obtain c|c:=b
   .have:=M a c;omega
   .exact z a c p
  .obtain c|⟨n,cs',i⟩:=(e a b).2
   .exact .inl (tI c d (z a b))
   .exact .inr ⟨n,cs',d.e i (z a b)⟩
theorem aO.AY{w:U}{b:Nat->Prop}{I:aG}(d:aO w R Q I)(e:∀a,R a↔b a):aO w b Q I:=by
 have c:R=b:=funext λa=>propext (e a);exact c ▸ d
def Hs(d:Nat)(i:Nat->Prop)(j k:Nat)(I:aG)(e:List aN)(W:U):Prop:=∃c b,l7 c (I.ns k++e)/\aO W (λa=>i a\/(d<=a/\b a≠0)) j (I.vg b k c)/\∀a,b a≠0->d<=a->jg W a
theorem Td{w:U}{k:Nat}{I:aG}{y:List aN}(A:∀a,R a->a<w.heap.size):tD w (Hs w.heap.size R Q k I y):=by
 refine⟨λW W' o d=>?_,λW W' z G H o B d=>?_⟩
 .obtain⟨n,i,p,r,e⟩:=o;exact⟨n,i,p,r.mod d (λ_ _ s=>s),λa b c=>tI (e a b c) d (λs=>s)⟩
 .obtain⟨n,i,p,r,e⟩:=o;have x:∀a,i a≠0->w.heap.size<=a->a≠z:=λa b c l=>by
   subst l;exact AW (e a b c) B
  refine⟨n,i,p,r.mod d (λa b l=>?_),λa b c=>tI (e a b c) d (x a b c)⟩;obtain j|j:=b
  .have:=A a j;omega
  .exact x a j.2 j.1 l
theorem Te{w:U}{F:Nat->Prop}{ab:Nat}{I:aG}{lv ai:V}{ax:List Nat}{S:Array V}{i:Int}(hS:ly S 8 p i)(A:aO w R Q I)(ag:I.kb=E P)(bd:I.W.now=I.now/\I.W.fl=I.fl)(ar:∀k,k<8->pq (I.tl k) (I.ns k) (I.bs k))(bc:∀k,k<8->(I.ns k).length<=1099511627000)(hy:X w ab #[lv,n,ai] 34)(aS:iz w F ai ax)(aT:F ab)(aI:∀a,R a->F a)(aU:¬R ab)(aH:ax.length<=1099511627776):
  Calls h 17 #[g (E (u ab 0 J)),g (E (u Q 0 J)),t S] w λd w'=>d=q (L true)/\∃(aA aB:Nat->Prop) (j:List aN),(∀a,aA a\/aB a->R a)/\yc w w' aA aB (vj (w.heap.size+1) R Q I) j ab lv n ai ax:=by
 have aZ:G No w (w.alloc (m S 45)):=(G.refl No w).alloc _;have ao:=A.mod aZ (λ_ _ e=>e);have ah:(w.alloc (m S 45)).heap.size=w.heap.size+1:=by simp
 have Z:∀a,R a->a<(w.alloc (m S 45)).heap.size:=ao.lt;obtain⟨aE,bk,aC,a0,ad,aD,bl,z⟩:=A.ex;have aF:(dO I)[1]? =E (g (E (u P 0 J))):=by
  show E (gL I.kb)=_;rw[ag];rfl
 obtain⟨⟨bw,aL⟩,a7⟩:=A.keep.some P ag;by_cases aw:(0<=p/\p<8)/\1<=i/\i<=50
 .obtain⟨k,rfl⟩:∃k:Nat,p=(k:Int):=⟨p.toNat,by omega⟩;have M:k<8:=by omega
  have au:=ar k M;have y:=λx=>Hp (most:=i) (ns:=I.ns k) (jd I.fl 21) ⟨[],false,(I.tl k).getD [],x⟩ (by show l7 ((I.tl k).getD []) (I.ns k++[]);rw[dG];exact au.At) Hq;have a2:=λx=>Ar (most:=i) (ns:=I.ns k) (jd I.fl 21) ⟨[],false,(I.tl k).getD [],x⟩ (by show l7 ((I.tl k).getD []) (I.ns k++[]);rw[dG];exact au.At) Hq;obtain⟨j,a5⟩:∃j,(tH i (I.ns k) ([],false) (jd I.fl 21)).1=j:=⟨_,rfl⟩
  obtain⟨ay,ba⟩:∃ay,(tH i (I.ns k) ([],false) (jd I.fl 21)).2=ay:=⟨_,rfl⟩;simp only at y;rw[a5,ba] at y;have a6:j.length<=50:=by
   have:=tm (most:=i) (jd I.fl 21) ⟨[],false,(I.tl k).getD [],0⟩ (by simp;omega);rw[(y 0).1] at this;omega
  refine(Ho (S1:=λa=>a=P\/I.om a≠0) (S2:=λa=>I.owt a=1\/I.owt a=k+2) (Post1:=Hs (w.alloc (m S 45)).heap.size R Q k I j) (Post2:=vj (w.heap.size+1) R Q I) (D:=j) (fre:=(I.tl k).isNone) (mo:=ay) (err:=0) (O:=R) (kb:=P) (wb:=I.W.wb) (tob:=I.tob) hS A.e aF rfl rfl hy aS aT aI A.lt aU aH a6
   (λa b=>?_) (λa b=>?_) (Td Z) (λY=>Hr (λa b=>by rw[<-ah];exact Z a b) Y) (λW l=>?_) (λY ae ap W l=>?_)).mono (λd w' ⟨av,hd⟩=>⟨av,_,_,j,?_,hd⟩)
  .have a8:aE P=2:=aC P (by rw[aL.keep.bw];omega);obtain d|d:=b
   .subst d;exact⟨z _ (by omega),λc=>by subst c;omega⟩
   .have:=aD a d;exact⟨z _ (by omega),λc=>by subst c;omega⟩
  .have:=ad a (by omega);exact⟨z _ (by omega),λc=>by subst c;omega⟩
  .have B:=ao.mod l (λ_ _ e=>e);obtain⟨⟨bv,aP⟩,aJ⟩:=B.keep.some P ag;refine(QK aP.keep aJ k M i aw.2).mono ?_;rintro aj W' ⟨v,x,rfl,H⟩;have aR:=H.row;rw[(y x).1] at aR;refine⟨⟨v,by rw[(y x).2],aR,λa b=>cC l.size (H.own a b)⟩,H.mod,?_⟩;obtain⟨aa,t1,t2,t3⟩:=B.vg ag aP aJ H;have aW:∀a,(w.alloc (m S 45)).heap.size<=a->a<W.heap.size->aa a=0:=λa bo a3=>by
    rw[t2 a a3];by_cases c:I.om a=0
    .exact c
    .have:=(a7.bg a c).1;omega
   have aQ:=a2 x;rw[(y x).1] at aQ;refine⟨_,aa,aQ,t1.AY (λa=>?_),λa b a9=>?_⟩
   .constructor
    .rintro(c|⟨T,o⟩)
     .exact .inl c
     .exact .inr ⟨cC l.size T,o⟩
    .rintro(c|⟨T,o⟩)
     .exact .inl c
     .refine .inr ⟨?_,o⟩;by_cases az:W.heap.size<=a
      .exact az
      .exact absurd (aW a T (by omega)) o
   .by_cases az:W.heap.size<=a
    .exact t3 a b az
    .exact absurd (aW a a9 (by omega)) b
  .obtain⟨ak,aa,bg,bh,bi⟩:=ap;have B:=bh.mod l (λ_ _ e=>e);have hS:dC I.W.xs I.fl:=by rw[<-bd.2];exact B.bM.same
   refine(S9 B.bM.bM hS B.told (λa b=>?_) k M (t:=I.tl k) au (bc k M) i aw.2 0).mono ?_
   .by_cases c:I.owt a=0
    .exact c
    .have bq:=a0 a b;have a4:=ad a c;omega
   .rintro aj W' ⟨v,v2,rfl,bf⟩;have O:xZ W W' I.owt I.tob k I.vs I.ns I.bs j v v2:=by
     have:=(y 0).1;rw[<-this];exact bf
    refine⟨⟨v,by rw[(y 0).2],O.row,λa b=>cC l.size (O.own a b)⟩,O.mod,?_,(I.vg aa k ak).ya k v2 j,λa=>((w.alloc (m S 45)).heap.size<=a/\aa a≠0)\/(W.heap.size<=a/\v2.ownBlock=E a),(B.ya M O).AY (λa=>or_assoc),?_,λa b=>?_⟩
    .rw[<-ah];exact ae.size
    .refine⟨_,_,_,_,_,_,rfl,λs aK=>?_,λs aK=>?_⟩
     .show pq (if s=k then E ak else I.tl s) (gj I.ns k (I.ns k++j) s) (gj I.bs k true s);unfold gj;by_cases d:s=k
      .simp only[D d];exact .inr ⟨ak,rfl,rfl,bg⟩
      .simp only[f d];exact ar s aK
     .show(gj I.ns k (I.ns k++j) s).length<=_;unfold gj;by_cases d:s=k
      .simp only[D d];rw[bG,d];omega
      .simp only[f d];omega
    .obtain⟨T,o⟩|⟨T,o⟩:=b
     .refine⟨by omega,.inl (tI (tI (bi a o T) l (λe=>e)) O.mod (λd=>?_))⟩;have a4:=ad a (by omega);have:=Z a (z a (by omega));omega
     .have bt:=l.size;have bu:=ae.size;obtain⟨bm,a1,_,af,_⟩:=bp.owns ⟨_,O.jf⟩ o;exact⟨by omega,.inr ⟨by omega,a1,af⟩⟩
  .intro a b;obtain d|d:=b
   .have a8:aE P=2:=aC P (by rw[aL.keep.bw];omega);obtain d|d:=d
    .subst d;exact z _ (by omega)
    .have:=aD _ d;exact z _ (by omega)
   .have:=ad a (by omega);exact z _ (by omega)
 .obtain⟨e,H⟩:∃e,(¬(0<=p/\p<8)/\e=(14:Int))\/((0<=p/\p<8)/\¬(1<=i/\i<=50)/\e=12):=by
   by_cases c:0<=p/\p<8
   .exact⟨12,.inr ⟨c,λo=>aw ⟨c,o⟩,rfl⟩⟩
   .exact⟨14,.inl ⟨c,rfl⟩⟩
  have aX:∀(aY W:U),gm aY [] W (C J 0 0):=λaY W=>⟨dx _ _ _ _,λa b=>by simp[aV] at b⟩
  refine(Ho (S1:=No) (S2:=No) (Post1:=λW=>aO W R Q I) (Post2:=vj (w.heap.size+1) R Q I) (D:=[]) (fre:=false) (mo:=false) (err:=e) (O:=R) (kb:=P) (wb:=I.W.wb) (tob:=I.tob) hS A.e aF rfl rfl hy aS aT aI A.lt aU aH (by simp) (λa b=>b.elim) (λa b=>b.elim)
   ⟨λW W' am r=>am.mod r (λ_ _ e=>e),λW W' p bn br am af r=>am.mod r (λa b d=>by have:=Z a b;omega)⟩ (λY=>Hr (λa b=>by rw[<-ah];exact Z a b) Y) (λW l=>?_) (λY ae ap W l=>?_)).mono (λd w' ⟨av,hd⟩=>⟨av,_,_,[],λa b=>by obtain c|c:=b<;>exact c.elim,hd⟩)
  .refine(QJ P p i e H).mono ?_;rintro aj W' ⟨rfl,r⟩;exact⟨⟨_,rfl,aX _ _⟩,r,ao.mod (l.trans r) (λ_ _ e=>e)⟩
  .refine(Tc I.W.wb I.tob p i e H).mono ?_;rintro aj W' ⟨rfl,r⟩;have af:=ap.mod (l.trans r) (λ_ _ e=>e);refine⟨⟨_,rfl,aX _ _⟩,r,by rw[<-ah];exact ae.size,I,No,af.AY (λa=>⟨.inl,λc=>c.elim id (λc=>c.elim)⟩),⟨_,_,_,_,_,_,rfl,ar,λk M=>by omega⟩,λa b=>b.elim⟩
end Go.Proofs.YthhibagcpjeihaaGreat
