import Derived.Test.YthhibagcpjeihaaGreatWj
import Derived.Test.YthhibagcpjeihaaGreatWl
import Derived.Test.YthhibagcpjeihaaGreatWk
open Go.Proofs.Tryz
open Go.Addr renaming mk->u,add_mid->dE
open Go.Value renaming int->F,pointer->g,slice->C,bool->L,agg->t,tuple->aq,ownBlock->aV
open Go.IntKind renaming i64->K
open Option renaming none->J,some->E
open Go renaming World->U,Value->V
open Go.Proofs.Tryz renaming prog->h,underlying61->qT
open Go.Ending renaming returned->q
open Go.Obj renaming cells->m
open Go.Region renaming binds->gQ
set_option linter.unusedVariables false
set_option linter.unusedSimpArgs false
set_option maxRecDepth 100000
set_option maxHeartbeats 16000000
namespace Go.Proofs.YthhibagcpjeihaaGreat
open Go.RowKit
open M
variable {S o j:U} {B:List z} {R:V} {w Q P p:Int} {k I v:Nat} {W N:List Nat} {i:Nat->Prop}
theorem He{Y:V}{r c e:Int}{more:Bool}(N:S.ownsRow 0 63 6 R B.length (B.flatMap cq))(O:S.ownsRow 0 63 6 Y B.length (B.flatMap cq))(P:B.length<=120):Calls h 65 #[t #[R,F K r,F K c,F K e,L more],t #[Y,F K r,F K c,F K e,L more]] S λe w'=>e=q (L true)/\G No S w':=by
 obtain⟨w,H,rfl⟩:=aR N;obtain⟨x,I,rfl⟩:=aR O;have W:G No S ((S.alloc (m #[C w B.length H,F K r,F K c,F K e,L more] 146)).alloc (m #[C x B.length I,F K r,F K c,F K e,L more] 146)):=((G.refl No S).alloc _).alloc _;have M:=l W;have v:=l ((X.new S #[C w B.length H,F K r,F K c,F K e,L more] 146).alloc (m #[C x B.length I,F K r,F K c,F K e,L more] 146))
 have n:=l (X.new (S.alloc (m #[C w B.length H,F K r,F K c,F K e,L more] 146)) #[C x B.length I,F K r,F K c,F K e,L more] 146);have af:=l N;have ag:=l O;have ah:=l P;clear N O P W;go_enter func65,ntmps65;rw[bW] at n;go_upto_region 1 with fail;generalize (S.alloc (m #[C w B.length H,F K r,F K c,F K e,L more] 146)).alloc (m #[C x B.length I,F K r,F K c,F K e,L more] 146)=j at *
 generalize S.heap.size+1=A at *;generalize S.heap.size=y at *;have Z:j.cell? (u y 0 J)=E (C w B.length H):=(b v).T 0;have ap:j.cell? (u y 1 J)=E (F K r):=(b v).T 1;have ar:j.cell? (u y 2 J)=E (F K c):=(b v).T 2;have au:j.cell? (u y 3 J)=E (F K e):=(b v).T 3;have av:j.cell? (u y 4 J)=E (L more):=(b v).T 4;have aa:=(b v).lt;have ab:j.cell? (u A 0 J)=E (C x B.length I):=(b n).T 0
 have aw:j.cell? (u A 1 J)=E (F K r):=(b n).T 1;have ax:j.cell? (u A 2 J)=E (F K c):=(b n).T 2;have ay:j.cell? (u A 3 J)=E (F K e):=(b n).T 3;have az:j.cell? (u A 4 J)=E (L more):=(b n).T 4;have ad:=(b n).lt;have aE:(more !=more)=false:=by cases more<;>rfl
 go_upto_region 3 with fail;clear Z ap ar au av aa ab aw ax ay az ad;go_wp2_with fail;go_loopw [5] (λd ao=>∃a:Nat,d=F K (a:Int)/\a<=B.length/\Hid (G No j ao)) (λd _=>B.length - (intOf d).toNat)
 case atStart=>exact⟨0,rfl,by omega,G.refl _ _⟩
 case round=>
  obtain⟨a,rfl,aF,o⟩:=hrel;have P:=b ah;have Z:wr.cell? (u y 0 J)=E (C w B.length H):=((b o).e (b v) (λk=>k)).T 0;have aa:=((b o).e (b v) (λk=>k)).lt;have ab:wr.cell? (u A 0 J)=E (C x B.length I):=((b o).e (b n) (λk=>k)).T 0;have ad:=((b o).e (b n) (λk=>k)).lt;by_cases i:a<B.length
  .have am:(a:Int)<(B.length:Int):=by omega
   have aG:(0:Int)<=a:=by omega
   have aH:K.wrap ((a:Int)+1)=((a+1:Nat):Int):=by rw[bh _ (by omega) (by omega)];rfl
   obtain⟨aA,aj,Q⟩:=Ak (b af) (by omega);obtain⟨aB,ak,T⟩:=Ak (b ag) (by omega);subst aj;subst ak;have p:=Q.mod ((b M).trans (b o)) (λk=>k);have s:=T.mod ((b M).trans (b o)) (λk=>k);have aI:=p.row a i;have aJ:=p.ae a i;have aK:=p.st a i;have aL:=p.pa a i;have aN:=p.cl a i;have aO:=p.un a i;have aP:=s.row a i;have aQ:=s.ae a i;have aS:=s.st a i;have aT:=s.pa a i;have aU:=s.cl a i
   have aW:=s.un a i;have aC:=p.lt;have aD:=s.lt;clear Q T p s;generalize B[a]=d at *;have ai:=l (((b o).alloc (m #[F K d.row,F K d.ae,F K d.st,F K d.pa,F K d.cl,F K d.un] 63)).alloc (m #[F K d.row,F K d.ae,F K d.st,F K d.pa,F K d.cl,F K d.un] 63));go_wp2;exact⟨⟨a+1,rfl,by omega,ai⟩,by simp[intOf];omega⟩
  .have am:¬(a:Int)<(B.length:Int):=by omega
   have ae:=l ((b M).trans (b o));go_wp2;go_ret;exact⟨rfl,b ae⟩
theorem qs{ops:Array Oper}{j k:Nat}{c:Oper}{a:Act}(e:ops[j]? =E c)(d:c.after.any (λb=>b.on==k&&gQ .any b)=true):im ops j a k=eN ops k a:=by
 unfold im;rw[e];simp only;rw[D d]
def dQ(a:V)(R:gT):Array V:=#[a,F K R.r,F K R.c,F K R.ep,L R.more]
def je(d:U)(R:gT)(c:U)(b:V):Prop:=c.ownsRow 0 63 6 b R.Y.length (R.Y.flatMap cq)/\∀a,b.ownBlock=E a->d.heap.size<=a
structure cP (w:U) (R:gT) (W W':U):Prop where
 e:∀b cs T',T'≠146->X W b cs T'->X W' b cs T'
 mV:∀b cs,X W b cs 146->cs.size=5->∃cs',X W' b cs' 146/\cs'.size=5/\(cs'=cs\/∃u,cs'=dQ u R/\je w R W' u)
theorem cP.mod{w:U}{R:gT}(c:G No S o):cP w R S o:=⟨λ_ _ _ _ a=>c.e a (λb=>b),λ_ _ a d=>⟨_,c.e a (λb=>b),d,.inl rfl⟩⟩
theorem je.fW{R:gT}{c:V}(a:je S R o c)(p:cP S R o j):je S R j c:=by
 refine⟨?_,a.2⟩;obtain⟨b,k|⟨i,d,e,r,l,n,s⟩⟩:=a.1
 .exact⟨b,.inl k⟩
 .exact⟨b,.inr ⟨i,d,e,r,l,p.e _ _ _ (by decide) n,s⟩⟩
def qt(i:U)(R:gT)(j n v:Nat)(p r k l size:Int)(o:Nat)(a:V)(s:Nat->V)(e:U):Prop:=
 match o with
 |0|1=>a=g (E (u j 0 J))
 |2=>a=g (E (u j n J))
 |3=>a=g (E (u v 0 J))
 |4=>a=F K p
 |5=>a=t #[F K r,F K k,F K l]
 |6=>a=F K size
 |7|8=>∃b,a=aq #[t (dQ b R),F K R.err]/\je i R e b
 |9=>∃b,a=t (dQ b R)/\je i R e b
 |10|13=>a=F K R.err
 |11=>∃c d,a=g (E (u c 0 J))/\X e c d 146/\d.size=5/\i.heap.size<=c
 |12=>∃c,s 11=g (E (u c 0 J))/\i.heap.size<=c/\∃d,X e c d 146/\d.size=5/\∃b,d=dQ b R/\je i R e b
 |_=>True
theorem qt.fW{R:gT}{size:Int}(z:Nat)(B:V)(A:Nat->V)(x y:U)(e:cP S R x y)(a:qt S R k I v w Q P p size z B A x):qt S R k I v w Q P p size z B A y:=by
 unfold qt at a ⊢;split at a
 all_goals first
  |exact a
  |(obtain⟨s,c,d⟩:=a;exact⟨s,c,d.fW e⟩)
  |(obtain⟨b,j,c,d,l,n⟩:=a;obtain⟨cs',o,r,i⟩:=e.mV b j d l;exact⟨b,cs',c,o,r,n⟩)
  |(obtain⟨b,c,d,j,l,n,s,G,H⟩:=a
    obtain⟨cs',o,r,i⟩:=e.mV b j l n
    refine⟨b,c,d,cs',o,r,?_⟩
    obtain rfl|i:=i
    .exact⟨s,G,H.fW e⟩
    .exact i)
noncomputable def AQ:TypeDesc:=(h.underlying 43).getD (.slice 0)
theorem Hf:h.underlying 43=E AQ:=by kernel_rfl
noncomputable def Hg(a:Nat):Code:=ub (f38.body.getD .skip) a
theorem Sz{size:Int}{R:gT}(au:∀a,G No S a->a.cell? (u k 1 J)=E (g (E (u I 0 J))))(aw:X S v #[F K Q,F K P,F K p] 43)(av:∀a,G No S a->Calls h 63 #[g (E (u I 0 J)),F K w,t #[F K Q,F K P,F K p],F K size] a λap w'=>Told a w' ap R)(am:Exit->Act->U->Prop)(aD aL a9 bm bn bo aE bO bP aF aG aH bQ bR bS bT bU bV bX bY bZ b0 b1 aI aJ aK aN aO aP aQ aS aT aU aW aX aY aZ a0 a1 a2 a3 a4 a5 a6 a7 a8 ba bb bc bd bf bg bh bi bk bl:V)
  (ax:∀(b4 b5 b6 b7 b8 b9 ca cb b3 cc cd:V) (j:Nat) (i:V) (a:U),Hid (G No S a/\X a j (dQ i R) 146/\je S R a i/\S.heap.size<=j)->am .normal ⟨#[aD,g (E (u k 0 J)),F K w,aL,F K size,a9,bm,bn,g (E (u v 0 J)),bo,aE,g (E (u j 0 J)),F K R.err,aF,aG,aH,b3,b4,b5,b6,b7,b8,b9,ca,cb,cc,cd,aI,aJ,aK,aN,aO,aP,aQ,aS,aT,aU,aW,aX,aY,aZ,a0,a1,a2,a3,a4,a5,a6,a7,a8,ba,bb,bc,bd,bf,bg,bh,bi,bk,bl],[]⟩ a):
  Code.wp h (Hg 1) am ⟨#[aD,g (E (u k 0 J)),F K w,aL,F K size,a9,bm,bn,g (E (u v 0 J)),bo,aE,bO,bP,aF,aG,aH,bQ,bR,bS,bT,bU,bV,bX,bY,bZ,b0,b1,aI,aJ,aK,aN,aO,aP,aQ,aS,aT,aU,aW,aX,aY,aZ,a0,a1,a2,a3,a4,a5,a6,a7,a8,ba,bb,bc,bd,bf,bg,bh,bi,bk,bl],[]⟩ S:=by
 conv=>arg 4;dsimp only
 conv=>arg 2;whnf
 have ak:=l ax;have N:=l au;have T:=l aw;have O:=l av;clear ax au aw av;refine yA (n:=60) (λa=>G No S a) (cP S R) (qt S R k 1 I w Q P p size) (by kernel_rfl) rfl (by kernel_rfl) (λn bp bM a br af z=>z.fW n bp bM a br af) ?_ ?_ (G.refl No S).drew
 .intro n bJ d a ab W c hd;have hi:n<14:=(Array.getElem?_eq_some_iff.1 ab).1;have A:d.eval (.tmp 1)=g (E (u k 0 J)):=W.rest 1 (by kernel_rfl);have B:d.eval (.tmp 2)=F K w:=W.rest 2 (by kernel_rfl);have H:d.eval (.tmp 4)=F K size:=W.rest 4 (by kernel_rfl);have M:d.eval (.tmp 8)=g (E (u v 0 J)):=W.rest 8 (by kernel_rfl);clear ak W
  have bE:n=0\/n=1\/n=2\/n=3\/n=4\/n=5\/n=6\/n=7\/n=8\/n=9\/n=10\/n=11\/n=12\/n=13:=by omega
  obtain rfl|rfl|rfl|rfl|rfl|rfl|rfl|rfl|rfl|rfl|rfl|rfl|rfl|rfl:=bE
  all_goals
   replace ab:=bD (show E _=E bJ from ab);subst ab
  .refine dR _ rfl ?_;exact⟨_,rfl,c,cP.mod (G.refl _ _),A⟩
  .have ce:d.tmps[17]?.getD undef=g (E (u k 0 J)):=by simpa using (show d.tmps.getD 17 undef=_ from hd ⟨0,.data⟩ (by simp) rfl)
   have e:=l c;clear hd c A B H M N T O;go_simp
   first|exact b e|exact⟨_,rfl,b e,cP.mod (G.refl _ _),rfl⟩|exact⟨b e,cP.mod (G.refl _ _),rfl⟩|exact⟨b e,cP.mod (G.refl _ _)⟩
  .have cf:d.tmps[18]?.getD undef=g (E (u k 0 J)):=by simpa using (show d.tmps.getD 18 undef=_ from hd ⟨1,.data⟩ (by simp) rfl)
   have e:=l c;clear hd c A B H M N T O;go_simp
   first|exact b e|exact⟨_,rfl,b e,cP.mod (G.refl _ _),rfl⟩|exact⟨b e,cP.mod (G.refl _ _),rfl⟩|exact⟨b e,cP.mod (G.refl _ _)⟩
  .have cg:d.tmps[19]?.getD undef=g (E (u k 1 J)):=by simpa using (show d.tmps.getD 19 undef=_ from hd ⟨2,.data⟩ (by simp) rfl)
   have ch:=(b N) a c;have e:=l c;clear hd c A B H M N T O;go_simp
   first|exact b e|exact⟨_,rfl,b e,cP.mod (G.refl _ _),rfl⟩|exact⟨b e,cP.mod (G.refl _ _),rfl⟩|exact⟨b e,cP.mod (G.refl _ _)⟩
  .refine dR _ rfl ?_;exact⟨_,rfl,c,cP.mod (G.refl _ _),B⟩
  .refine wp_load_mid _ _ rfl v 0 M [F K Q,F K P,F K p] AQ ((c.e (b T) (λb2=>b2)).range 0 _ (λck bp z=>by rw[bK];simpa using z)) Hf (by kernel_rfl) (by kernel_rfl) ?_;exact⟨_,rfl,c,cP.mod (G.refl _ _),rfl⟩
  .refine dR _ rfl ?_;exact⟨_,rfl,c,cP.mod (G.refl _ _),H⟩
  .have o:d.eval (.tmp 20)=g (E (u I 0 J)):=hd ⟨3,.data⟩ (by simp) rfl;have r:d.eval (.tmp 21)=F K w:=hd ⟨4,.data⟩ (by simp) rfl;have ah:d.eval (.tmp 22)=t #[F K Q,F K P,F K p]:=hd ⟨5,.data⟩ (by simp) rfl;have ai:d.eval (.tmp 23)=F K size:=hd ⟨6,.data⟩ (by simp) rfl
   refine vS 63 _ _ rfl #[g (E (u I 0 J)),F K w,t #[F K Q,F K P,F K p],F K size] (by simp[o,r,ah,ai]) (λa=>by kernel_rfl) ((b O) a c) ?_;rintro ap w' ⟨⟨i,rfl,hu,bH⟩,aB⟩;exact⟨_,rfl,_,rfl,c.trans aB,cP.mod aB,i,rfl,hu,λY az=>cC c.size (bH Y az)⟩
  .have o:∃i,d.eval (.tmp 24)=aq #[t (dQ i R),F K R.err]/\je S R a i:=hd ⟨7,.data⟩ (by simp) rfl;refine dR _ rfl ?_;exact⟨_,rfl,c,cP.mod (G.refl _ _),o⟩
  .obtain⟨i,o,r⟩:∃i,d.tmps.getD 16 undef=aq #[t (dQ i R),F K R.err]/\je S R a i:=hd ⟨8,.data⟩ (by simp) rfl;have o:d.tmps[16]?.getD undef=aq #[t (dQ i R),F K R.err]:=by simpa using o
   have e:=l c;have bq:=l r;clear hd c A B H M N T O r;go_simp;exact⟨_,rfl,b e,cP.mod (G.refl _ _),i,rfl,b bq⟩
  .obtain⟨i,o,r⟩:∃i,d.tmps.getD 16 undef=aq #[t (dQ i R),F K R.err]/\je S R a i:=hd ⟨8,.data⟩ (by simp) rfl;have o:d.tmps[16]?.getD undef=aq #[t (dQ i R),F K R.err]:=by simpa using o
   have e:=l c;clear hd c A B H M N T O r;go_simp
   first|exact b e|exact⟨_,rfl,b e,cP.mod (G.refl _ _),rfl⟩|exact⟨b e,cP.mod (G.refl _ _),rfl⟩|exact⟨b e,cP.mod (G.refl _ _)⟩
  .have ag:G No a (a.alloc (m ks 146)):=(G.refl No a).alloc _;have e:=l (c.trans ag);have ao:=l (cP.mod (w:=S) (R:=R) ag);have aj:=l (show qt S R k 1 I w Q P p size 11 (g (E (u a.heap.size 0 J))) (λ_=>undef) (a.alloc (m ks 146)) from⟨a.heap.size,ks,rfl,X.new a _ _,rfl,c.size⟩);clear hd c A B H M N T O ag;unfold ks at e ao aj;go_simp;exact⟨_,rfl,b e,b ao,b aj⟩
  .obtain⟨j,y,o,r,ah,ai⟩:∃j y,d.eval (.tmp 11)=g (E (u j 0 J))/\X a j y 146/\y.size=5/\S.heap.size<=j:=hd ⟨11,.data⟩ (by simp) rfl;obtain⟨i,bL,ad⟩:∃i,d.eval (.tmp 25)=t (dQ i R)/\je S R a i:=hd ⟨9,.data⟩ (by simp) rfl;obtain⟨s,x,rfl⟩:=aR ad.1;refine wp_store_mid _ _ _ rfl j 0 (dQ (C s R.Y.length x) R) o bL (r.there 0 5 (by omega)) (by kernel_rfl) (by simp[dQ,Value.oneCell']) ?_
   have ar:X (a.setCells j 0 (dQ (C s R.Y.length x) R).toList) j (dQ (C s R.Y.length x) R) 146:=by
    have:=X.setCells (dQ (C s R.Y.length x) R).toList 0 a _ r
    rwa [tQ _ _ (by rw[ah];rfl)] at this
   have ae:G (λY=>Y=j) a (a.setCells j 0 (dQ (C s R.Y.length x) R).toList):=G.setCells (S:=λY=>Y=j) (.inl rfl) _ 0 a (G.refl _ _);have hS:cP S R a (a.setCells j 0 (dQ (C s R.Y.length x) R).toList):=by
    have ay:∀b' y aa,aa≠146->X a b' y aa->X (a.setCells j 0 (dQ (C s R.Y.length x) R).toList) b' y aa:=λb' y aa bB z=>ae.e z (z.ne r bB);have bA:je S R (a.setCells j 0 (dQ (C s R.Y.length x) R).toList) (C s R.Y.length x):=by
     refine⟨?_,ad.2⟩;obtain⟨aC,Z|⟨bu,bs,bt,bI,bC,bF,Q⟩⟩:=ad.1
     .exact⟨aC,.inl Z⟩
     .exact⟨aC,.inr ⟨bu,bs,bt,bI,bC,ay _ _ _ (by decide) bF,Q⟩⟩
    refine⟨ay,λb' cs' z af=>?_⟩;by_cases p:b'=j
    .subst p;exact⟨_,ar,rfl,.inr ⟨_,rfl,bA⟩⟩
    .exact⟨cs',ae.e z p,af,.inl rfl⟩
   refine⟨undef,rfl,c.trans' ae (λY az cj=>by omega),hS,j,?_,ai,_,ar,rfl,_,rfl,ad.fW hS⟩;exact(qs (k:=11) rfl (by kernel_rfl)).trans o
  .have o:d.eval (.tmp 26)=F K R.err:=hd ⟨10,.data⟩ (by simp) rfl;refine sy _ rfl ?_;exact⟨_,rfl,c,cP.mod (G.refl _ _),o⟩
 .intro d a W c hF;obtain⟨j,Z,bw,y,bx,ci,i,rfl,bz⟩:=hF 12 (by decide);have Z:d.tmps.getD 11 undef=g (E (u j 0 J)):=(qs (k:=11) rfl (by kernel_rfl)).symm.trans Z;have bv:d.tmps.getD 12 undef=F K R.err:=hF 13 (by decide);have aA:=W.lit;rw[aA];clear aA;simp only[oW,oX,jT,nM,oY,nN,nO,Z,bv];exact(b ak) _ _ _ _ _ _ _ _ _ _ _ j i a ⟨c,bx,bz,bw⟩
theorem SA{size:Int}{R:gT}(au:∀a,G No S a->a.cell? (u k 2 J)=E (g (E (u I 0 J))))(aw:X S v #[F K Q,F K P,F K p] 43)(av:∀a,G No S a->Calls h 64 #[g (E (u I 0 J)),F K w,t #[F K Q,F K P,F K p],F K size] a λap w'=>Told a w' ap R)(am:Exit->Act->U->Prop)(aD aW a9 bm bn bo aE aF aG bO bP aH aI aJ aK aL aN aO aP aQ aS aT aU bQ bR bS bT bU bV bX bY bZ b0 b1 aX aY aZ a0 a1 a2 a3 a4 a5 a6 a7 a8 ba bb bc bd bf bg bh bi bk bl:V)
  (ax:∀(b4 b5 b6 b7 b8 b9 ca cb b3 cc cd:V) (j:Nat) (i:V) (a:U),Hid (G No S a/\X a j (dQ i R) 146/\je S R a i/\S.heap.size<=j)->am .normal ⟨#[aD,g (E (u k 0 J)),F K w,aW,F K size,a9,bm,bn,g (E (u v 0 J)),bo,aE,aF,aG,g (E (u j 0 J)),F K R.err,aH,aI,aJ,aK,aL,aN,aO,aP,aQ,aS,aT,aU,b3,b4,b5,b6,b7,b8,b9,ca,cb,cc,cd,aX,aY,aZ,a0,a1,a2,a3,a4,a5,a6,a7,a8,ba,bb,bc,bd,bf,bg,bh,bi,bk,bl],[]⟩ a):
  Code.wp h (Hg 2) am ⟨#[aD,g (E (u k 0 J)),F K w,aW,F K size,a9,bm,bn,g (E (u v 0 J)),bo,aE,aF,aG,bO,bP,aH,aI,aJ,aK,aL,aN,aO,aP,aQ,aS,aT,aU,bQ,bR,bS,bT,bU,bV,bX,bY,bZ,b0,b1,aX,aY,aZ,a0,a1,a2,a3,a4,a5,a6,a7,a8,ba,bb,bc,bd,bf,bg,bh,bi,bk,bl],[]⟩ S:=by
 conv=>arg 4;dsimp only
 conv=>arg 2;whnf
 have ak:=l ax;have N:=l au;have T:=l aw;have O:=l av;clear ax au aw av;refine yA (n:=60) (λa=>G No S a) (cP S R) (qt S R k 2 I w Q P p size) (by kernel_rfl) rfl (by kernel_rfl) (λn bp bM a br af z=>z.fW n bp bM a br af) ?_ ?_ (G.refl No S).drew
 .intro n bJ d a ab W c hd;have hi:n<14:=(Array.getElem?_eq_some_iff.1 ab).1;have A:d.eval (.tmp 1)=g (E (u k 0 J)):=W.rest 1 (by kernel_rfl);have B:d.eval (.tmp 2)=F K w:=W.rest 2 (by kernel_rfl);have H:d.eval (.tmp 4)=F K size:=W.rest 4 (by kernel_rfl);have M:d.eval (.tmp 8)=g (E (u v 0 J)):=W.rest 8 (by kernel_rfl);clear ak W
  have bE:n=0\/n=1\/n=2\/n=3\/n=4\/n=5\/n=6\/n=7\/n=8\/n=9\/n=10\/n=11\/n=12\/n=13:=by omega
  obtain rfl|rfl|rfl|rfl|rfl|rfl|rfl|rfl|rfl|rfl|rfl|rfl|rfl|rfl:=bE
  all_goals
   replace ab:=bD (show E _=E bJ from ab);subst ab
  .refine dR _ rfl ?_;exact⟨_,rfl,c,cP.mod (G.refl _ _),A⟩
  .have ce:d.tmps[28]?.getD undef=g (E (u k 0 J)):=by simpa using (show d.tmps.getD 28 undef=_ from hd ⟨0,.data⟩ (by simp) rfl)
   have e:=l c;clear hd c A B H M N T O;go_simp
   first|exact b e|exact⟨_,rfl,b e,cP.mod (G.refl _ _),rfl⟩|exact⟨b e,cP.mod (G.refl _ _),rfl⟩|exact⟨b e,cP.mod (G.refl _ _)⟩
  .have cf:d.tmps[29]?.getD undef=g (E (u k 0 J)):=by simpa using (show d.tmps.getD 29 undef=_ from hd ⟨1,.data⟩ (by simp) rfl)
   have e:=l c;clear hd c A B H M N T O;go_simp
   first|exact b e|exact⟨_,rfl,b e,cP.mod (G.refl _ _),rfl⟩|exact⟨b e,cP.mod (G.refl _ _),rfl⟩|exact⟨b e,cP.mod (G.refl _ _)⟩
  .have cg:d.tmps[30]?.getD undef=g (E (u k 2 J)):=by simpa using (show d.tmps.getD 30 undef=_ from hd ⟨2,.data⟩ (by simp) rfl)
   have ch:=(b N) a c;have e:=l c;clear hd c A B H M N T O;go_simp
   first|exact b e|exact⟨_,rfl,b e,cP.mod (G.refl _ _),rfl⟩|exact⟨b e,cP.mod (G.refl _ _),rfl⟩|exact⟨b e,cP.mod (G.refl _ _)⟩
  .refine dR _ rfl ?_;exact⟨_,rfl,c,cP.mod (G.refl _ _),B⟩
  .refine wp_load_mid _ _ rfl v 0 M [F K Q,F K P,F K p] AQ ((c.e (b T) (λb2=>b2)).range 0 _ (λck bp z=>by rw[bK];simpa using z)) Hf (by kernel_rfl) (by kernel_rfl) ?_;exact⟨_,rfl,c,cP.mod (G.refl _ _),rfl⟩
  .refine dR _ rfl ?_;exact⟨_,rfl,c,cP.mod (G.refl _ _),H⟩
  .have o:d.eval (.tmp 31)=g (E (u I 0 J)):=hd ⟨3,.data⟩ (by simp) rfl;have r:d.eval (.tmp 32)=F K w:=hd ⟨4,.data⟩ (by simp) rfl;have ah:d.eval (.tmp 33)=t #[F K Q,F K P,F K p]:=hd ⟨5,.data⟩ (by simp) rfl;have ai:d.eval (.tmp 34)=F K size:=hd ⟨6,.data⟩ (by simp) rfl
   refine vS 64 _ _ rfl #[g (E (u I 0 J)),F K w,t #[F K Q,F K P,F K p],F K size] (by simp[o,r,ah,ai]) (λa=>by kernel_rfl) ((b O) a c) ?_;rintro ap w' ⟨⟨i,rfl,hu,bH⟩,aB⟩;exact⟨_,rfl,_,rfl,c.trans aB,cP.mod aB,i,rfl,hu,λY az=>cC c.size (bH Y az)⟩
  .have o:∃i,d.eval (.tmp 35)=aq #[t (dQ i R),F K R.err]/\je S R a i:=hd ⟨7,.data⟩ (by simp) rfl;refine dR _ rfl ?_;exact⟨_,rfl,c,cP.mod (G.refl _ _),o⟩
  .obtain⟨i,o,r⟩:∃i,d.tmps.getD 27 undef=aq #[t (dQ i R),F K R.err]/\je S R a i:=hd ⟨8,.data⟩ (by simp) rfl;have o:d.tmps[27]?.getD undef=aq #[t (dQ i R),F K R.err]:=by simpa using o
   have e:=l c;have bq:=l r;clear hd c A B H M N T O r;go_simp;exact⟨_,rfl,b e,cP.mod (G.refl _ _),i,rfl,b bq⟩
  .obtain⟨i,o,r⟩:∃i,d.tmps.getD 27 undef=aq #[t (dQ i R),F K R.err]/\je S R a i:=hd ⟨8,.data⟩ (by simp) rfl;have o:d.tmps[27]?.getD undef=aq #[t (dQ i R),F K R.err]:=by simpa using o
   have e:=l c;clear hd c A B H M N T O r;go_simp
   first|exact b e|exact⟨_,rfl,b e,cP.mod (G.refl _ _),rfl⟩|exact⟨b e,cP.mod (G.refl _ _),rfl⟩|exact⟨b e,cP.mod (G.refl _ _)⟩
  .have ag:G No a (a.alloc (m ks 146)):=(G.refl No a).alloc _;have e:=l (c.trans ag);have ao:=l (cP.mod (w:=S) (R:=R) ag);have aj:=l (show qt S R k 2 I w Q P p size 11 (g (E (u a.heap.size 0 J))) (λ_=>undef) (a.alloc (m ks 146)) from⟨a.heap.size,ks,rfl,X.new a _ _,rfl,c.size⟩);clear hd c A B H M N T O ag;unfold ks at e ao aj;go_simp;exact⟨_,rfl,b e,b ao,b aj⟩
  .obtain⟨j,y,o,r,ah,ai⟩:∃j y,d.eval (.tmp 13)=g (E (u j 0 J))/\X a j y 146/\y.size=5/\S.heap.size<=j:=hd ⟨11,.data⟩ (by simp) rfl;obtain⟨i,bL,ad⟩:∃i,d.eval (.tmp 36)=t (dQ i R)/\je S R a i:=hd ⟨9,.data⟩ (by simp) rfl;obtain⟨s,x,rfl⟩:=aR ad.1;refine wp_store_mid _ _ _ rfl j 0 (dQ (C s R.Y.length x) R) o bL (r.there 0 5 (by omega)) (by kernel_rfl) (by simp[dQ,Value.oneCell']) ?_
   have ar:X (a.setCells j 0 (dQ (C s R.Y.length x) R).toList) j (dQ (C s R.Y.length x) R) 146:=by
    have:=X.setCells (dQ (C s R.Y.length x) R).toList 0 a _ r
    rwa [tQ _ _ (by rw[ah];rfl)] at this
   have ae:G (λY=>Y=j) a (a.setCells j 0 (dQ (C s R.Y.length x) R).toList):=G.setCells (S:=λY=>Y=j) (.inl rfl) _ 0 a (G.refl _ _);have hS:cP S R a (a.setCells j 0 (dQ (C s R.Y.length x) R).toList):=by
    have ay:∀b' y aa,aa≠146->X a b' y aa->X (a.setCells j 0 (dQ (C s R.Y.length x) R).toList) b' y aa:=λb' y aa bB z=>ae.e z (z.ne r bB);have bA:je S R (a.setCells j 0 (dQ (C s R.Y.length x) R).toList) (C s R.Y.length x):=by
     refine⟨?_,ad.2⟩;obtain⟨aC,Z|⟨bu,bs,bt,bI,bC,bF,Q⟩⟩:=ad.1
     .exact⟨aC,.inl Z⟩
     .exact⟨aC,.inr ⟨bu,bs,bt,bI,bC,ay _ _ _ (by decide) bF,Q⟩⟩
    refine⟨ay,λb' cs' z af=>?_⟩;by_cases p:b'=j
    .subst p;exact⟨_,ar,rfl,.inr ⟨_,rfl,bA⟩⟩
    .exact⟨cs',ae.e z p,af,.inl rfl⟩
   refine⟨undef,rfl,c.trans' ae (λY az cj=>by omega),hS,j,?_,ai,_,ar,rfl,_,rfl,ad.fW hS⟩;exact(qs (k:=11) rfl (by kernel_rfl)).trans o
  .have o:d.eval (.tmp 37)=F K R.err:=hd ⟨10,.data⟩ (by simp) rfl;refine sy _ rfl ?_;exact⟨_,rfl,c,cP.mod (G.refl _ _),o⟩
 .intro d a W c hF;obtain⟨j,Z,bw,y,bx,ci,i,rfl,bz⟩:=hF 12 (by decide);have Z:d.tmps.getD 13 undef=g (E (u j 0 J)):=(qs (k:=11) rfl (by kernel_rfl)).symm.trans Z;have bv:d.tmps.getD 14 undef=F K R.err:=hF 13 (by decide);have aA:=W.lit;rw[aA];clear aA;simp only[oW,oX,jT,nM,oY,nN,nO,Z,bv];exact(b ak) _ _ _ _ _ _ _ _ _ _ _ j i a ⟨c,bx,bz,bw⟩
theorem fY.box{x:aB}(a:X S k (cg x) 134)(d:bE S x.g x.cap x.f.Y)(e:aJ x.f.c x.f.Y)(c:k≠x.g):fY S k 0 x.g x.cap x.f.c x.f.Y:=by
 refine⟨d,cC (ju e) (by omega),c,a.T 8,λi b=>?_⟩;rw[a.T]
 match i,b with|0,_=>rfl|1,_=>rfl|2,_=>rfl|3,_=>rfl
structure fV (w wx:U) (x:aB) (pb:Nat) (D:List z) (r c:Int) (more:Bool) (v:V) (i j:Nat):Prop where
 mod:G No w wx
 res:X wx (w.heap.size+1) ks 146
 box:X wx (w.heap.size+1+1) (cg x) 134
 dv:X wx pb #[v,F K (gx r c (D.take j)).1,F K (gx r c (D.take j)).2,F K x.f.ep,L more] 146
 row:wx.ownsRow 0 63 6 v i ((D.take i).flatMap cq)
 new:∀k,v.ownBlock=E k->w.heap.size<=k/\k≠pb/\k≠w.heap.size+1/\k≠w.heap.size+1+1
 jr:w.heap.size<=pb/\pb≠w.heap.size+1/\pb≠w.heap.size+1+1
theorem fV.still{c:U}{x:aB}{more:Bool}{j:Nat}(a:fV S o x k B w Q more R I j)(b:G No o c):fV S c x k B w Q more R I j:=
 ⟨a.mod.trans b,b.e a.res (λx=>x),b.e a.box (λx=>x),b.e a.dv (λx=>x),b.owns a.row (λ_ _ x=>x),a.new,a.jr⟩
theorem fV.start{w:U}{x:aB}{D:List z}{r c:Int}{more:Bool}(b:G No w S)(d:X S (w.heap.size+1) ks 146)(a:X S (w.heap.size+1+1) (cg x) 134):fV w (S.alloc (m #[C J 0 0,F K r,F K c,F K x.f.ep,L more] 146)) x S.heap.size D r c more (C J 0 0) 0 0:=
 ⟨b.alloc _,d.alloc _,a.alloc _,X.new S _ _,dx _ _ _ _,λi e=>by simp[aV] at e,b.size,by have:=d.lt;omega,by have:=a.lt;omega⟩
theorem fV.end_{x:aB}{more:Bool}(a:fV S o x k B w Q more R (I+1) I)(hi:I<B.length):fV S ((o.setCell (u k 1 J) (F K B[I].row)).setCell (u k 2 J) (F K B[I].ae)) x k B w Q more R (I+1) (I+1):=by
 have c:G (λd=>d=k) o ((o.setCell (u k 1 J) (F K B[I].row)).setCell (u k 2 J) (F K B[I].ae)):=((G.refl _ o).at 1 _).at 2 _;refine⟨a.mod.trans' c (λd e i=>by have:=a.jr.1;omega),c.e a.res (λb=>a.jr.2.1 b.symm),c.e a.box (λb=>a.jr.2.2 b.symm),?_,c.owns a.row (λd e b=>(a.new d e).2.1 b),a.new,a.jr⟩;rw[DR w Q B I hi];exact(a.dv.set 1 _).set 2 _
theorem fV.told{x:aB}{more:Bool}{a:Option Addr}(d:fV S o x k B w Q more (C a B.length I) B.length B.length):Told S (((((o.setCell ⟨S.heap.size+1,0,J⟩ (C a B.length I)).setCell ⟨S.heap.size+1,1,J⟩ (F K (gx w Q B).1)).setCell ⟨S.heap.size+1,2,J⟩ (F K (gx w Q B).2)).setCell ⟨S.heap.size+1,3,J⟩ (F K x.f.ep)).setCell ⟨S.heap.size+1,4,J⟩ (L more))
   (q (aq #[t #[C a B.length I,F K (gx w Q B).1,F K (gx w Q B).2,F K x.f.ep,L more],F K 0])) ⟨B,(gx w Q B).1,(gx w Q B).2,x.f.ep,more,0⟩:=by
 have b:∀i,No (⟨S.heap.size+1,i,J⟩:Addr).block\/S.heap.size<=(⟨S.heap.size+1,i,J⟩:Addr).block:=λi=>.inr (by simp);have j:=d.row;rw[fN] at j;refine⟨⟨_,rfl,?_,λc e=>(d.new c e).1⟩,((((d.mod.setCell (b 0) _).setCell (b 1) _).setCell (b 2) _).setCell (b 3) _).setCell (b 4) _⟩;exact((((G.refl (λc=>c=S.heap.size+1) o).at 0 _).at 1 _).at 2 _|>.at 3 _|>.at 4 _).owns j (λc e l=>(d.new c e).2.2.1 l)
noncomputable def SC(a:Nat):Code:=((mP (f64.body.getD .skip))[a]?).getD .skip
noncomputable def Hh:TypeDesc:=(h.underlying 63).getD (.slice 0)
theorem SD:h.underlying 63=E Hh:=by kernel_rfl
theorem fV.app{d:U}{x:aB}{more:Bool}{j:Nat}(a:fV S o x k B w Q more R I j)(c:G (λe=>R.ownBlock=E e) o d)(l:d.ownsRow 0 63 6 R I ((B.take I).flatMap cq)):fV S d x k B w Q more R I j:=
 ⟨a.mod.trans' c (λe i n=>by have:=(a.new e i).1;omega),c.e a.res (λb=>(a.new _ b).2.2.1 rfl),c.e a.box (λb=>(a.new _ b).2.2.2 rfl),c.e a.dv (λb=>(a.new _ b).2.1 rfl),l,a.new,a.jr⟩
theorem fV.qa{x:aB}{more:Bool}{v':V}(b:fV S o x k B w Q more R I I)(hi:I<B.length)(j:o.ownsRow 0 63 6 v' (I+1) (((B.take I).flatMap cq)++cq B[I]))(i:∀a,v'.ownBlock=E a->S.heap.size<=a/\a≠k/\a≠S.heap.size+1/\a≠S.heap.size+1+1):fV S (o.setCell (u k 0 J) v') x k B w Q more v' (I+1) I:=by
 have c:G (λa=>a=k) o (o.setCell (u k 0 J) v'):=(G.refl (λa=>a=k) o).setCell (p:=u k 0 J) (.inl rfl) _;refine⟨b.mod.trans' c (λa e l=>by have:=b.jr.1;omega),c.e b.res (λd=>b.jr.2.1 d.symm),c.e b.box (λd=>b.jr.2.2 d.symm),b.dv.set 0 v',?_,i,b.jr⟩;have:(B.take (I+1)).flatMap cq=(B.take I).flatMap cq++cq B[I]:=by rw[take_succ B I hi,jW];simp
 rw[this];exact c.owns j (λa e=>(i a e).2.1)
def nK(c:U)(x:aB)(k p l:Nat)(n:List z)(e:z)(j:V)(o:Nat)(a:V)(i:U):Prop:=
 match o with
 |0|9=>a=g (E (u k 0 J))
 |1=>a=j
 |2=>a=g (E ⟨c.heap.size+1+1,8,J⟩)
 |3=>a=C (E (u x.g 0 J)) x.f.Y.length x.cap
 |4=>a=F K (p:Int)
 |5=>a=g (E ⟨x.g,p* 6,J⟩)
 |6=>a=t (eB e)
 |7=>∃d,a=C (E (u d 0 J)) 1 1/\X i d (eB e) 63/\j.ownBlock≠E d
 |8=>i.ownsRow 0 63 6 a (l+1) (((n.take l).flatMap cq)++cq e)/\∀b,a.ownBlock=E b->c.heap.size<=b/\b≠k/\b≠c.heap.size+1/\b≠c.heap.size+1+1
 |_=>True
structure gB (q:Nat) (D:List z) (sd:z) (l:V) (W W':U):Prop where
 e:∀b cs T',X W b cs T'->l.ownBlock≠E b->X W' b cs T'
 row:∀u,W.ownsRow 0 63 6 u (q+1) (((D.take q).flatMap cq)++cq sd)->W'.ownsRow 0 63 6 u (q+1) (((D.take q).flatMap cq)++cq sd)
theorem gB.refl(e:Nat)(c:List z)(i:z)(d:V)(b:U):gB e c i d b b:=⟨λ_ _ _ a _=>a,λ_ a=>a⟩
theorem nK.fW{x:aB}{p:Nat}{b:z}(j:Nat)(l:V)(c d:U)(i:gB I B b R c d)(a:nK S x k p I B b R j l c):nK S x k p I B b R j l d:=by
 unfold nK at a ⊢;split at a
 all_goals first
  |exact a
  |(obtain⟨n,o,r,e⟩:=a;exact⟨n,o,i.e _ _ _ r e,e⟩)
  |exact⟨i.row _ a.1,a.2⟩
theorem Hi{x:aB}{first:Nat}{more:Bool}(a5:Hid (bE S x.g x.cap x.f.Y))(aY:Hid (∀j (a0:j<B.length),∃hi:first+j<x.f.Y.length,x.f.Y[first+j]=B[j]))(aX:Hid (first+B.length<=120))(aw:Hid (P=(first:Int)+(B.length:Int)))(hF:Hid (p=(first:Int)))(aL:Exit->Act->U->Prop)
  (d:Hid (fV S o x k B w Q more (C J 0 0) 0 0))(a9 ba bp bB bR b3 ce cp cD cP bb bi bl bm bn bo bq br bs bt bu bv bw bx bz bA bC bF bH bI bJ bL bM bO bP bQ bS bT bU bV bX bY bZ b0 b1 b2 b4 b5 b6 b7 b8 b9 ca cb cc cd cf cg ch ci cj ck cl cm cn co cr cs ct cu cv cw cx cy cA cB cE cF cG cH cI cJ cK cL cM cO cR cS cT cU cV cW cX cY cZ c0 bc bd bf bg dt dv dw dz dA dB dC dD dF dH dI dJ dK dL dM dN dO dP dQ dS dT dU dV bk:V)
  (aZ:∀(el dX dY dZ d0 d1 d2 d3 d4 d5 d6 d7 d8 d9 ea ec ed ee ef eg eh ei ej ek:V) (a:Option Addr) (db:Nat) (ar:U),Hid (fV S ar x k B w Q more (C a B.length db) B.length B.length)->aL (.exit 1) ⟨#[a9,ba,bp,bB,bR,b3,ce,cp,cD,cP,bb,g (E ⟨S.heap.size+1+1,0,J⟩),bi,bl,bm,F K P,g (E (u k 0 J)),el,bn,bo,bq,br,bs,bt,bu,bv,bw,bx,bz,bA,bC,bF,bH,bI,bJ,bL,bM,bO,bP,bQ,bS,bT,bU,bV,bX,bY,bZ,b0,b1,b2,b4,b5,b6,b7,b8,b9,ca,cb,cc,cd,cf,cg,ch,ci,cj,ck,cl,cm,cn,co,cr,cs,ct,cu,cv,cw,cx,cy,cA,cB,cE,cF,cG,cH,cI,cJ,cK,cL,cM,cO,cR,cS,cT,cU,cV,cW,cX,cY,cZ,c0,bc,bd,bf,bg,dX,dY,dZ,d0,d1,d2,d3,d4,d5,d6,d7,d8,d9,ea,ec,ed,ee,ef,eg,eh,ei,ej,ek,bk],[]⟩ ar):
  Code.wp h (SC 0) aL ⟨#[a9,ba,bp,bB,bR,b3,ce,cp,cD,cP,bb,g (E ⟨S.heap.size+1+1,0,J⟩),bi,bl,bm,F K P,g (E (u k 0 J)),F K p,bn,bo,bq,br,bs,bt,bu,bv,bw,bx,bz,bA,bC,bF,bH,bI,bJ,bL,bM,bO,bP,bQ,bS,bT,bU,bV,bX,bY,bZ,b0,b1,b2,b4,b5,b6,b7,b8,b9,ca,cb,cc,cd,cf,cg,ch,ci,cj,ck,cl,cm,cn,co,cr,cs,ct,cu,cv,cw,cx,cy,cA,cB,cE,cF,cG,cH,cI,cJ,cK,cL,cM,cO,cR,cS,cT,cU,cV,cW,cX,cY,cZ,c0,bc,bd,bf,bg,dt,dv,dw,dz,dA,dB,dC,dD,dF,dH,dI,dJ,dK,dL,dM,dN,dO,dP,dQ,dS,dT,dU,dV,bk],[]⟩ o:=by
 conv=>arg 4;dsimp only
 conv=>arg 2;whnf
 obtain⟨dm,dn,dp,dq,dr⟩:=fq tV;have de:p=(first:Int):=b hF;subst de;have I:=a5;have O:=aY;have aI:=l aZ;clear a5 aY aZ;go_loopw [17] (λaF ar=>∃(c i:Nat) (ah:V),Hid (i=first+c)/\aF=F K (i:Int)/\c<=B.length/\Hid (fV S ar x k B w Q more ah c c)) (λaF _=>first+B.length - (intOf aF).toNat)
 case atStart=>exact⟨0,first,C J 0 0,by simp[Hid],rfl,gr _,d⟩
 case round=>
  obtain⟨c,i,ah,ad,rfl,eJ,r⟩:=hrel;have ey:=b aX;clear d;by_cases aA:c<B.length
  .have ez:(i:Int)<P:=by have:=b aw;have:=b ad;omega
   have dj:i<first+B.length:=by have:=b ad;omega
   have eG:i<120:=by omega
   obtain⟨Y,ap⟩:∃H:i<x.f.Y.length,x.f.Y[i]=B[c]:=by have aa:=b ad;subst aa;exact(b O) _ aA
   have eI:(i:Int)<(x.f.Y.length:Int):=by omega
   have eE:(0:Int)<=i:=by omega
   have eF:K.wrap ((i:Int)+1)=((i+1:Nat):Int):=by rw[bh _ (by omega) (by omega)];rfl
   have ae:=(b I).mod (b r).mod (λx=>x);have am:=ae.row i Y;have aP:=ae.ae i Y;have aQ:=ae.st i Y;have aS:=ae.pa i Y;have aT:=ae.cl i Y;have aU:=ae.un i Y;rw[ap] at am aP aQ aS aT aU;obtain⟨s,v,rfl⟩:=aR (b r).row;have N:=l λ(dW:U) (ah:V) (H:fV S dW x k B w Q more ah (c+1) c)=>H.end_ aA;have R:=l λ(e:U) (aG:V) (H:fV S e x k B w Q more (C s c v) c c)=>H.qa (v':=aG) aA;have eM:c+1<=120:=by omega
   have eP:=(b r).mod.size;have eH:=(b r).dv.lt;have eN:=(b r).res.lt;have ev:=(b r).box.lt;have a4:=(b r).row;have aN:∀e,fV S e x k B w Q more (C s c v) c c->e.rangeAt x.g (i* 6) (eB B[c]).toList:=λe dg j ah a8=>by
    have c9:=(b I).mod dg.mod (λx=>x);have a0:j<6:=by have:=(List.getElem?_eq_some_iff.1 a8).1;simpa [eB] using this
    rw[c9.T i Y j a0,ap,<-dy];exact a8
   have aJ:=l ap;generalize a6:B[c]=A at *;have c8:=l a6;have T:=l aN;have em:=l aw;clear ae ap a6 dj aX am aP aQ aS aT aU aN;go_upto_region 23 with fail
   refine BT (n:=128) 10 (λe=>fV S e x k B w Q more (C s c v) c c) (gB c B A (C s c v)) (nK S x k i c B A (C s c v)) (by kernel_rfl) rfl (by kernel_rfl) (by kernel_rfl) (λy ah e c' aC H=>H.fW y ah e c' aC) ?_ ?_ ((b r).still (G.refl No wr).drew) ⟨_,rfl⟩
   .intro y aE a e eC ab ag d hd;have hi:y<11:=(Array.getElem?_eq_some_iff.1 ab).1;have ai:a.tmps[11]?.getD undef=g (E ⟨S.heap.size+1+1,0,J⟩):=by simpa using ag.rest 11 (by kernel_rfl)
    have aj:a.tmps[16]?.getD undef=g (E (u k 0 J)):=by simpa using ag.rest 16 (by kernel_rfl)
    have Z:a.eval (.tmp 17)=F K (i:Int):=ag.rest 17 (by kernel_rfl);clear aI ag;have dh:y=0\/y=1\/y=2\/y=3\/y=4\/y=5\/y=6\/y=7\/y=8\/y=9:=by omega
    obtain rfl|rfl|rfl|rfl|rfl|rfl|rfl|rfl|rfl|rfl:=dh
    all_goals
     replace ab:=bD (show E _=E aE from ab);subst ab
    .have n:=l d;clear hd d N R T r I O Z ai;go_simp
     first|exact b n|exact⟨_,rfl,b n,gB.refl _ _ _ _ _,rfl⟩|exact⟨b n,gB.refl _ _ _ _ _,rfl⟩|exact⟨b n,gB.refl _ _ _ _ _⟩
    .have en:a.tmps[109]?.getD undef=g (E (u k 0 J)):=by simpa using (show a.tmps.getD 109 undef=_ from hd ⟨0,.data⟩ (by simp) rfl)
     have am:e.cell? (u k 0 J)=E (C s c v):=d.dv.T 0;have n:=l d;clear hd d N R T r I O Z ai aj;go_simp
     first|exact b n|exact⟨_,rfl,b n,gB.refl _ _ _ _ _,rfl⟩|exact⟨b n,gB.refl _ _ _ _ _,rfl⟩|exact⟨b n,gB.refl _ _ _ _ _⟩
    .have n:=l d;clear hd d N R T r I O Z aj;go_simp
     first|exact b n|exact⟨_,rfl,b n,gB.refl _ _ _ _ _,rfl⟩|exact⟨b n,gB.refl _ _ _ _ _,rfl⟩|exact⟨b n,gB.refl _ _ _ _ _⟩
    .have eo:a.tmps[111]?.getD undef=g (E ⟨S.heap.size+1+1,8,J⟩):=by simpa using (show a.tmps.getD 111 undef=_ from hd ⟨2,.data⟩ (by simp) rfl)
     have am:e.cell? ⟨S.heap.size+1+1,8,J⟩=E (C (E (u x.g 0 J)) x.f.Y.length x.cap):=d.box.T 8;have n:=l d;clear hd d N R T r I O Z aj ai;go_simp
     first|exact b n|exact⟨_,rfl,b n,gB.refl _ _ _ _ _,rfl⟩|exact⟨b n,gB.refl _ _ _ _ _,rfl⟩|exact⟨b n,gB.refl _ _ _ _ _⟩
    .clear hd;refine dR _ rfl ?_;exact⟨_,rfl,d,gB.refl _ _ _ _ _,Z⟩
    .have ep:a.tmps[112]?.getD undef=C (E (u x.g 0 J)) x.f.Y.length x.cap:=by simpa using (show a.tmps.getD 112 undef=_ from hd ⟨3,.data⟩ (by simp) rfl)
     have eq:a.tmps[113]?.getD undef=F K (i:Int):=by simpa using (show a.tmps.getD 113 undef=_ from hd ⟨4,.data⟩ (by simp) rfl)
     have n:=l d;clear hd d N R T r I O Z aj ai;go_simp
     first|exact b n|exact⟨_,rfl,b n,gB.refl _ _ _ _ _,rfl⟩|exact⟨b n,gB.refl _ _ _ _ _,rfl⟩|exact⟨b n,gB.refl _ _ _ _ _⟩
    .have c4:a.eval (.tmp 114)=g (E ⟨x.g,i* 6,J⟩):=hd ⟨5,.data⟩ (by simp) rfl;clear hd;refine wp_load_mid _ _ rfl x.g (i* 6) c4 (eB A).toList Hh ((b T) e d) SD (by kernel_rfl) (by kernel_rfl) ?_;exact⟨_,rfl,d,gB.refl _ _ _ _ _,by simp[nK]⟩
    .have c5:a.tmps[115]?.getD undef=t (eB A):=by simpa using (show a.tmps.getD 115 undef=_ from hd ⟨6,.data⟩ (by simp) rfl)
     have n:=l d;have aD:G No e (e.alloc (m (eB A) 63)):=(G.refl No e).alloc _;have aO:=l (⟨λ_ _ _ H _=>H.alloc _,λ_ H=>aD.owns H (λ_ _ x=>x)⟩:gB c B A (C s c v) e (e.alloc (m (eB A) 63)));have aK:=l (d.still aD);have aH:=l (show nK S x k i c B A (C s c v) 7 (C (E (u e.heap.size 0 J)) 1 1) (e.alloc (m (eB A) 63)) from⟨e.heap.size,rfl,X.new e _ _,λaa=>by have:=fE d.row _ aa;omega⟩)
     clear hd d N R T r I O Z aj ai aD a4 n;unfold eB at c5 aO aK aH;go_simp;exact⟨_,rfl,b aK,b aO,b aH⟩
    .have c3:a.eval (.tmp 110)=C s c v:=hd ⟨1,.data⟩ (by simp) rfl;obtain⟨af,c6,ax,ew⟩:∃af,a.eval (.tmp 116)=C (E (u af 0 J)) 1 1/\X e af (eB A) 63/\(C s c v).ownBlock≠E af:=hd ⟨7,.data⟩ (by simp) rfl;have a3:=d.row
     have df:Reads e (C (E (u af 0 J)) 1 1) 1 (cq A):=.inr ⟨(u af 0 J),1,rfl,λj c1 hu=>by
      rw[dE,bK,ax.T,<-dy]
      exact hu⟩
     refine pH _ _ 61 rfl 63 dm _ 6 48 qT dn dp dq dr rfl (by decide) (C s c v) c _ c3 a3 _ 1 (cq A) c6 df rfl (by intro c1 hu;simp[cq,eB] at hu;obtain rfl|rfl|rfl|rfl|rfl|rfl:=hu<;>rfl) (by unfold maxLen;omega) (by omega) ?_;intro aG w' a2 ay aC a7 di;have dk:G (λM=>(C s c v).ownBlock=E M) e w':=(G.refl _ e).grown ay (λM az=>.inl az)
     refine⟨aG,rfl,d.app dk a7,⟨λaf eu er H ax=>H.grown ay (λaa=>ax aa.symm),λc1 hu=>BV (by decide) (by omega) a3 a2 ay di a7 hu⟩,a2,λM az=>?_⟩;obtain aa|aa:=aC M az
     .exact d.new M aa
     .have eU:=d.mod.size;have eV:=d.dv.lt;have eW:=d.res.lt;have eX:=d.box.lt;exact⟨by omega,by omega,by omega,by omega⟩
    .have n:=l d;clear hd d N R T r I O Z ai;go_simp
     first|exact b n|exact⟨_,rfl,b n,gB.refl _ _ _ _ _,rfl⟩|exact⟨b n,gB.refl _ _ _ _ _,rfl⟩|exact⟨b n,gB.refl _ _ _ _ _⟩
   .intro aE a e ab ag d hF;replace ab:=bD (show E _=E aE from ab);subst ab;obtain⟨f8,f9⟩:=hF 8 (by decide) (by decide);have aW:a.tmps.getD 118 undef=g (E (u k 0 J)):=hF 9 (by decide) (by decide);have f8:e.ownsRow 0 63 6 (a.tmps.getD 117 undef) (c+1) (((B.take c).flatMap cq)++cq A):=f8;have f9:∀M,(a.tmps.getD 117 undef).ownBlock=E M->S.heap.size<=M/\M≠k/\M≠S.heap.size+1/\M≠S.heap.size+1+1:=f9
    obtain⟨c2,av⟩:∃c2,a.tmps.getD 117 undef=c2:=⟨_,rfl⟩;rw[av] at f8 f9;obtain⟨ak,ao,rfl⟩:=aR f8;have W:=l ((b R) e _ d f8 f9);have a1:=ag.lit;rw[a1];clear a1;simp only[oW,oX,jT,nM,oY,nN,nO,av,aW];have eZ:e.cell? (u k 0 J)=E (C s c v):=d.dv.T 0;have e0:=d.dv.aC;have e1:=d.dv.lt;have au:=(b I).mod (b W).mod (λx=>x);have dc:=au.row i Y;have dd:=au.ae i Y;rw[b aJ] at dc dd
    have es:(e.setCell (u k 0 J) (C ak (c+1) ao)).cell? ⟨S.heap.size+1+1,8,J⟩=E (C (E (u x.g 0 J)) x.f.Y.length x.cap):=(b W).box.T 8;have et:=(b W).box.lt;have eS:=(b W).dv.aC;have eQ:(e.setCell (u k 0 J) (C ak (c+1) ao)).cell? (u k 1 J)=E (F K (gx w Q (B.take c)).1):=(b W).dv.T 1;have eR:(e.setCell (u k 0 J) (C ak (c+1) ao)).cell? (u k 2 J)=E (F K (gx w Q (B.take c)).2):=(b W).dv.T 2
    have eT:=(b W).dv.lt;have c7:=l ((b N) _ _ (b W));clear au W R N r aJ O I c8 T f8 f9 d hF av aW ag a4;go_simp;generalize e.setCell (u k 0 J) (C ak (c+1) ao)=eY at *;go_wp2;exact⟨⟨c+1,i+1,_,by have:=b ad;show i+1=first+(c+1);omega,rfl,by omega,c7⟩,by have:=b ad;simp[intOf];omega⟩
  .have eD:¬(i:Int)<P:=by have:=b aw;have:=b ad;omega
   obtain rfl:c=B.length:=by omega
   obtain⟨s,v,rfl⟩:=aR (b r).row;have dl:i=first+B.length:=b ad
   clear ad;go_wp2;subst dl;exact(b aI) _ _ _ _ _ _ _ _ _ _ _ _ _ _ _ _ _ _ _ _ _ _ _ _ _ _ _ r
theorem SE{bM:Nat->Nat}{gf:Nat}{p:List aB}(aI:bB S bM k (C (E (u gf 0 J)) p.length I) p w)(aR d c i size:Int)(o:Nat)(hi:o<p.length)(bo:dF p aR=o):Calls h 64 #[g (E (u k 0 J)),F K aR,t #[F K d,F K c,F K i],F K size] S λbA w'=>Told S w' bA (gI (p[o].f.c.at p[o].f.ep) p[o].f.Y d c i size):=by
 have aC:G No S ((S.alloc (m #[F K d,F K c,F K i] 43)).alloc (m #[C J 0 0,F K 0,F K 0,F K 0,L false] 146)):=((G.refl _ S).alloc _).alloc _;have ag:=aI.mod aC (λ_ _ a=>a);have aN:=ag.find aR;rw[bo] at aN;have aY:=l aN;clear aN;obtain⟨bL,bp⟩:=ag.parts rfl (by omega);obtain⟨aU,os,wf⟩:=aI.Y o hi;have bC:=ag.e.T
 have z:∀n,n<10->((S.alloc (m #[F K d,F K c,F K i] 43)).alloc (m #[C J 0 0,F K 0,F K 0,F K 0,L false] 146)).cell? ⟨gf,o* 10+n,J⟩=(cg p[o])[n]? :=λn ai=>bp.T o hi n ai;have cp:p[o].g<S.heap.size:=aU.lt;have aD:=X.new (S.alloc (m #[F K d,F K c,F K i] 43)) ks 146;rw[bW] at aD;have aX:=(X.new S #[F K d,F K c,F K i] 43).alloc (m ks 146)
 have aW:=X.new ((S.alloc (m #[F K d,F K c,F K i] 43)).alloc (m ks 146)) (cg p[o]) 134;rw[bW,bW] at aW;have ab:=l (aC.alloc (m (cg p[o]) 134));have aE:=l (aD.alloc (m (cg p[o]) 134));have T:=l (aX.alloc (m (cg p[o]) 134));have am:=l aW;clear aW;have O:=l aU;have H:=l wf;have cr:p[o].f.Y.length<=120:=ju wf;have cn:¬(o:Int)<0:=by omega
 clear aI ag bp aU os wf bL aC aD aX;generalize p[o]=a at *;have bv:=l (show S.heap.size+1+1≠a.g by omega);have aH:=z 0 (by omega);have ba:=z 1 (by omega);have bb:=z 2 (by omega);have bc:=z 3 (by omega);have bd:=z 4 (by omega);have bf:=z 5 (by omega);have bg:=z 6 (by omega);have bh:=z 7 (by omega);have bi:=z 8 (by omega);have bk:=z 9 (by omega);simp only[tP] at aH
 have a0:(cg a)[0]? =E (F K a.f.num):=rfl;have a1:(cg a)[1]? =E (F K a.f.c.rows):=rfl;have a2:(cg a)[2]? =E (F K a.f.c.y):=rfl;have a3:(cg a)[3]? =E (F K a.f.c.Z):=rfl;have a4:(cg a)[4]? =E (F K a.f.c.af):=rfl;have aG:(cg a)[5]? =E (F K a.f.c.ag):=rfl;have a5:(cg a)[6]? =E (F K a.f.c.ai):=rfl;have a6:(cg a)[7]? =E (F K a.f.c.aj):=rfl
 have a7:(cg a)[8]? =E (C (E (u a.g 0 J)) a.f.Y.length a.cap):=rfl;have a8:(cg a)[9]? =E (F K a.f.ep):=rfl;rw[a0] at aH;rw[a1] at ba;rw[a2] at bb;rw[a3] at bc;rw[a4] at bd;rw[aG] at bf;rw[a5] at bg;rw[a6] at bh;rw[a7] at bi;rw[a8] at bk;clear z a0 a1 a2 a3 a4 aG a5 a6 a7 a8 bo;have ag:(o:Int)<(p.length:Int):=by omega
 replace ab:=l (show G No S (((S.alloc (m #[F K d,F K c,F K i] 43)).alloc (m ks 146)).alloc (m (cg a) 134)) from b ab);unfold cg ks at ab aE T am;go_enter func64,ntmps64;go_wp2_with fail;refine(b aY).mono ?_;rintro i cu ⟨rfl,rfl⟩;go_upto_region 6 with fail;clear aH ba bb bc bd bf bg bh bi bk bC aY
 generalize (((S.alloc (m #[F K d,F K c,F K i] 43)).alloc (m #[C J 0 0,F K 0,F K 0,F K 0,L false] 146)).alloc (m #[F K a.f.num,F K a.f.c.rows,F K a.f.c.y,F K a.f.c.Z,F K a.f.c.af,F K a.f.c.ag,F K a.f.c.ai,F K a.f.c.aj,C (E (u a.g 0 J)) a.f.Y.length a.cap,F K a.f.ep] 134))=w3 at *;have ao:w3.cell? (u S.heap.size 0 J)=E (F K d):=(b T).T 0;have ap:w3.cell? (u S.heap.size 1 J)=E (F K c):=(b T).T 1
 have ar:w3.cell? (u S.heap.size 2 J)=E (F K i):=(b T).T 2;have au:=(b T).lt;go_cut [13] (λbR bT=>bR=L (qV d c i)/\bT=w3)
 case first=>
  by_cases aP:d=0
  .subst aP;by_cases aK:c=0
   .subst aK;go_wp2;go_meet;exact⟨by simp[qV],rfl⟩
   .have co:(c==0)=false:=by simp[aK]
    go_wp2;go_meet;exact⟨by simp[qV,aK],rfl⟩
  .have cs:(d==0)=false:=by simp[aP]
   go_wp2;go_meet;exact⟨by simp[qV,aP],rfl⟩
 case rest=>
  obtain⟨rfl,rfl⟩:=hcut
  apply_assumption
  have ay:=l λ(bw:U) (bl:G No wc bw)=>fY.box (bl.e (b am) (λa=>a)) ((b O).mod ((b ab).trans bl) (λa=>a)) (b H) (b bv);obtain⟨Z,aO⟩:∃Z:Int,Z=if a.f.c.e d c=true then((a.f.c.idx d c:Nat):Int) else -1:=⟨_,rfl⟩
  have aZ:=l (show Calls h 85 #[g (E ⟨S.heap.size+1+1,0,J⟩),t #[F K d,F K c]] wc λi w'=>i=q (F K Z)/\G No wc w' from by
   rw[aO]
   cases N:a.f.c.e d c with
   |true=>rw[D rfl];exact wU ((b ay) wc (G.refl _ _)) (b H) d c N
   |false=>rw[f (by simp)];exact wV ((b ay) wc (G.refl _ _)) (b H) d c N)
  have aa:=l aO;clear aO ay;go_wp2_with fail;refine(b aZ).mono ?_;rintro aG s ⟨rfl,ak⟩;have x:=l ((b ab).trans ak);have r:=l (ak.e (b aE) (λa=>a));have B:=l (ak.e (b T) (λa=>a));have y:=l (ak.e (b am) (λa=>a));clear aZ ak ab aE T am ao ap ar au;have ao:s.cell? (u S.heap.size 0 J)=E (F K d):=(b B).T 0;have ap:s.cell? (u S.heap.size 1 J)=E (F K c):=(b B).T 1
  have ar:s.cell? (u S.heap.size 2 J)=E (F K i):=(b B).T 2;have au:=(b B).lt;have bq:s.cell? ⟨S.heap.size+1+1,8,J⟩=E (C (E (u a.g 0 J)) a.f.Y.length a.cap):=(b y).T 8;have br:s.cell? ⟨S.heap.size+1+1,9,J⟩=E (F K a.f.ep):=(b y).T 9;have bs:=(b y).lt;have d0:s.cell? ⟨S.heap.size+1,0,J⟩=E (C J 0 0):=(b r).T 0;have d1:s.cell? ⟨S.heap.size+1,1,J⟩=E (F K 0):=(b r).T 1
  have d2:s.cell? ⟨S.heap.size+1,2,J⟩=E (F K 0):=(b r).T 2;have d3:s.cell? ⟨S.heap.size+1,3,J⟩=E (F K 0):=(b r).T 3;have d4:s.cell? ⟨S.heap.size+1,4,J⟩=E (L false):=(b r).T 4;have av:=(b r).aC;have aw:=(b r).lt;have ae:∀aS,No (⟨S.heap.size+1,aS,J⟩:Addr).block\/S.heap.size<=(⟨S.heap.size+1,aS,J⟩:Addr).block:=λaS=>.inr (by show S.heap.size<=S.heap.size+1;omega)
  have ad:=l λ(a9:Int)=>(show Told S (((((s.setCell ⟨S.heap.size+1,0,J⟩ (C J 0 0)).setCell ⟨S.heap.size+1,1,J⟩ (F K 0)).setCell ⟨S.heap.size+1,2,J⟩ (F K 0)).setCell ⟨S.heap.size+1,3,J⟩ (F K 0)).setCell ⟨S.heap.size+1,4,J⟩ (L false)) (q (aq #[t #[C J 0 0,F K 0,F K 0,F K 0,L false],F K a9])) ⟨[],0,0,0,false,a9⟩ from
   ⟨⟨C J 0 0,rfl,dx _ _ _ _,λct bE=>by simp[aV] at bE⟩,(((((b x).setCell (ae 0) _).setCell (ae 1) _).setCell (ae 2) _).setCell (ae 3) _).setCell (ae 4) _⟩)
  clear ae;by_cases bH:size<1
  .have A:gI (a.f.c.at a.f.ep) a.f.Y d c i size=⟨[],0,0,0,false,12⟩:=by unfold gI;rw[D (.inl bH)]
   have v:=l A;clear A B y r x H O;go_wp2;refine cN (by simp[results,results64,go_sem,d0,d1,d2,d3,d4];try rfl) rfl ?_;rw[b v];exact(b ad) 12
  by_cases bI:size>30
  .have A:gI (a.f.c.at a.f.ep) a.f.Y d c i size=⟨[],0,0,0,false,12⟩:=by unfold gI;rw[D (.inr bI)]
   have v:=l A;clear A B y r x H O;go_wp2;refine cN (by simp[results,results64,go_sem,d0,d1,d2,d3,d4];try rfl) rfl ?_;rw[b v];exact(b ad) 12
  have R:=l (show(dp (a.f.c.at a.f.ep) d c i)=if qV d c i=true then(0,0) else if i≠a.f.ep then(0,13) else if a.f.c.e d c=false then(0,5) else((a.f.c.idx d c:Int)+1,0) from by
   unfold dp qV
   by_cases aj:d=0/\c=0/\i=0
   .obtain⟨rfl,rfl,rfl⟩:=aj
    rfl
   .have bJ:((d==0&&c==0)&&i==0)=false:=by simp;omega
    rw[f aj,bJ]
    simp only[mg,jQ]
    rfl)
  generalize aj:qV d c i=cl at *;have cm:=l aj;clear aj;have refuse:True:=trivial
  cases cl with
  |false=>
   by_cases aL:i=a.f.ep
   case neg=>
    have A:gI (a.f.c.at a.f.ep) a.f.Y d c i size=⟨[],0,0,0,false,13⟩:=by
     have M:dp (a.f.c.at a.f.ep) d c i=(0,13):=by rw[b R,f (by simp),D aL]
     unfold gI;rw[f (by omega),M,D (show(13:Int)≠0 by decide)]
    have v:=l A;clear A B y r x H O R;go_wp2;refine cN (by simp[results,results64,go_sem,d0,d1,d2,d3,d4];try rfl) rfl ?_;rw[b v];exact(b ad) 13
   cases N:a.f.c.e d c with
   |false=>
    have bn:Z= -1:=by rw[b aa,N];rfl
    have A:gI (a.f.c.at a.f.ep) a.f.Y d c i size=⟨[],0,0,0,false,5⟩:=by
     have M:dp (a.f.c.at a.f.ep) d c i=(0,5):=by rw[b R,f (by simp),f (by simpa using aL),D N]
     unfold gI;rw[f (by omega),M,D (show(5:Int)≠0 by decide)]
    have v:=l A;subst bn;clear A B y r x H O R aa;go_wp2;refine cN (by simp[results,results64,go_sem,d0,d1,d2,d3,d4];try rfl) rfl ?_;rw[b v];exact(b ad) 5
   |true=>
    have M:dp (a.f.c.at a.f.ep) d c i=((((a.f.c.idx d c+1):Nat):Int),0):=by rw[b R,f (by simp),f (by simpa using aL),f (by rw[N];simp)];simp
    have ax:(a.f.c.idx d c+1)<=a.f.Y.length:=by have:=bV.wf.jP (b H) N;exact this
    obtain⟨first,bm⟩:∃first:Nat,first=(a.f.c.idx d c+1):=⟨_,rfl⟩
    rw[<-bm] at M ax;obtain⟨e,P⟩:∃e,e=(a.f.Y.drop first).take size.toNat:=⟨_,rfl⟩;have aJ:e.length=min size.toNat (a.f.Y.length - first):=by rw[P,eO,oZ]
    have aA:=l (show ∀n (ai:n<e.length),∃hi:first+n<a.f.Y.length,a.f.Y[first+n]=e[n] from λn ai=>by
     subst P
     have:first+n<a.f.Y.length:=by omega
     refine⟨this,?_⟩
     simp only[rm,uI])
    have v:=l (show gI (a.f.c.at a.f.ep) a.f.Y d c i size=⟨e,(gx d c e).1,(gx d c e).2,a.f.ep,decide ((first:Int)+(e.length:Int)<(a.f.Y.length:Int)),0⟩ from by
     subst P
     unfold gI
     rw[f (by omega),M,f (show ¬((0:Int)≠0) by decide),gT.mk.injEq]
     exact⟨rfl,rfl,rfl,rfl,decide_eq_decide.2 (by simp only[sK];omega),rfl⟩)
    have aQ:K.wrap ((first:Int)+size)=(first:Int)+size:=gp _ (by omega) (by omega);have bn:K.wrap (Z+1)=(first:Int):=by
     have bF:Z=((a.f.c.idx d c:Nat):Int):=by rw[b aa,N];rfl
     rw[bF,gp _ (by omega) (by omega)];omega
    have cq:¬Z<0:=by rw[b aa,N];simp
    clear bm M R aa ad N;have W:=l (show((first:Int)+size>(a.f.Y.length:Int)->(a.f.Y.length:Int)=(first:Int)+(e.length:Int))/\(¬(first:Int)+size>(a.f.Y.length:Int)->(first:Int)+size=(first:Int)+(e.length:Int)) from⟨λaT=>by omega,λaT=>by omega⟩);have az:=l (show first+e.length<=120 from by omega);have bt:=l (show(first:Int)+(e.length:Int)=((first:Nat):Int)+(e.length:Int) from by omega)
    have bu:=l (show(first:Int)=((first:Nat):Int) from by omega);clear aJ ax P;go_upto_region 17 with fail;by_cases ah:(first:Int)+size>(a.f.Y.length:Int)
    all_goals
     (first|(have Y:=(b W).1 ah)|(have Y:=(b W).2 (by omega)))
     clear W;go_upto_region 19 with fail
     try rw[Y]
     clear Y ah aQ;have af:=l (fV.start (D:=e) (r:=d) (c:=c) (more:=decide ((first:Int)+(e.length:Int)<(a.f.Y.length:Int))) (b x) (b r) (b y));have aF:=l ((b O).mod (b x) (λa=>a));go_upto_region 20 with fail;generalize decide ((first:Int)+(e.length:Int)<(a.f.Y.length:Int))=more at *;generalize (s.alloc (m #[C J 0 0,F K d,F K c,F K a.f.ep,L more] 146))=bS at *;generalize s.heap.size=bO at *
     clear x r B y aF ao ap ar au bq br bs d0 d1 d2 d3 d4 av aw H;go_upto_block 1 with fail;refine od ?_
     refine Hi O aA az (l (by first|rfl|simp)) (l (by first|rfl|simp)) _ af _ _ _ _ _ _ _ _ _ _ _ _ _ _ _ _ _ _ _ _ _ _ _ _ _ _ _ _ _ _ _ _ _ _ _ _ _ _ _ _ _ _ _ _ _ _ _ _ _ _ _ _ _ _ _ _ _ _ _ _ _ _ _ _ _ _ _ _ _ _ _ _ _ _ _ _ _ _ _ _ _ _ _ _ _ _ _ _ _ _ _ _ _ _ _ _ _ _ _ _ _ _ _ _ _ _ _ _ _ _ _ _ _ _ _ _ _ _ _ _ _ _ _ _ ?_
     intro ck bU bX bY bZ b0 b1 b2 b3 b4 b5 b6 b7 b8 b9 ca cb cc cd ce cf ch ci cj bx bz wr j;have Q:=(b j).dv;rw[fN] at Q;have bP:=Q.T;have bQ:=Q.lt;have d0:wr.cell? ⟨S.heap.size+1,0,J⟩=E (C J 0 0):=(b j).res.T 0;have d1:wr.cell? ⟨S.heap.size+1,1,J⟩=E (F K 0):=(b j).res.T 1;have d2:wr.cell? ⟨S.heap.size+1,2,J⟩=E (F K 0):=(b j).res.T 2
     have d3:wr.cell? ⟨S.heap.size+1,3,J⟩=E (F K 0):=(b j).res.T 3;have d4:wr.cell? ⟨S.heap.size+1,4,J⟩=E (L false):=(b j).res.T 4;have av:=(b j).res.aC;have aw:=(b j).res.lt;clear Q af;go_wp2;refine cN (by simp[results,results64,go_sem,d0,d1,d2,d3,d4];try rfl) rfl ?_;rw[b v];exact fV.told (b j)
  |true=>
   have M:dp (a.f.c.at a.f.ep) d c i=(((0:Nat):Int),0):=by rw[b R,D rfl];rfl
   have ax:0<=a.f.Y.length:=gr _;obtain⟨e,P⟩:∃e,e=(a.f.Y.drop 0).take size.toNat:=⟨_,rfl⟩;have aJ:e.length=min size.toNat (a.f.Y.length - 0):=by rw[P,eO,oZ]
   have aA:=l (show ∀n (ai:n<e.length),∃hi:0+n<a.f.Y.length,a.f.Y[0+n]=e[n] from λn ai=>by
    subst P
    have:0+n<a.f.Y.length:=by omega
    refine⟨this,?_⟩
    simp only[rm,uI])
   have v:=l (show gI (a.f.c.at a.f.ep) a.f.Y d c i size=⟨e,(gx d c e).1,(gx d c e).2,a.f.ep,decide (e.length<a.f.Y.length),0⟩ from by
    subst P
    unfold gI
    rw[f (by omega),M,f (show ¬((0:Int)≠0) by decide),gT.mk.injEq]
    exact⟨rfl,rfl,rfl,rfl,decide_eq_decide.2 (by simp only[sK];omega),rfl⟩)
   have aQ:K.wrap (size)=size:=gp _ (by omega) (by omega);clear M R aa ad;have W:=l (show(size>(a.f.Y.length:Int)->(a.f.Y.length:Int)=(e.length:Int))/\(¬size>(a.f.Y.length:Int)->size=(e.length:Int)) from⟨λaT=>by omega,λaT=>by omega⟩);have az:=l (show 0+e.length<=120 from by omega);have bt:=l (show(e.length:Int)=((0:Nat):Int)+(e.length:Int) from by omega)
   have bu:=l (show(0:Int)=((0:Nat):Int) from by omega);clear aJ ax P;go_upto_region 17 with fail;by_cases ah:size>(a.f.Y.length:Int)
   all_goals
    (first|(have Y:=(b W).1 ah)|(have Y:=(b W).2 (by omega)))
    clear W;go_upto_region 19 with fail
    try rw[Y]
    clear Y ah aQ;have af:=l (fV.start (D:=e) (r:=d) (c:=c) (more:=decide (e.length<a.f.Y.length)) (b x) (b r) (b y));have aF:=l ((b O).mod (b x) (λa=>a));go_upto_region 20 with fail;generalize decide (e.length<a.f.Y.length)=more at *;generalize (s.alloc (m #[C J 0 0,F K d,F K c,F K a.f.ep,L more] 146))=bS at *;generalize s.heap.size=bO at *
    clear x r B y aF ao ap ar au bq br bs d0 d1 d2 d3 d4 av aw H;go_upto_block 1 with fail;refine od ?_
    refine Hi O aA az (l (by first|rfl|simp)) (l (by first|rfl|simp)) _ af _ _ _ _ _ _ _ _ _ _ _ _ _ _ _ _ _ _ _ _ _ _ _ _ _ _ _ _ _ _ _ _ _ _ _ _ _ _ _ _ _ _ _ _ _ _ _ _ _ _ _ _ _ _ _ _ _ _ _ _ _ _ _ _ _ _ _ _ _ _ _ _ _ _ _ _ _ _ _ _ _ _ _ _ _ _ _ _ _ _ _ _ _ _ _ _ _ _ _ _ _ _ _ _ _ _ _ _ _ _ _ _ _ _ _ _ _ _ _ _ _ _ _ _ ?_
    intro ck bU bX bY bZ b0 b1 b2 b3 b4 b5 b6 b7 b8 b9 ca cb cc cd ce cf ch ci cj bx bz wr j;have Q:=(b j).dv;rw[fN] at Q;have bP:=Q.T;have bQ:=Q.lt;have d0:wr.cell? ⟨S.heap.size+1,0,J⟩=E (C J 0 0):=(b j).res.T 0;have d1:wr.cell? ⟨S.heap.size+1,1,J⟩=E (F K 0):=(b j).res.T 1;have d2:wr.cell? ⟨S.heap.size+1,2,J⟩=E (F K 0):=(b j).res.T 2
    have d3:wr.cell? ⟨S.heap.size+1,3,J⟩=E (F K 0):=(b j).res.T 3;have d4:wr.cell? ⟨S.heap.size+1,4,J⟩=E (L false):=(b j).res.T 4;have av:=(b j).res.aC;have aw:=(b j).res.lt;clear Q af;go_wp2;refine cN (by simp[results,results64,go_sem,d0,d1,d2,d3,d4];try rfl) rfl ?_;rw[b v];exact fV.told (b j)
noncomputable def AR(a:Nat):Code:=((mP (f11.body.getD .skip))[a]?).getD .skip
theorem SF{e o i bH p bI:Nat}{a:Option Addr}(H:∀c,G No S c->c.cell? (u k 1 J)=E (C (E (u I 0 J)) p bI)/\k<c.heap.size/\c.cell? (u I e J)=E (C (E (u v 0 J)) 4 4)/\I<c.heap.size/\c.cell? (u v o J)=E (C a i bH)/\v<c.heap.size/\∀j,j<i->∃d,a=E (u d 0 J)/\d<c.heap.size/\c.rangeAt d (j* 6) (bS e).toList)(hi:e<p)(A:p<=1099511627776)(bM:o<4)(s:i<=1000000)(z:Exit->Act->U->Prop)(M bO cj bp bq br N ab ap aD aP a1 a6 a7 a8 a9 ba bb bc bd bf bg bi bk bl bm bn bo bP bQ bR bT bU bV bX bY bZ b0 b1 b2 b3 b4 b5 b6 b7 b8 b9 ca cb cc cd ce cf cg ch ci ck cl cm cn co cp cq cr cs ct cu cv cw cx cy cA cB cD cE cF cG cH cI cJ cK cL cM cO cP cR cS bs bt bu bv bw bx bz bA bB O P Q R T W X Y Z aa ad ae af ag ah ai aj ak am ao ar au av aw ax ay az aA aB aC aE aF aG aH aI aJ aK aL aN aO aQ aR aS aT aU aW aX aY aZ a0 a2 a3 a4 a5:V)
  (B:∀(cU dd dp cV cW cX cY cZ c0 c1 c2 c3 c4 c5 c6 c7 c8 c9 c' db dc de df dg dh di dj dk dl dm dn dq dr dt dv dw dz dA dB dC dD dF dH dI dJ dK dL dM dN dO dP dQ dR dS dT dU dV dW dX dY dZ d0:V) (c:U),Hid (G No S c)->z (.exit 4) ⟨#[g (E (u k 1 J)),M,cU,F K (e:Int),F K (o:Int),dd,dp,bp,bq,br,N,ab,ap,aD,aP,a1,a6,a7,a8,a9,ba,bb,bc,bd,bf,bg,bi,bk,bl,bm,bn,bo,cV,cW,cX,cY,cZ,c0,c1,c2,c3,c4,c5,c6,c7,c8,c9,c',db,dc,de,df,dg,dh,di,dj,dk,dl,dm,dn,dq,dr,dt,dv,dw,dz,dA,dB,dC,dD,dF,dH,dI,dJ,dK,dL,dM,dN,dO,dP,dQ,dR,dS,dT,dU,dV,dW,dX,dY,dZ,d0,bs,bt,bu,bv,bw,bx,bz,bA,bB,O,P,Q,R,T,W,X,Y,Z,aa,ad,ae,af,ag,ah,ai,aj,ak,am,ao,ar,au,av,aw,ax,ay,az,aA,aB,aC,aE,aF,aG,aH,aI,aJ,aK,aL,aN,aO,aQ,aR,aS,aT,aU,aW,aX,aY,aZ,a0,a2,a3,a4,a5],[]⟩ c):
  Code.wp h (AR 2) z ⟨#[g (E (u k 1 J)),M,bO,F K (e:Int),F K (o:Int),F K 0,cj,bp,bq,br,N,ab,ap,aD,aP,a1,a6,a7,a8,a9,ba,bb,bc,bd,bf,bg,bi,bk,bl,bm,bn,bo,bP,bQ,bR,bT,bU,bV,bX,bY,bZ,b0,b1,b2,b3,b4,b5,b6,b7,b8,b9,ca,cb,cc,cd,ce,cf,cg,ch,ci,ck,cl,cm,cn,co,cp,cq,cr,cs,ct,cu,cv,cw,cx,cy,cA,cB,cD,cE,cF,cG,cH,cI,cJ,cK,cL,cM,cO,cP,cR,cS,bs,bt,bu,bv,bw,bx,bz,bA,bB,O,P,Q,R,T,W,X,Y,Z,aa,ad,ae,af,ag,ah,ai,aj,ak,am,ao,ar,au,av,aw,ax,ay,az,aA,aB,aC,aE,aF,aG,aH,aI,aJ,aK,aL,aN,aO,aQ,aR,aS,aT,aU,aW,aX,aY,aZ,a0,a2,a3,a4,a5],[]⟩ S:=by
 conv=>arg 4;dsimp only
 conv=>arg 2;whnf
 have bC:=l B;clear B;have bF:=l H;have d1:=l A;have d9:(0:Int)<=e:=by omega
 have ea:(e:Int)<(p:Int):=by omega
 have ef:(0:Int)<=o:=by omega
 have eg:(o:Int)<4:=by omega
 have bE:=l s;clear H A hi bM s;go_loopw [5] (λx cT=>∃j:Nat,x=F K (j:Int)/\j<=i/\Hid (G No S cT)) (λx _=>i - (intOf x).toNat)
 case atStart=>exact⟨0,rfl,by omega,G.refl _ _⟩
 case round=>
  obtain⟨j,rfl,d6,r⟩:=hrel;obtain⟨d2,ec,d3,ed,d4,ee,w⟩:=(b bF) wr (b r);have s:=b bE;by_cases bL:j<i
  .have bJ:(j:Int)<(i:Int):=by omega
   have d7:(0:Int)<=j:=by omega
   have d8:K.wrap ((j:Int)+1)=((j+1:Nat):Int):=by rw[bh _ (by omega) (by omega)];rfl
   obtain⟨d,rfl,d5,n⟩:=w j bL;have eh:wr.cell? ⟨d,j* 6,J⟩=E (F K 0):=n 0 _ rfl;have ei:wr.cell? ⟨d,j* 6+1,J⟩=E (F K 0):=n 1 _ rfl;have ej:wr.cell? ⟨d,j* 6+2,J⟩=E (F K 9):=n 2 _ rfl;have ek:wr.cell? ⟨d,j* 6+3,J⟩=E (F K (e:Int)):=n 3 _ rfl;have el:wr.cell? ⟨d,j* 6+4,J⟩=E (F K 0):=n 4 _ rfl;have em:wr.cell? ⟨d,j* 6+5,J⟩=E (F K 0):=n 5 _ rfl;clear w n;have y:=l ((b r).alloc (m (bS e) 63))
   unfold bS at y;go_wp2;exact⟨⟨j+1,rfl,by omega,y⟩,by simp[intOf];omega⟩
  .have bJ:¬(j:Int)<(i:Int):=by omega
   clear w;go_wp2;exact(b bC) _ _ _ _ _ _ _ _ _ _ _ _ _ _ _ _ _ _ _ _ _ _ _ _ _ _ _ _ _ _ _ _ _ _ _ _ _ _ _ _ _ _ _ _ _ _ _ _ _ _ _ _ _ _ _ _ _ _ _ _ _ _ _ r
theorem SG{av bv lv:V}(p:gX S i R W)(hy:S.cell? (u k 1 J)=E R)(aa:k<S.heap.size)(hi:I<W.length)(M:W.length<=1099511627776)(A:Exit->Act->U->Prop)(ae c9 dL dW bs bt bu af aw aH aT a5 bi bo bp bq br c' db dc dd de df dg dh di dj dk dl dm dn dp dq dr dt dv dw dz dA dB dC dD dF dH dI dJ dK dM dN dO dP dQ dR dS dT dU dV dX dY dZ d0 d1 d2 d3 d4 d5 d6 d7 d8 d9 ea ec ed ee ef eg eh ei ej ek el em en eo ep eq er es bw bx bz bA bB bC bE bF bH ag ah ai aj ak am ao ap ar au ax ay az aA aB aC aD aE aF aG aI aJ aK aL aN aO aP aQ aR aS aU aW aX aY aZ a0 a1 a2 a3 a4 a6 a7 a8 a9 ba bb bc bd bf bg bk bl bm bn:V)
  (Q:∀(bI eJ b5 cg eu ev ew ey ez eB eC eD eE eF eH eI bJ bL bM bO bP bQ bR bT bU bV bX bY bZ b0 b1 b2 b3 b4 b6 b7 b8 b9 ca cb cc cd ce cf ch ci cj ck cl cm cn co cp cq cr cs ct cu cv cw cx cy cA cB cD cE cF cG cH cI cJ cK cL cM cO:V) (a:U),Hid (G No S a)->A (.exit 2) ⟨#[g (E (u k 1 J)),ae,bI,F K (I:Int),eJ,b5,cg,bs,bt,bu,af,aw,aH,aT,a5,bi,bo,bp,bq,br,eu,ev,ew,ey,ez,eB,eC,eD,eE,eF,eH,eI,bJ,bL,bM,bO,bP,bQ,bR,bT,bU,bV,bX,bY,bZ,b0,b1,b2,b3,b4,b6,b7,b8,b9,ca,cb,cc,cd,ce,cf,ch,ci,cj,ck,cl,cm,cn,co,cp,cq,cr,cs,ct,cu,cv,cw,cx,cy,cA,cB,cD,cE,cF,cG,cH,cI,cJ,cK,cL,cM,cO,bw,bx,bz,bA,bB,bC,bE,bF,bH,ag,ah,ai,aj,ak,am,ao,ap,ar,au,ax,ay,az,aA,aB,aC,aD,aE,aF,aG,aI,aJ,aK,aL,aN,aO,aP,aQ,aR,aS,aU,aW,aX,aY,aZ,a0,a1,a2,a3,a4,a6,a7,a8,a9,ba,bb,bc,bd,bf,bg,bk,bl,bm,bn],[]⟩ a):
  Code.wp h (AR 1) A ⟨#[g (E (u k 1 J)),ae,c9,F K (I:Int),F K 0,dL,dW,bs,bt,bu,af,aw,aH,aT,a5,bi,bo,bp,bq,br,c',db,dc,dd,de,df,dg,dh,di,dj,dk,dl,dm,dn,dp,dq,dr,dt,dv,dw,dz,dA,dB,dC,dD,dF,dH,dI,dJ,dK,dM,dN,dO,dP,dQ,dR,dS,dT,dU,dV,dX,dY,dZ,d0,d1,d2,d3,d4,d5,d6,d7,d8,d9,ea,ec,ed,ee,ef,eg,eh,ei,ej,ek,el,em,en,eo,ep,eq,er,es,bw,bx,bz,bA,bB,bC,bE,bF,bH,ag,ah,ai,aj,ak,am,ao,ap,ar,au,ax,ay,az,aA,aB,aC,aD,aE,aF,aG,aI,aJ,aK,aL,aN,aO,aP,aQ,aR,aS,aU,aW,aX,aY,aZ,a0,a1,a2,a3,a4,a6,a7,a8,a9,ba,bb,bc,bd,bf,bg,bk,bl,bm,bn],[]⟩ S:=by
 conv=>arg 4;dsimp only
 conv=>arg 2;whnf
 have cP:=l Q;clear Q;have cV:=l p;have y:=l hy;have z:=l aa;have cR:=l hi;have cS:=l M;obtain⟨n,H,r,rfl,N,Y,O⟩:=p.at hi;have cU:=l Y;have w:=l O;have v:=l N;have eR:(0:Int)<=I:=by omega
 have eS:(I:Int)<(W.length:Int):=by omega
 clear p hy aa O N M Y;go_loopw [4] (λs et=>∃c:Nat,s=F K (c:Int)/\c<=4/\Hid (G No S et)) (λs _=>4 - (intOf s).toNat)
 case atStart=>exact⟨0,rfl,by omega,G.refl _ _⟩
 case round=>
  obtain⟨c,rfl,eN,e⟩:=hrel;have cZ:wr.cell? (u k 1 J)=E (C (E (u n 0 J)) W.length H):=eG (b e) (b y);have c7:=bj (b z) (b e).size;have c0:=eG (b e) (b w);have c8:=bj (b v) (b e).size;by_cases X:c<4
  .have c6:(c:Int)<4:=by omega
   have eP:(0:Int)<=c:=by omega
   have eQ:K.wrap ((c:Int)+1)=((c+1:Nat):Int):=by rw[bh _ (by omega) (by omega)];rfl
   obtain⟨B,ad,cY,T,Z,P,ab⟩:=(b cV).head (b cU) X
   have x:=l (λ(a:U) (c4:G No wr a)=>(show a.cell? (u k 1 J)=E (C (E (u n 0 J)) W.length H)/\k<a.heap.size/\a.cell? (u n I J)=E (C (E (u r 0 J)) 4 4)/\n<a.heap.size/\a.cell? (u r c J)=E (C B ad cY)/\r<a.heap.size/\∀o,o<ad->∃j,B=E (u j 0 J)/\j<a.heap.size/\a.rangeAt j (o* 6) (bS I).toList from by
    have d:=(b e).trans c4
    refine⟨eG d (b y),bj (b z) d.size,eG d (b w),bj (b v) d.size,eG d P,bj Z d.size,λo c5=>?_⟩
    obtain⟨j,c1,c2,c3⟩:=ab o c5
    exact⟨j,c1,bj c2 d.size,uB d c3⟩))
   have cT:=l T;clear P ab Z T;go_upto_block 4 with fail;refine od ?_
   refine SF (b x) (b cR) (b cS) X (b cT) _ _ _ _ _ _ _ _ _ _ _ _ _ _ _ _ _ _ _ _ _ _ _ _ _ _ _ _ _ _ _ _ _ _ _ _ _ _ _ _ _ _ _ _ _ _ _ _ _ _ _ _ _ _ _ _ _ _ _ _ _ _ _ _ _ _ _ _ _ _ _ _ _ _ _ _ _ _ _ _ _ _ _ _ _ _ _ _ _ _ _ _ _ _ _ _ _ _ _ _ _ _ _ _ _ _ _ _ _ _ _ _ _ _ _ _ _ _ _ _ _ _ _ _ _ _ _ _ _ _ _ _ _ _ _ _ _ _ _ _ _ _ _ _ _ _ _ _ _ _ _ ?_
   intro bI b5 cg bJ bL bM bO bP bQ bR bT bU bV bX bY bZ b0 b1 b2 b3 b4 b6 b7 b8 b9 ca cb cc cd ce cf ch ci cj ck cl cm cn co cp cq cr cs ct cu cv cw cx cy cA cB cD cE cF cG cH cI cJ cK cL cM cO eM cW;have cX:=l ((b e).trans (b cW));clear cZ c7 c0 c8 x;go_wp2;exact⟨⟨c+1,rfl,by omega,cX⟩,by simp[intOf];omega⟩
  .have c6:¬(c:Int)<4:=by omega
   go_wp2;exact(b cP) _ _ _ _ _ _ _ _ _ _ _ _ _ _ _ _ _ _ _ _ _ _ _ _ _ _ _ _ _ _ _ _ _ _ _ _ _ _ _ _ _ _ _ _ _ _ _ _ _ _ _ _ _ _ _ _ _ _ _ _ _ _ _ _ _ _ _ _ _ _ _ _ _ _ _ _ e
theorem SH(d:gX S i R W)(hy:S.cell? (u k 1 J)=E R)(x:k<S.heap.size)(cJ:W.length<=1099511627776)(r:Exit->Act->U->Prop)(z cX di dw dL aZ a0 a1 A cM cO cP cR cS cT cU cV cW cY cZ c0 c1 c2 c3 c4 c5 c6 c7 c8 c9 c' db dc dd de df dg dh dj dk dl dm dn dp dq dr dt dv dz dA dB dC dD dF dH dI dJ dK dM dN dO dP dQ dR dS dT dU dV dW dX dY dZ d0 d1 d2 d3 d4 d5 d6 d7 d8 d9 ea ec ed ee ef eg eh a2 a3 a4 a5 a6 a7 a8 a9 ba B H I M N O P Q T X Y Z aa ab ad ae af ag ah ai aj ak am ao ap ar au av aw ax ay az aA aB aC aD aE aF aG aH aI aJ aK aL aN aO aP aQ aS aT aU aW aX aY:V)
  (w:∀(bb es bA bP b1 ej ek el em en eo ep eq er bc bd bf bg bi bk bl bm bn bo bp bq br bs bt bu bv bw bx bz bB bC bE bF bH bI bJ bL bM bO bQ bR bS bT bU bV bX bY bZ b0 b2 b3 b4 b5 b6 b7 b8 b9 ca cb cc cd ce cf cg ch ci cj ck cl cm cn co cp cq cr cs ct cu cv cw:V) (s:U),Hid (G No S s)->r (.exit 0) ⟨#[g (E (u k 1 J)),z,bb,es,bA,bP,b1,aZ,a0,a1,A,ej,ek,el,em,en,eo,ep,eq,er,bc,bd,bf,bg,bi,bk,bl,bm,bn,bo,bp,bq,br,bs,bt,bu,bv,bw,bx,bz,bB,bC,bE,bF,bH,bI,bJ,bL,bM,bO,bQ,bR,bS,bT,bU,bV,bX,bY,bZ,b0,b2,b3,b4,b5,b6,b7,b8,b9,ca,cb,cc,cd,ce,cf,cg,ch,ci,cj,ck,cl,cm,cn,co,cp,cq,cr,cs,ct,cu,cv,cw,a2,a3,a4,a5,a6,a7,a8,a9,ba,B,H,I,M,N,O,P,Q,T,X,Y,Z,aa,ab,ad,ae,af,ag,ah,ai,aj,ak,am,ao,ap,ar,au,av,aw,ax,ay,az,aA,aB,aC,aD,aE,aF,aG,aH,aI,aJ,aK,aL,aN,aO,aP,aQ,aS,aT,aU,aW,aX,aY],[]⟩ s):
  Code.wp h (AR 0) r ⟨#[g (E (u k 1 J)),z,cX,F K 0,di,dw,dL,aZ,a0,a1,A,cM,cO,cP,cR,cS,cT,cU,cV,cW,cY,cZ,c0,c1,c2,c3,c4,c5,c6,c7,c8,c9,c',db,dc,dd,de,df,dg,dh,dj,dk,dl,dm,dn,dp,dq,dr,dt,dv,dz,dA,dB,dC,dD,dF,dH,dI,dJ,dK,dM,dN,dO,dP,dQ,dR,dS,dT,dU,dV,dW,dX,dY,dZ,d0,d1,d2,d3,d4,d5,d6,d7,d8,d9,ea,ec,ed,ee,ef,eg,eh,a2,a3,a4,a5,a6,a7,a8,a9,ba,B,H,I,M,N,O,P,Q,T,X,Y,Z,aa,ab,ad,ae,af,ag,ah,ai,aj,ak,am,ao,ap,ar,au,av,aw,ax,ay,az,aA,aB,aC,aD,aE,aF,aG,aH,aI,aJ,aK,aL,aN,aO,aP,aQ,aS,aT,aU,aW,aX,aY],[]⟩ S:=by
 conv=>arg 4;dsimp only
 conv=>arg 2;whnf
 have cx:=l w;clear w;have cB:=l d;have cD:=l hy;have cE:=l x;have cA:=l cJ;obtain⟨cH,cI,rfl⟩:=aR d.row;clear d hy x;go_loopw [3] (λe ei=>∃a:Nat,e=F K (a:Int)/\a<=W.length/\Hid (G No S ei)) (λe _=>W.length - (intOf e).toNat)
 case atStart=>exact⟨0,rfl,by omega,G.refl _ _⟩
 case round=>
  obtain⟨a,rfl,hi,c⟩:=hrel;have v:wr.cell? (u k 1 J)=E (C cH W.length cI):=eG (b c) (b cD);have y:=bj (b cE) (b c).size;by_cases cL:a<W.length
  .have cK:(a:Int)<(W.length:Int):=by omega
   have eu:(0:Int)<=a:=by omega
   have ev:K.wrap ((a:Int)+1)=((a+1:Nat):Int):=by rw[bh _ (by omega) (by omega)];rfl
   have o:=l ((b cB).mod (F':=i) ((b c).mono (S':=i) (λ_ _ j=>j.elim)) (λ_ _ j=>j));have n:=l v;have p:=l y;have cy:=l cL;go_upto_block 2 with fail;refine od ?_
   refine SG (av:=undef) (bv:=undef) (lv:=undef) (b o) (b n) (b p) (b cy) (b cA) _ _ _ _ _ _ _ _ _ _ _ _ _ _ _ _ _ _ _ _ _ _ _ _ _ _ _ _ _ _ _ _ _ _ _ _ _ _ _ _ _ _ _ _ _ _ _ _ _ _ _ _ _ _ _ _ _ _ _ _ _ _ _ _ _ _ _ _ _ _ _ _ _ _ _ _ _ _ _ _ _ _ _ _ _ _ _ _ _ _ _ _ _ _ _ _ _ _ _ _ _ _ _ _ _ _ _ _ _ _ _ _ _ _ _ _ _ _ _ _ _ _ _ _ _ _ _ _ _ _ _ _ _ _ _ _ _ _ _ _ _ _ _ _ _ _ _ _ _ _ _ _ ?_
   intro bb bA bP b1 bc bd bf bg bi bk bl bm bn bo bp bq br bs bt bu bv bw bx bz bB bC bE bF bH bI bJ bL bM bO bQ bR bS bT bU bV bX bY bZ b0 b2 b3 b4 b5 b6 b7 b8 b9 ca cb cc cd ce cf cg ch ci cj ck cl cm cn co cp cq cr cs ct cu cv cw et cF;have cG:=l ((b c).trans (b cF));clear v y o n p;go_wp2;exact⟨⟨a+1,rfl,by omega,cG⟩,by simp[intOf];omega⟩
  .have cK:¬(a:Int)<(W.length:Int):=by omega
   go_wp2;exact(b cx) _ _ _ _ _ _ _ _ _ _ _ _ _ _ _ _ _ _ _ _ _ _ _ _ _ _ _ _ _ _ _ _ _ _ _ _ _ _ _ _ _ _ _ _ _ _ _ _ _ _ _ _ _ _ _ _ _ _ _ _ _ _ _ _ _ _ _ _ _ _ _ _ _ _ _ _ _ _ _ _ _ _ _ _ _ _ c
noncomputable def AU(a:Nat):Code:=((mP (f11.body.getD .skip))[a]?).getD .skip
theorem SI{d n e b2 o b3:Nat}{a:Option Addr}(H:∀c,G No S c->c.cell? (u k 2 J)=E (C (E (u I 0 J)) o b3)/\k<c.heap.size/\c.cell? (u I d J)=E (C (E (u v 0 J)) 4 4)/\I<c.heap.size/\c.cell? (u v n J)=E (C a e b2)/\v<c.heap.size/\∀j,j<e->∃i,a=E (u i 0 J)/\i<c.heap.size/\c.rangeAt i (j* 3) (bQ d).toList)(hi:d<o)(A:o<=1099511627776)(b6:n<4)(s:e<=1000000)(z:Exit->Act->U->Prop)(M cS aB aN aZ ba b7 aa ae af ag ah ai aj ak am ao ap ar au av aw ax ay az aA aC aD aE aF aG aH aI aJ aK aL aO aP aQ aR aS aT aU aW aX aY a0 a1 a2 a3 a4 a5 a6 a7 a8 a9 bb bc bd bf bg bi bk bl bm bn bo bp bq br bs bt bu bv bw bx bz bA bB bC bE bF bH bI bJ bL bM bO bP bR bS bT bU bV bX bY N O P Q R T W X Y Z ab ad b8 b9 ca cb cc cd ce cf cg ch ci cj ck cl cm cn co cp cq cr cs ct cu cv cw cx cy cA cB cD cE cF cG cH cI cJ cK cL cM cO cP cR:V)
  (B:∀(dI dJ cU cV cW cX cY cZ c0 c1 c2 c3 c4 c5 c6 c7 c8 c9 c' db dc dd de df dg dh di dj dk dl dm dn dp dq dr dt dv dw dz dA dB dC dD dF dH:V) (c:U),Hid (G No S c)->z (.exit 10) ⟨#[g (E (u k 1 J)),M,dI,aB,aN,aZ,ba,F K (d:Int),F K (n:Int),dJ,cU,aa,ae,af,ag,ah,ai,aj,ak,am,ao,ap,ar,au,av,aw,ax,ay,az,aA,aC,aD,aE,aF,aG,aH,aI,aJ,aK,aL,aO,aP,aQ,aR,aS,aT,aU,aW,aX,aY,a0,a1,a2,a3,a4,a5,a6,a7,a8,a9,bb,bc,bd,bf,bg,bi,bk,bl,bm,bn,bo,bp,bq,br,bs,bt,bu,bv,bw,bx,bz,bA,bB,bC,bE,bF,bH,bI,bJ,bL,bM,bO,bP,bR,bS,bT,bU,bV,bX,bY,N,O,P,Q,R,T,W,X,Y,Z,ab,ad,cV,cW,cX,cY,cZ,c0,c1,c2,c3,c4,c5,c6,c7,c8,c9,c',db,dc,dd,de,df,dg,dh,di,dj,dk,dl,dm,dn,dp,dq,dr,dt,dv,dw,dz,dA,dB,dC,dD,dF,dH],[]⟩ c):
  Code.wp h (AU 5) z ⟨#[g (E (u k 1 J)),M,cS,aB,aN,aZ,ba,F K (d:Int),F K (n:Int),F K 0,b7,aa,ae,af,ag,ah,ai,aj,ak,am,ao,ap,ar,au,av,aw,ax,ay,az,aA,aC,aD,aE,aF,aG,aH,aI,aJ,aK,aL,aO,aP,aQ,aR,aS,aT,aU,aW,aX,aY,a0,a1,a2,a3,a4,a5,a6,a7,a8,a9,bb,bc,bd,bf,bg,bi,bk,bl,bm,bn,bo,bp,bq,br,bs,bt,bu,bv,bw,bx,bz,bA,bB,bC,bE,bF,bH,bI,bJ,bL,bM,bO,bP,bR,bS,bT,bU,bV,bX,bY,N,O,P,Q,R,T,W,X,Y,Z,ab,ad,b8,b9,ca,cb,cc,cd,ce,cf,cg,ch,ci,cj,ck,cl,cm,cn,co,cp,cq,cr,cs,ct,cu,cv,cw,cx,cy,cA,cB,cD,cE,cF,cG,cH,cI,cJ,cK,cL,cM,cO,cP,cR],[]⟩ S:=by
 conv=>arg 4;dsimp only
 conv=>arg 2;whnf
 have bZ:=l B;clear B;have b1:=l H;have dK:=l A;have dS:(0:Int)<=d:=by omega
 have dT:(d:Int)<(o:Int):=by omega
 have dX:(0:Int)<=n:=by omega
 have dY:(n:Int)<4:=by omega
 have b0:=l s;clear H A hi b6 s;go_loopw [9] (λx cT=>∃j:Nat,x=F K (j:Int)/\j<=e/\Hid (G No S cT)) (λx _=>e - (intOf x).toNat)
 case atStart=>exact⟨0,rfl,by omega,G.refl _ _⟩
 case round=>
  obtain⟨j,rfl,dP,r⟩:=hrel;obtain⟨dL,dU,dM,dV,dN,dW,w⟩:=(b b1) wr (b r);have s:=b b0;by_cases b5:j<e
  .have b4:(j:Int)<(e:Int):=by omega
   have dQ:(0:Int)<=j:=by omega
   have dR:K.wrap ((j:Int)+1)=((j+1:Nat):Int):=by rw[bh _ (by omega) (by omega)];rfl
   obtain⟨i,rfl,dO,p⟩:=w j b5;have dZ:wr.cell? ⟨i,j* 3,J⟩=E (F K (-9)):=p 0 _ rfl;have d0:wr.cell? ⟨i,j* 3+1,J⟩=E (F K 0):=p 1 _ rfl;have d1:wr.cell? ⟨i,j* 3+2,J⟩=E (F K (d:Int)):=p 2 _ rfl;clear w p;have y:=l ((b r).alloc (m (bQ d) 68));unfold bQ at y;go_wp2;exact⟨⟨j+1,rfl,by omega,y⟩,by simp[intOf];omega⟩
  .have b4:¬(j:Int)<(e:Int):=by omega
   clear w;go_wp2;exact(b bZ) _ _ _ _ _ _ _ _ _ _ _ _ _ _ _ _ _ _ _ _ _ _ _ _ _ _ _ _ _ _ _ _ _ _ _ _ _ _ _ _ _ _ _ _ _ _ r
theorem SJ{av bv lv:V}(p:iz S i R W)(hy:S.cell? (u k 2 J)=E R)(aa:k<S.heap.size)(hi:I<W.length)(M:W.length<=1099511627776)(A:Exit->Act->U->Prop)(ae d9 aE aQ a2 bd ea c9 af ag ah ai aj ak am ao ap ar au aw ax ay az aA aB aC aD aF aG aH aI aJ aK aL aN aO aP aR aS aT aU aW aX aY aZ a0 a1 a3 a4 a5 a6 a7 a8 a9 ba bb bc bf bg bi bk bl bm bn bo bp bq br bs bt bu bw bx bz bA bB bC bE bF bH bI bJ bL bM bO bP bR bS bT bU bV bX bY bZ b0 b1 b2 c' db dc dd de df dg dh di dj dk dl dm dn dp dq dr dt dv dw dz dA dB dC dD dF dH dI dJ dK dL dM dN dO dP dQ dR dS dT dU dV dW dX dY dZ d0 d1 d2 d3 d4 d5 d6 d7 d8:V)
  (Q:∀(cM ep cO b3 ed ee ef eg eh ei ej ek el em en eo b4 b5 b6 b7 b8 b9 ca cb cc cd ce cf cg ch ci cj ck cl cm cn co cp cq cr cs ct cu cv cw cx cy cA cB cD cE cF cG cH cI cJ cK cL:V) (a:U),Hid (G No S a)->A (.exit 8) ⟨#[g (E (u k 1 J)),ae,cM,aE,aQ,a2,bd,F K (I:Int),ep,cO,b3,af,ag,ah,ai,aj,ak,am,ao,ap,ar,au,aw,ax,ay,az,aA,aB,aC,aD,aF,aG,aH,aI,aJ,aK,aL,aN,aO,aP,aR,aS,aT,aU,aW,aX,aY,aZ,a0,a1,a3,a4,a5,a6,a7,a8,a9,ba,bb,bc,bf,bg,bi,bk,bl,bm,bn,bo,bp,bq,br,bs,bt,bu,bw,bx,bz,bA,bB,bC,bE,bF,bH,bI,bJ,bL,bM,bO,bP,bR,bS,bT,bU,bV,bX,bY,bZ,b0,b1,b2,ed,ee,ef,eg,eh,ei,ej,ek,el,em,en,eo,b4,b5,b6,b7,b8,b9,ca,cb,cc,cd,ce,cf,cg,ch,ci,cj,ck,cl,cm,cn,co,cp,cq,cr,cs,ct,cu,cv,cw,cx,cy,cA,cB,cD,cE,cF,cG,cH,cI,cJ,cK,cL],[]⟩ a):
  Code.wp h (AU 4) A ⟨#[g (E (u k 1 J)),ae,d9,aE,aQ,a2,bd,F K (I:Int),F K 0,ea,c9,af,ag,ah,ai,aj,ak,am,ao,ap,ar,au,aw,ax,ay,az,aA,aB,aC,aD,aF,aG,aH,aI,aJ,aK,aL,aN,aO,aP,aR,aS,aT,aU,aW,aX,aY,aZ,a0,a1,a3,a4,a5,a6,a7,a8,a9,ba,bb,bc,bf,bg,bi,bk,bl,bm,bn,bo,bp,bq,br,bs,bt,bu,bw,bx,bz,bA,bB,bC,bE,bF,bH,bI,bJ,bL,bM,bO,bP,bR,bS,bT,bU,bV,bX,bY,bZ,b0,b1,b2,c',db,dc,dd,de,df,dg,dh,di,dj,dk,dl,dm,dn,dp,dq,dr,dt,dv,dw,dz,dA,dB,dC,dD,dF,dH,dI,dJ,dK,dL,dM,dN,dO,dP,dQ,dR,dS,dT,dU,dV,dW,dX,dY,dZ,d0,d1,d2,d3,d4,d5,d6,d7,d8],[]⟩ S:=by
 conv=>arg 4;dsimp only
 conv=>arg 2;whnf
 have cP:=l Q;clear Q;have cV:=l p;have y:=l hy;have z:=l aa;have cR:=l hi;have cS:=l M;obtain⟨n,H,r,rfl,N,Y,O⟩:=p.at hi;have cU:=l Y;have w:=l O;have v:=l N;have eu:(0:Int)<=I:=by omega
 have ev:(I:Int)<(W.length:Int):=by omega
 clear p hy aa O N M Y;go_loopw [8] (λs ec=>∃c:Nat,s=F K (c:Int)/\c<=4/\Hid (G No S ec)) (λs _=>4 - (intOf s).toNat)
 case atStart=>exact⟨0,rfl,by omega,G.refl _ _⟩
 case round=>
  obtain⟨c,rfl,er,e⟩:=hrel;have cZ:wr.cell? (u k 2 J)=E (C (E (u n 0 J)) W.length H):=eG (b e) (b y);have c7:=bj (b z) (b e).size;have c0:=eG (b e) (b w);have c8:=bj (b v) (b e).size;by_cases X:c<4
  .have c6:(c:Int)<4:=by omega
   have es:(0:Int)<=c:=by omega
   have et:K.wrap ((c:Int)+1)=((c+1:Nat):Int):=by rw[bh _ (by omega) (by omega)];rfl
   obtain⟨B,ad,cY,T,Z,P,ab⟩:=(b cV).head (b cU) X
   have x:=l (λ(a:U) (c4:G No wr a)=>(show a.cell? (u k 2 J)=E (C (E (u n 0 J)) W.length H)/\k<a.heap.size/\a.cell? (u n I J)=E (C (E (u r 0 J)) 4 4)/\n<a.heap.size/\a.cell? (u r c J)=E (C B ad cY)/\r<a.heap.size/\∀o,o<ad->∃j,B=E (u j 0 J)/\j<a.heap.size/\a.rangeAt j (o* 3) (bQ I).toList from by
    have d:=(b e).trans c4
    refine⟨eG d (b y),bj (b z) d.size,eG d (b w),bj (b v) d.size,eG d P,bj Z d.size,λo c5=>?_⟩
    obtain⟨j,c1,c2,c3⟩:=ab o c5
    exact⟨j,c1,bj c2 d.size,uB d c3⟩))
   have cT:=l T;clear P ab Z T;go_upto_block 10 with fail;refine od ?_
   refine SI (b x) (b cR) (b cS) X (b cT) _ _ _ _ _ _ _ _ _ _ _ _ _ _ _ _ _ _ _ _ _ _ _ _ _ _ _ _ _ _ _ _ _ _ _ _ _ _ _ _ _ _ _ _ _ _ _ _ _ _ _ _ _ _ _ _ _ _ _ _ _ _ _ _ _ _ _ _ _ _ _ _ _ _ _ _ _ _ _ _ _ _ _ _ _ _ _ _ _ _ _ _ _ _ _ _ _ _ _ _ _ _ _ _ _ _ _ _ _ _ _ _ _ _ _ _ _ _ _ _ _ _ _ _ _ _ _ _ _ _ _ _ _ _ _ _ _ _ _ _ _ _ _ _ _ _ _ _ _ _ _ ?_
   intro cM cO b3 b4 b5 b6 b7 b8 b9 ca cb cc cd ce cf cg ch ci cj ck cl cm cn co cp cq cr cs ct cu cv cw cx cy cA cB cD cE cF cG cH cI cJ cK cL eq cW;have cX:=l ((b e).trans (b cW));clear cZ c7 c0 c8 x;go_wp2;exact⟨⟨c+1,rfl,by omega,cX⟩,by simp[intOf];omega⟩
  .have c6:¬(c:Int)<4:=by omega
   go_wp2;exact(b cP) _ _ _ _ _ _ _ _ _ _ _ _ _ _ _ _ _ _ _ _ _ _ _ _ _ _ _ _ _ _ _ _ _ _ _ _ _ _ _ _ _ _ _ _ _ _ _ _ _ _ _ _ _ _ _ _ _ _ _ e
theorem SK(d:iz S i R W)(hy:S.cell? (u k 2 J)=E R)(x:k<S.heap.size)(cJ:W.length<=1099511627776)(r:Exit->Act->U->Prop)(z dO ah ax aI aW dP dQ cM A B H I M N O P Q T X Y Z aa ab ad ae af ag ai aj ak am ao ap ar au av aw ay az aA aB aC aD aE aF aG aH aJ aK aL aN aO aP aQ aS aT aU aX aY aZ a0 a1 a2 a3 a4 a5 a6 a7 a8 a9 ba bb bc bd bf bg bi bk bl bm bn bo bp bq br bs bt bu dR dS dT dU dV dW dX dY dZ cO cP cR cS cT cU cV cW cX cY cZ c0 c1 c2 c3 c4 c5 c6 c7 c8 c9 c' db dc dd de df dg dh di dj dk dl dm dn dp dq dr dt dv dw dz dA dB dC dD dF dH dI dJ dK dL dM dN:V)
  (w:∀(cu d1 cv cw bv d2 d3 d4 d5 d6 d7 d8 d9 ea bw bx bz bA bB bC bE bF bH bI bJ bL bM bO bP bQ bR bS bT bU bV bX bY bZ b0 b1 b2 b3 b4 b5 b6 b7 b8 b9 ca cb cc cd ce cf cg ch ci cj ck cl cm cn co cp cq cr cs ct:V) (s:U),Hid (G No S s)->r (.exit 6) ⟨#[g (E (u k 1 J)),z,cu,ah,ax,aI,aW,d1,cv,cw,bv,A,B,H,I,M,N,O,P,Q,T,X,Y,Z,aa,ab,ad,ae,af,ag,ai,aj,ak,am,ao,ap,ar,au,av,aw,ay,az,aA,aB,aC,aD,aE,aF,aG,aH,aJ,aK,aL,aN,aO,aP,aQ,aS,aT,aU,aX,aY,aZ,a0,a1,a2,a3,a4,a5,a6,a7,a8,a9,ba,bb,bc,bd,bf,bg,bi,bk,bl,bm,bn,bo,bp,bq,br,bs,bt,bu,d2,d3,d4,d5,d6,d7,d8,d9,ea,bw,bx,bz,bA,bB,bC,bE,bF,bH,bI,bJ,bL,bM,bO,bP,bQ,bR,bS,bT,bU,bV,bX,bY,bZ,b0,b1,b2,b3,b4,b5,b6,b7,b8,b9,ca,cb,cc,cd,ce,cf,cg,ch,ci,cj,ck,cl,cm,cn,co,cp,cq,cr,cs,ct],[]⟩ s):
  Code.wp h (AU 3) r ⟨#[g (E (u k 1 J)),z,dO,ah,ax,aI,aW,F K 0,dP,dQ,cM,A,B,H,I,M,N,O,P,Q,T,X,Y,Z,aa,ab,ad,ae,af,ag,ai,aj,ak,am,ao,ap,ar,au,av,aw,ay,az,aA,aB,aC,aD,aE,aF,aG,aH,aJ,aK,aL,aN,aO,aP,aQ,aS,aT,aU,aX,aY,aZ,a0,a1,a2,a3,a4,a5,a6,a7,a8,a9,ba,bb,bc,bd,bf,bg,bi,bk,bl,bm,bn,bo,bp,bq,br,bs,bt,bu,dR,dS,dT,dU,dV,dW,dX,dY,dZ,cO,cP,cR,cS,cT,cU,cV,cW,cX,cY,cZ,c0,c1,c2,c3,c4,c5,c6,c7,c8,c9,c',db,dc,dd,de,df,dg,dh,di,dj,dk,dl,dm,dn,dp,dq,dr,dt,dv,dw,dz,dA,dB,dC,dD,dF,dH,dI,dJ,dK,dL,dM,dN],[]⟩ S:=by
 conv=>arg 4;dsimp only
 conv=>arg 2;whnf
 have cx:=l w;clear w;have cB:=l d;have cD:=l hy;have cE:=l x;have cA:=l cJ;obtain⟨cH,cI,rfl⟩:=aR d.row;clear d hy x;go_loopw [7] (λe d0=>∃a:Nat,e=F K (a:Int)/\a<=W.length/\Hid (G No S d0)) (λe _=>W.length - (intOf e).toNat)
 case atStart=>exact⟨0,rfl,by omega,G.refl _ _⟩
 case round=>
  obtain⟨a,rfl,hi,c⟩:=hrel;have v:wr.cell? (u k 2 J)=E (C cH W.length cI):=eG (b c) (b cD);have y:=bj (b cE) (b c).size;by_cases cL:a<W.length
  .have cK:(a:Int)<(W.length:Int):=by omega
   have ed:(0:Int)<=a:=by omega
   have ee:K.wrap ((a:Int)+1)=((a+1:Nat):Int):=by rw[bh _ (by omega) (by omega)];rfl
   have o:=l ((b cB).mod (F':=i) ((b c).mono (S':=i) (λ_ _ j=>j.elim)) (λ_ _ j=>j));have n:=l v;have p:=l y;have cy:=l cL;go_upto_block 8 with fail;refine od ?_
   refine SJ (av:=undef) (bv:=undef) (lv:=undef) (b o) (b n) (b p) (b cy) (b cA) _ _ _ _ _ _ _ _ _ _ _ _ _ _ _ _ _ _ _ _ _ _ _ _ _ _ _ _ _ _ _ _ _ _ _ _ _ _ _ _ _ _ _ _ _ _ _ _ _ _ _ _ _ _ _ _ _ _ _ _ _ _ _ _ _ _ _ _ _ _ _ _ _ _ _ _ _ _ _ _ _ _ _ _ _ _ _ _ _ _ _ _ _ _ _ _ _ _ _ _ _ _ _ _ _ _ _ _ _ _ _ _ _ _ _ _ _ _ _ _ _ _ _ _ _ _ _ _ _ _ _ _ _ _ _ _ _ _ _ _ _ _ _ _ _ _ _ _ _ _ _ _ ?_
   intro cu cv cw bv bw bx bz bA bB bC bE bF bH bI bJ bL bM bO bP bQ bR bS bT bU bV bX bY bZ b0 b1 b2 b3 b4 b5 b6 b7 b8 b9 ca cb cc cd ce cf cg ch ci cj ck cl cm cn co cp cq cr cs ct ec cF;have cG:=l ((b c).trans (b cF));clear v y o n p;go_wp2;exact⟨⟨a+1,rfl,by omega,cG⟩,by simp[intOf];omega⟩
  .have cK:¬(a:Int)<(W.length:Int):=by omega
   go_wp2;exact(b cx) _ _ _ _ _ _ _ _ _ _ _ _ _ _ _ _ _ _ _ _ _ _ _ _ _ _ _ _ _ _ _ _ _ _ _ _ _ _ _ _ _ _ _ _ _ _ _ _ _ _ _ _ _ _ _ _ _ _ _ _ _ _ _ _ _ _ _ _ _ c
theorem SN{F':Nat->Prop}{lv j:V}(hy:X S k #[lv,R,j] 34)(n:gX S i R W)(o:iz S F' j N)(p:W.length<=1099511627776)(r:N.length<=1099511627776):Calls h 11 #[g (E (u k 1 J))] S λB w'=>B=q (L true)/\G No S w':=by
 have c:=l hy;have v:=l n;have w:=l o;have y:=l p;have z:=l r;clear hy n o p r;go_enter func11,ntmps11;go_upto_block 0 with fail;refine od ?_
 refine SH (b v) ((b c).T 1) (b c).lt (b y) _ _ _ _ _ _ _ _ _ _ _ _ _ _ _ _ _ _ _ _ _ _ _ _ _ _ _ _ _ _ _ _ _ _ _ _ _ _ _ _ _ _ _ _ _ _ _ _ _ _ _ _ _ _ _ _ _ _ _ _ _ _ _ _ _ _ _ _ _ _ _ _ _ _ _ _ _ _ _ _ _ _ _ _ _ _ _ _ _ _ _ _ _ _ _ _ _ _ _ _ _ _ _ _ _ _ _ _ _ _ _ _ _ _ _ _ _ _ _ _ _ _ _ _ _ _ _ _ _ _ _ _ _ _ _ _ _ _ _ _ _ _ _ _ _ _ _ _ _ _ _ _ _ ?_
 intro ad ar aE aQ a2 M O P Q T Y Z aa ab ae af ag ah ai aj ak am ao ap au av aw ax ay az aA aB aC aD aF aG aH aI aJ aK aL aN aO aP aR aS aT aU aW aX aY aZ a0 a1 a3 a4 a5 a6 a7 a8 a9 ba bb bc bd bf bg bh bi bk bl bm bn bo bp bq br bs bt bu bv bw bx bz bA H d;have x:=l ((b w).mod (F':=F') ((b d).mono (S':=F') (λ_ _ a=>a.elim)) (λ_ _ a=>a));have e:=l ((b d).e (b c) (λa=>a))
 go_upto_block 6 with fail;refine od ?_;refine SK (b x) ((b e).T 2) (b e).lt (b z) _ _ _ _ _ _ _ _ _ _ _ _ _ _ _ _ _ _ _ _ _ _ _ _ _ _ _ _ _ _ _ _ _ _ _ _ _ _ _ _ _ _ _ _ _ _ _ _ _ _ _ _ _ _ _ _ _ _ _ _ _ _ _ _ _ _ _ _ _ _ _ _ _ _ _ _ _ _ _ _ _ _ _ _ _ _ _ _ _ _ _ _ _ _ _ _ _ _ _ _ _ _ _ _ _ _ _ _ _ _ _ _ _ _ _ _ _ _ _ _ _ _ _ _ _ _ _ _ _ _ _ _ _ _ _ _ _ _ _ _ _ _ _ _ _ _ _ _ _ _ _ _ _ ?_
 intro cA cB cD cE bB cF cG cH cI cJ cK cL cM cO bC bE bF bH bI bJ bL bM bO bP bQ bR bS bT bU bV bX bY bZ b0 b1 b2 b3 b4 b5 b6 b7 b8 b9 ca cb cc cd ce cf cg ch ci cj ck cl cm cn co cp cq cr cs ct cu cv cw cx cy I A;have s:=l ((b d).trans (b A));go_wp2;go_ret;exact⟨rfl,b s⟩
end Go.Proofs.YthhibagcpjeihaaGreat
