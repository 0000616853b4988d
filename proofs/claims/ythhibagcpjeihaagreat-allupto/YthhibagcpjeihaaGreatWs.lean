import Derived.Test.YthhibagcpjeihaaGreatWp
import Derived.Test.YthhibagcpjeihaaGreatWm
import Derived.Test.YthhibagcpjeihaaGreatWn
open Go.Proofs.Tryz
open Go.Addr renaming mk->u
open Go.Value renaming int->F,pointer->g,slice->C,bool->L,agg->t,tuple->aq,ownBlock->aV
open Go.IntKind renaming i64->K
open Option renaming none->J,some->E
open Go renaming World->U,Value->V
open Go.Proofs.Tryz renaming prog->h
open Go.Ending renaming returned->q
open Go.Obj renaming cells->m
open Go.Act renaming eval->aM,put->bN
set_option linter.unusedVariables false
set_option linter.unusedSimpArgs false
set_option maxRecDepth 100000
set_option maxHeartbeats 8000000
namespace Go.Proofs.YthhibagcpjeihaaGreat
open Go.RowKit
open M
variable {W:U} {j k:Nat->Nat} {w Q P:Nat} {i:V} {R:List aB} {p S o:Int} {I:Nat->Option (O×List z)} {v:List z} {N:Nat->Prop} {B:List Nat}
theorem Hz(e:bB W j w i R p)(l:dC R I)(a d b c size:Int):Calls h 64 #[g (E (u w 0 J)),F K a,t #[F K d,F K b,F K c],F K size] W λn w'=>Told W w' n (kn I a d b c size):=by
 unfold kn;by_cases k:1<=a/\a<=20
 case neg=>
  rw[D k];exact Gn e a d b c size (l.AD a k)
 rw[f (by omega)];obtain⟨f1,f2⟩|⟨o,hi,f1,f2,f3⟩:=l.find a k
 .rw[f2];exact Gn e a d b c size f1
 .rw[f3];obtain⟨s,r,rfl⟩:=e.some (by omega);exact SE e a d b c size o hi f1
theorem Tq{p:O}{a size:Int}:(gI p v S o a size).Y.length<=30:=by
 unfold gI;split
 .simp
 .split
  .simp
  .simp only[eO];omega
theorem Tr(c:Nat->Option (O×List z))(d e a b size:Int):(kn c d e a b size).Y.length<=30:=by
 unfold kn;split
 .simp
 .split
  .simp
  .exact Tq
def aG.jB(a:aG)(R:gT):aG:=if R.err=0 then { a with n0:=R.r,n1:=R.c,n2:=R.ep } else a
structure me (w w':U) (F:Nat->Prop) (yb ob:Nat) (J:aG) (R:gT) (lv av bv:V) (la:List Nat):Prop where
 ex:∃av' rb,gX w' F av' (la++[rb])/\X w' yb #[lv,av',bv] 34/\∀g,av'.ownBlock=E g->av.ownBlock=E g\/w.heap.size<=g
 one:X w' ob (dO (J.jB R)) 55
 mod:G (λg=>g=yb\/g=ob\/av.ownBlock=E g) w w'
theorem H7{r j k:U}{p:aG}{R:gT}{lv v y s:V}{M:Array V}(O:gX W N i B)(n:G No W r)(hd:xJ r j w B.length lv i v y (B.map xK) s P M)(S:N w)(H:N Q)(hF:∀b,N b->b<W.heap.size)(x:∀a,y.ownBlock=E a->W.heap.size<=a)(l:G (λb=>b=Q) j k)(I:X k Q (dO (p.jB R)) 55)(A:Q≠w):me W k N w Q p R lv i v B:=by
 have Z:=n.size;have aa:=hd.mod.size;refine⟨⟨s,P,(O.more n hd S x (λb e=>⟨hF b e,e⟩)).mod (l.mono (S':=N) (λb _ d=>by subst d;exact H)) (λ_ _ o=>o),l.e hd.e (λd=>A d.symm),λa z=>?_⟩,I,?_⟩
 .obtain c|c:=(hd.own a z).2
  .exact .inl c
  .exact .inr (by omega)
 .have T:G (λa=>a=w\/a=Q\/i.ownBlock=E a) W j:=(n.mono (S':=λa=>a=w\/a=Q\/i.ownBlock=E a) (λ_ _ o=>o.elim)).trans' hd.mod (λb e Y=>by
   obtain c|c|c:=e
   .exact .inl c
   .have:=x b c;omega
   .exact .inr (.inr c))
  exact T.trans (l.mono (λ_ _ d=>.inr (.inl d)))
theorem Ts{I:mT}{o:aG}{lv Y:V}{n r c e size:Int}(hA:pr W Q I)(aI:X W Q (dO o) 55)(hy:X W w #[lv,i,Y] 34)(bg:gX W N i B)(bh:N w)(bf:N Q)(hF:∀ao,N ao->ao<W.heap.size)(bc:B.length<=1099511627776):Calls h 38 #[g (E (u w 0 J)),g (E (u Q 0 J)),F K n,t #[F K r,F K c,F K e],F K size] W λaf w'=>af=q (L true)/\me W w' N w Q o (kn I.fl n r c e size) lv i Y B:=by
 have aH:=Tr I.fl n r c e size;obtain⟨a,am⟩:∃a,kn I.fl n r c e size=a:=⟨_,rfl⟩;have O:G No W (W.alloc (m #[F K r,F K c,F K e] 43)):=(G.refl No W).alloc _;have aS:=l (X.new W #[F K r,F K c,F K e] 43)
 have aX:=l (λj (s:G No (W.alloc (m #[F K r,F K c,F K e] 43)) j)=>(show Calls h 63 #[g (E (u I.kb 0 J)),F K n,t #[F K r,F K c,F K e],F K size] j λaf w'=>Told j w' af a from by
  have:=Gi (hA.mod (O.trans s) (λ_ d _=>d)).keep n r c e size
  rw[am] at this
  exact this))
 have a2:=l (λj (s:G No (W.alloc (m #[F K r,F K c,F K e] 43)) j)=>(show Calls h 64 #[g (E (u I.wb 0 J)),F K n,t #[F K r,F K c,F K e],F K size] j λaf w'=>Told j w' af a from by
  have z:=hA.mod (O.trans s) (λ_ d _=>d)
  have:=Hz z.bM z.same n r c e size
  rw[am] at this
  exact this))
 have aO:=l (λj (s:G No (W.alloc (m #[F K r,F K c,F K e] 43)) j)=>(hA.mod (O.trans s) (λ_ d _=>d)).vc);have aP:=l (λj (s:G No (W.alloc (m #[F K r,F K c,F K e] 43)) j)=>(hA.mod (O.trans s) (λ_ d _=>d)).vd);rw[am] at aH ⊢;have aZ:=l aH;have a5:=l O;have bq:=l aI;have br:=l hy;have aj:=l bg;have ax:=l bh;have a1:=l bf;have aW:=l hF;have aY:=l bc;have aL:=aI.lt;have bR:=l aL
 clear hA aI hy bg bh bf hF bc am aH O aL;go_enter func38,ntmps38;go_upto_region 1 with fail;generalize W.alloc (m #[F K r,F K c,F K e] 43)=b6 at *;generalize bd:W.heap.size=bU at *;have aU:=l bd;clear bd;refine Sz (b aO) (b aS) (b aX) _ _ _ _ _ _ _ _ _ _ _ _ _ _ _ _ _ _ _ _ _ _ _ _ _ _ _ _ _ _ _ _ _ _ _ _ _ _ _ _ _ _ _ _ _ _ _ _ _ _ _ _ _ _ _ _ _ ?_
 intro b8 b9 ca cb cc cd ce cf b7 cg ch T b4 bS av;go_upto_region 2 with fail;have ai:=l (b av).1;refine SA (λj s=>(b aP) j ((b ai).trans s)) ((b ai).e (b aS) (λd=>d)) (λj s=>(b a2) j ((b ai).trans s)) _ _ _ _ _ _ _ _ _ _ _ _ _ _ _ _ _ _ _ _ _ _ _ _ _ _ _ _ _ _ _ _ _ _ _ _ _ _ _ _ _ _ _ _ _ _ _ _ _ _ _ _ _ _ _ _ _ ?_;intro cj ck cl cm cn co cp cq ci cr cs y b5 v aT;obtain⟨aK,bk,ap,bF⟩:=b av
 obtain⟨ar,bl,aJ,bi⟩:=b aT;have A:=l (ar.e bk (λd=>d));have H:=l bl;obtain⟨S,Z,rfl⟩:=aR ap.1;obtain⟨bu,bv,rfl⟩:=aR aJ.1;have ay:=l (ar.owns ap.1 (λ_ _ d=>d));have a4:=l aJ.1;have a6:=l ap.2;have bt:=l (aK.trans ar);have bQ:=l (cC aK.size bi);have bb:=l (He (r:=a.r) (c:=a.c) (e:=a.ep) (more:=a.more) (b ay) (b a4) (by have:=b aZ;omega));have aN:v.cell? (u T 0 J)=E (C S a.Y.length Z):=(b A).T 0
 have bH:v.cell? (u T 1 J)=E (F K a.r):=(b A).T 1;have bI:v.cell? (u T 2 J)=E (F K a.c):=(b A).T 2;have bJ:v.cell? (u T 3 J)=E (F K a.ep):=(b A).T 3;have bL:v.cell? (u T 4 J)=E (L a.more):=(b A).T 4;have bM:v.cell? (u y 0 J)=E (C bu a.Y.length bv):=(b H).T 0;have bm:v.cell? (u y 1 J)=E (F K a.r):=(b H).T 1;have bn:v.cell? (u y 2 J)=E (F K a.c):=(b H).T 2
 have bo:v.cell? (u y 3 J)=E (F K a.ep):=(b H).T 3;have bO:v.cell? (u y 4 J)=E (L a.more):=(b H).T 4;clear aK bk ap bF ar bl aJ bi av aT ai aX a2 aO aP;go_wp2_with fail;refine(b bb).mono ?_;rintro bV ak ⟨rfl,ah⟩;have bs:=l ah;have a9:=l (ah.e (b A) (λd=>d));have ba:=l (ah.e (b H) (λd=>d));have a3:=l (ah.owns (b ay) (λ_ _ d=>d));clear aN bH bI bJ bL bM bm bn bo bO ah A H ay a4 bb
 have ad:=l (((b a5).trans (b bt)).trans (b bs));have M:=l ((b ad).e (b br) (λd=>d));have ab:=l ((b ad).owns (b aj).row (λ_ _ d=>d));have aN:ak.cell? (u T 0 J)=E (C S a.Y.length Z):=(b a9).T 0;have bP:=(b M).lt;go_upto_region 4 with fail;have a0:=l (show a.Y.length+3<=1000000 from by have:=b aZ;omega);have ae:=l (⟨_,b a3⟩:bp 63 6 ak (C S a.Y.length Z) a.Y.length)
 have az:=l (show ∀k,(C S a.Y.length Z).ownBlock=E k->k≠w/\i.ownBlock≠E k from λk aF=>by
  obtain⟨bw,bz,_,z,_⟩:=bp.owns (b ae) aF
  refine⟨z.ne (b M) (by decide),λe=>?_⟩
  obtain⟨_,aD|⟨bB,bx,bA,rfl,_,ag,_⟩⟩:=b ab
  .rw[aD.1] at e;simp[aV] at e
  .simp[aV] at e
   subst e
   exact z.ne ag (by decide) rfl)
 have aB:=l (show i.ownBlock≠E w from λe=>(b aj).lZ w e (b ax));have CALL:=l (Gp (ov:=Y) (lv:=lv) (b M) (b ab) (b aY) (b ae) (b a0) (b az) (b aB));have aQ:=l (Gp (w:=ak.drew) (ov:=Y) (lv:=lv) (b M) (b ab) (b aY) (b ae) (b a0) (b az) (b aB));go_region_law (refine fP rfl 66 _ _ rfl #[g (E (u w 1 J)),C S a.Y.length Z] (by simp[aM,bN]) (λj=>by kernel_rfl) (aq #[]) _ (b aQ) ?_;intro x bC)
 obtain⟨bT,b3,bX,aE⟩:=bC;have aw:=l aE
 have aA:=l (show ∀k aC R,X ak k aC R->R≠34->R≠63->R≠60->X x k aC R from λk aC R z t1 t2 t3=>aE.mod.e z (by
  rintro(e|e|e)
  .subst e;exact z.ne (b M) t1 rfl
  .obtain⟨bw,bz,_,ag,_⟩:=bp.owns (b ae) e
   exact z.ne ag t2 rfl
  .obtain⟨_,aD|⟨bB,bx,bA,rfl,_,ag,_⟩⟩:=b ab
   .rw[aD.1] at e;simp[aV] at e
   .simp[aV] at e
    subst e
    exact z.ne ag t3 rfl))
 have P:=(b aA) y _ _ (b ba) (by decide) (by decide) (by decide);have p:=(b aA) Q _ _ ((b ad).e (b bq) (λd=>d)) (by decide) (by decide) (by decide);have bm:x.cell? (u y 1 J)=E (F K a.r):=P.T 1;have bn:x.cell? (u y 2 J)=E (F K a.c):=P.T 2;have bo:x.cell? (u y 3 J)=E (F K a.ep):=P.T 3;have sl:=P.lt;have b0:x.cell? (u Q 8 J)=E (F K o.n0):=p.T 8;have b1:x.cell? (u Q 9 J)=E (F K o.n1):=p.T 9
 have bZ:x.cell? (u Q 10 J)=E (F K o.n2):=p.T 10;have b2:=p.aC;have aL:=p.lt;have a8:=l (show Q≠w from p.ne ((b aw).e) (by decide));have bY:y≠Q:=P.ne p (by decide);have a7:=l (show ∀k,(C S a.Y.length Z).ownBlock=E k->W.heap.size<=k from λk aF=>cC (b a5).size ((b a6) k aF));have p:=l p;clear aE P aN bP CALL aQ M ab ae az aB a3 a9 ba aA a6;by_cases aa:a.err=0
 .have bE:(a.err==0)=true:=by simp[aa]
  have au:=l (show me W (((x.setCell (u Q 8 J) (F K a.r)).setCell (u Q 9 J) (F K a.c)).setCell (u Q 10 J) (F K a.ep)) N w Q o a lv i Y B from by
   refine H7 (b aj) (b ad).drew (b aw) (b ax) (b a1) (by rw[b aU];exact b aW) (b a7) ((((G.refl (λao=>ao=Q) x).at 8 _).at 9 _).at 10 _) ?_ (b a8)
   have e:o.jB a={ o with n0:=a.r,n1:=a.c,n2:=a.ep }:=D aa
   rw[e]
   exact(((b p).set 8 _).set 9 _).set 10 _)
  clear aa;go_wp2;go_ret;exact⟨rfl,b au⟩
 .have bE:(a.err==0)=false:=by simp[aa]
  have au:=l (show me W x N w Q o a lv i Y B from by
   refine H7 (b aj) (b ad).drew (b aw) (b ax) (b a1) (by rw[b aU];exact b aW) (b a7) (G.refl _ _) ?_ (b a8)
   have e:o.jB a=o:=f aa
   rw[e]
   exact b p)
  clear aa;go_wp2;go_ret;exact⟨rfl,b au⟩
theorem H8{p:O}(j:aJ p v)(a:Nat)(r:a<v.length):∃(e:List z) (d b:Int) (k:Bool),gI p v (eT p v a).1 (eT p v a).2.1 (eT p v a).2.2 30=⟨e,d,b,p.ep,k,0⟩/\e.length<=30/\(k=true->a+30<v.length/\eT p v (a+30)=(d,b,p.ep)):=by
 by_cases i:a+30<v.length
 .obtain⟨c,n,o,_⟩:=Sg j a 30 (by omega) i;exact⟨_,_,_,_,c,by omega,λ_=>⟨i,by rw[<-n]⟩⟩
 .obtain⟨d,b,c⟩:=Sh j a 30 (by omega) (by omega) (by omega);exact⟨_,_,_,_,c,by rw[oZ];omega,λl=>by cases l⟩
theorem H'(b:1<=w/\w<=20)(a:I w=J):(iY I w).2=2:=by
 unfold iY;rw[f (by omega),sK,a]
theorem Ia{x:O×List z}(b:1<=w/\w<=20)(a:I w=E x):(iY I w).2=0:=by
 unfold iY;rw[f (by omega),sK,a]
theorem A6{p:O}(i:1<=w/\w<=20)(e:I w=E (p,v))(c a b d:Int):kn I w c a b d=gI p v c a b d:=by
 unfold kn;rw[f (by omega),sK,e]
structure Alike (r:Bool) (fl fl':Nat->Option (O×List z)) (cD:Nat):Prop where
 same:∀n,n<cD->fl n=fl' n
 yes:r=true->cD=21
 no:r=false->1<=cD/\cD<=20/\((fl cD≠J/\fl' cD=J)\/∃p l p' l',fl cD=E (p,l)/\fl' cD=E (p',l')/\p.ep≠p'.ep)
theorem alike{a:Bool}{fl':Nat->Option (O×List z)}(k:(a=true/\p=S/\I=fl')\/(a=false/\Diff p I S fl')):(a=false/\p≠S)\/(p=S/\∃l,Alike a I fl' l):=by
 obtain⟨rfl,rfl,rfl⟩|⟨rfl,c|⟨rfl,n,d,e,i,j⟩⟩:=k
 .exact .inr ⟨rfl,21,λ_ _=>rfl,λ_=>rfl,λb=>by cases b⟩
 .exact .inl ⟨rfl,c⟩
 .exact .inr ⟨rfl,n,i,λb=>(by cases b),λ_=>⟨d,e,j⟩⟩
structure tJ (w wx:U) (ab:Nat) (fl:Nat->Option (O×List z)) (n cD g:Nat) (more:Bool) (r c e:Int):Prop where
 box:X wx ab #[F K r,F K c,F K e] 43
 mod:G No w wx
 A7:w.heap.size<=ab
 on:more=true->∃p l k,fl n=E (p,l)/\k<l.length/\l.length - k<g/\(r,c,e)=eT p l k/\(n=cD->k=0)
 off:more=false->n<cD
theorem tJ.still{d e:U}{b:Nat}{more:Bool}(a:tJ W d w I Q P b more p S o)(c:G No d e):tJ W e w I Q P b more p S o:=
 ⟨c.e a.box (λi=>i),a.mod.trans c,a.A7,a.on,a.off⟩
theorem Ib{N:Int}{fl':Nat->Option (O×List z)}(b6:pU W j w p I)(bc:bB W k Q i R S)(cj:dC R fl')(hF:cJ N p I)(b8:cJ N S fl')(y:Bool)(ch:(y=true/\p=S/\I=fl')\/(y=false/\Diff p I S fl')):Calls h 74 #[g (E (u w 0 J)),g (E (u Q 0 J))] W λn w'=>n=q (L y)/\G No W w':=by
 have ap:=l λo (A:G No W o)=>b6.mod A (λ_ _ c=>c);have au:=l λo (A:G No W o)=>bc.mod A (λ_ _ c=>c);have ar:=l cj;have ao:=l hF;have aD:=l b8;obtain⟨dq,aN⟩:=b6;have bX:=l λa=>yN (aN.mod ((G.refl No W).drewN a) (λ_ _ c=>c));have c8:W.cell? (u Q 1 J)=E (F K S):=bc.e.T 1;have cp:=bc.e.lt;have bl:=l (alike ch);clear aN bc cj hF b8 ch;go_enter func74,ntmps74;go_upto_region 1 with fail
 go_cut [23] from 17 to 23 (λc7 aX=>∃b4:Bool,c7=L b4/\Hid (b4=(p !=S))/\Hid (G No W aX))
 case first=>
  go_quiet ((go_at_call 32;exact Calls.quiet_of_same ((b bX) _)));go_wp2;go_meet;exact⟨_,rfl,rfl,(G.refl No W).drewN _⟩
 case rest=>
  obtain⟨b5,rfl,aZ,bp⟩:=hcut
  apply_assumption
  clear c8 cp bX;obtain⟨rfl,ax⟩|⟨rfl,x,hA⟩:=b bl
  .obtain rfl:b5=true:=by rw[b aZ];simpa using ax
   clear aZ bl ap au ar ao aD ax;go_wp2;go_ret;exact⟨rfl,b bp⟩
  obtain rfl:b5=false:=by rw[b aZ];simp
  clear aZ;have Z:=l hA;have dh:1<=x/\x<=21:=by
   cases y with
   |true=>have:=hA.yes rfl;omega
   |false=>have:=hA.no rfl;omega
  clear bl hA;go_wp2_with fail;go_loopw [5] (λbO wr=>∃a:Nat,bO=F K (a:Nat)/\1<=a/\a<=x/\Hid (G No W wr)) (λbO _=>21 - (intOf bO).toNat)
  case atStart=>exact⟨1,rfl,by omega,by omega,bp⟩
  case round=>
   obtain⟨a,rfl,dj,dl,bq⟩:=hrel;clear bp;by_cases dk:a<=20
   case neg=>
    have cU:¬((a:Int)<=20):=by omega
    obtain rfl:y=true:=by
     cases y with
     |true=>rfl
     |false=>have:=(b Z).no rfl;omega
    clear ap au ar ao aD Z;go_wp2;go_ret;exact⟨rfl,b bq⟩
   have cU:(a:Int)<=20:=by omega
   have dm:K.wrap ((a:Int)+1)=((a+1:Nat):Int):=by rw[bh _ (by omega) (by omega)];rfl
   obtain⟨c',db,dd,b9⟩:=AE I (a:Nat);obtain⟨ag,ah,cs',ca⟩:=AE fl' (a:Nat);have a0:=l λo (A:G No W o)=>En ((b ap) o A) (a:Nat);have a1:=l λo (A:G No W o)=>Gw ((b au) o A) (b ar) (a:Nat);rw[b9] at a0;rw[ca] at a1;unfold dI at a0 a1
   have aY:=l (show(I a=J->(iY I (a:Nat)).2=2)/\((∃c,I a=E c)->(iY I (a:Nat)).2=0)/\(fl' a=J->(iY fl' (a:Nat)).2=2)/\((∃c,fl' a=E c)->(iY fl' (a:Nat)).2=0) from
    ⟨H' (by omega),λ⟨c,az⟩=>Ia (by omega) az,H' (by omega),λ⟨c,az⟩=>Ia (by omega) az⟩)
   clear b9 ca;generalize (iY I (a:Nat)).2=a9 at *;generalize (iY fl' (a:Nat)).2=cI at *;go_wp2_with fail;refine((b a0) wr (b bq)).mono ?_;rintro n w3 ⟨rfl,cq⟩;have br:=l ((b bq).trans cq);clear cq a0;go_wp2_with fail;refine((b a1) _ ((b br).alloc _)).mono ?_;rintro n cx ⟨rfl,cr⟩;have bZ:=l (((b br).alloc _).trans cr);clear cr a1;go_upto_if 42 with fail
   have a3:=l ((b bZ).alloc (m #[F K (ag 0),F K (ag 1),F K (ag 2),F K (ag 3),F K (ah 0),F K (ah 1),F K (ah 2),F K (ah 3),F K (cs' 0),F K (cs' 1),F K (cs' 2),F K (cs' 3)] 91));generalize cx.alloc (m #[F K (ag 0),F K (ag 1),F K (ag 2),F K (ag 3),F K (ah 0),F K (ah 1),F K (ah 2),F K (ah 3),F K (cs' 0),F K (cs' 1),F K (cs' 2),F K (cs' 3)] 91)=bP at *;generalize c0:w3.heap.size=dB at *
   generalize c1:cx.heap.size=dD at *;clear br bZ c0 c1;by_cases aL:I a≠J/\fl' a=J
   .obtain⟨ai,r,a8,bv⟩:=b aY;obtain⟨c,az⟩:∃c,I a=E c:=Option.ne_none_iff_exists'.1 aL.1;obtain rfl:=r ⟨c,az⟩;obtain rfl:=a8 aL.2;obtain rfl:y=false:=by
     cases y with
     |false=>rfl
     |true=>
      have:=(b Z).yes rfl;have:=(b Z).same a (by omega);rw[az,aL.2] at this
      cases this
    clear ai r a8 bv aY ap au ar ao aD Z;go_wp2;go_ret;exact⟨rfl,b a3⟩
   have bC:(I a=J/\fl' a=J/\a<x)\/∃e d s ab,I a=E (e,d)/\fl' a=E (s,ab)/\(a<x->e=s/\d=ab)/\(a=x->y=false/\e.ep≠s.ep):=by
    by_cases aO:a<x
    .have cm:=(b Z).same a aO
     cases cc:I a with
     |none=>exact .inl ⟨rfl,by rw[<-cm,cc],aO⟩
     |some c=>exact .inr ⟨c.1,c.2,c.1,c.2,rfl,by rw[<-cm,cc],λ_=>⟨rfl,rfl⟩,λn=>by omega⟩
    .have ax:a=x:=by omega
     have ci:y=false:=by
      cases y with
      |false=>rfl
      |true=>have:=(b Z).yes rfl;omega
     obtain⟨_,_,aw⟩:=(b Z).no ci;rw[<-ax] at aw;obtain aw|⟨e,d,s,ab,bx,bz,cM⟩:=aw
     .exact absurd aw aL
     .exact .inr ⟨e,d,s,ab,bx,bz,λn=>by omega,λ_=>⟨ci,cM⟩⟩
   have cR:a9=cI/\(a9=0\/a9=2/\a<x)/\(a9=0->∃e d,I a=E (e,d)):=by
    obtain⟨ai,r,a8,bv⟩:=b aY;obtain⟨v,am,bw⟩|⟨e,d,s,ab,v,am,_⟩:=bC
    .rw[ai v,a8 am];exact⟨rfl,.inr ⟨rfl,bw⟩,λn=>by omega⟩
    .rw[r ⟨_,v⟩,bv ⟨_,am⟩];exact⟨rfl,.inl rfl,λ_=>⟨e,d,v⟩⟩
   obtain⟨rfl,cV,cn⟩:=cR;have bR:=l bC;have bo:=l cn;clear bC aL aY cn;obtain rfl|⟨rfl,di⟩:=cV
   case inr=>
    have b0:=l ((b a3).alloc (m #[F K 0,F K 0,F K 0] 43));clear bR bo Z ap au ar ao aD;go_wp2_with fail;go_loopw [11] (λbM aX=>bM=L false/\Hid (G No W aX)) (λ_ _=>0)
    case atStart=>exact⟨rfl,b0⟩
    case round=>
     obtain⟨rfl,cE⟩:=hrel;clear b0;go_wp2;go_roundw
     .exact⟨a+1,rfl,by omega,by omega,cE⟩
     .simp[intOf];omega
   have bU:=l (show tJ W (bP.alloc (m #[F K 0,F K 0,F K 0] 43)) bP.heap.size I a x 122 true 0 0 0 from⟨X.new _ _ _,(b a3).alloc _,(b a3).size,λn=>by
    obtain⟨e,d,M⟩:=(b bo) rfl
    have ay:=(b ao).wf _ _ _ M
    have dg:d.length<=120:=bV.wf.jO ay
    have bA:=ay.bounds
    simp only at bA
    have bE:=ay.len
    simp only at bE
    have bJ:0<d.length:=by
     have:0<e.rows* e.y:=Ew (by omega) (by omega)
     omega
    exact⟨e,d,0,M,bJ,by omega,rfl,λ_=>rfl⟩,λn=>by cases n⟩)
   clear bo;go_wp2_with fail;generalize de:bP.heap.size=av at *;go_loopg [11] 122 (λcK bM aX=>∃more c5 cF cH,bM=L more/\Hid (tJ W aX av I a x cK more c5 cF cH))
   case atStart=>exact⟨_,_,_,_,rfl,bU⟩
   case round=>
    obtain⟨more,aU,aI,aJ,rfl,aa⟩:=hrel;clear bU
    cases more with
    |false=>
     have cg:=(b aa).off rfl;have bs:=l (b aa).mod;clear aa;go_wp2;go_roundw
     .exact⟨a+1,rfl,by omega,by omega,bs⟩
     .simp[intOf];omega
    |true=>
     obtain⟨e,d,aj,M,aN,cd,ba,cf⟩:=(b aa).on rfl;have ay:=(b ao).wf _ _ _ M;obtain⟨ae,T,B,P,bI,b7,bF⟩:=H8 ay aj aN;have bg:aU=(eT e d aj).1:=by rw[<-ba]
     have bi:aI=(eT e d aj).2.1:=by rw[<-ba]
     have bk:aJ=(eT e d aj).2.2:=by rw[<-ba]
     have ck:kn I a aU aI aJ 30=⟨ae,T,B,e.ep,P,0⟩:=by rw[A6 (by omega) M,bg,bi,bk];exact bI
     have cZ:∃(af:List z) (Y H r:Int) (ad:Bool),kn fl' a aU aI aJ 30=⟨af,Y,H,r,ad,0⟩/\af.length<=30/\((af=ae/\Y=T/\H=B/\r=e.ep/\ad=P/\a<x)\/(e.ep≠r/\y=false)):=by
      obtain⟨v,_⟩|⟨dn,cp,s,ab,v,am,bw,aw⟩:=b bR
      .rw[M] at v;cases v
      .rw[M] at v;injection v with v;injection v with v cL;subst v;subst cL;by_cases aO:a<x
       .obtain⟨rfl,rfl⟩:=bw aO;exact⟨ae,T,B,e.ep,P,by rw[A6 (by omega) am,bg,bi,bk];exact bI,b7,.inl ⟨rfl,rfl,rfl,rfl,rfl,aO⟩⟩
       .obtain⟨bx,bz⟩:=aw (by omega);have bL:=(b aD).wf _ _ _ am;have bA:=bL.bounds;simp only at bA;have bE:=bL.len;simp only at bE;have bJ:0<ab.length:=by
         have:0<s.rows* s.y:=Ew (by omega) (by omega);omega
        obtain⟨cy,c6,cG,c2,cX,cO,_⟩:=H8 bL 0 bJ;obtain rfl:=cf (by omega);refine⟨cy,c6,cG,s.ep,c2,?_,cO,.inr ⟨bz,bx⟩⟩;rw[A6 (by omega) am,bg,bi,bk];exact cX
     obtain⟨af,Y,H,r,ad,cl,cP,cb⟩:=cZ;have bm:=l λo (A:G No W o)=>Gi ((b ap) o A) a aU aI aJ 30;have bn:=l λo (A:G No W o)=>Hz ((b au) o A) (b ar) a aU aI aJ 30;rw[ck] at bm;rw[cl] at bn
     have bY:=l (λ(n:P=true)=>(show ∃e d k',I a=E (e,d)/\k'<d.length/\d.length - k'<d.length - aj/\(T,B,e.ep)=eT e d k' from by
      obtain⟨aS,aT⟩:=bF n
      exact⟨e,d,aj+30,M,aS,by omega,aT.symm⟩))
     have bT:=l cd;obtain⟨aK,ce⟩:∃aK,aK=d.length - aj:=⟨_,rfl⟩;rw[<-ce] at bT
     have bY:=l (show P=true->∃s d k',I a=E (s,d)/\k'<d.length/\d.length - k'<aK/\(T,B,e.ep)=eT s d k' from λn=>by
      obtain⟨aS,aT⟩:=bF n
      exact⟨e,d,aj+30,M,aS,by omega,aT.symm⟩)
     have cA:=l cb;have bS:=l (show ae.length<=120/\af.length<=120 by omega);clear M aN cd ba cf ay bI b7 bF bg bi bk ck cl cP cb ce;generalize e.ep=ai at *;have a6:=(b aa).box.T;have a7:=(b aa).box.lt;go_wp2_with fail;refine((b bm) _ (b aa).mod).mono ?_;rintro n aW ⟨⟨dw,rfl,bb,cS⟩,cs⟩;obtain⟨aH,aP,rfl⟩:=aR bb;have cB:=l bb
     have aF:=l (((b aa).still cs).still ((G.refl No aW).alloc (m #[C aH ae.length aP,F K T,F K B,F K ai,L P] 146)));have b1:=l (((G.refl No aW).alloc (m #[C aH ae.length aP,F K T,F K B,F K ai,L P] 146)).owns bb (λ_ _ c=>c));have b2:=l (X.new aW #[C aH ae.length aP,F K T,F K B,F K ai,L P] 146);clear bb cS cs bm aa a6 a7;go_upto_region 14 with fail;generalize cW:aW.heap.size=dp at *
     generalize aW.alloc (m #[C aH ae.length aP,F K T,F K B,F K ai,L P] 146)=dA at *;clear cW cB;have a6:=(b aF).box.T;have a7:=(b aF).box.lt;go_wp2_with fail;refine((b bn) _ (b aF).mod).mono ?_;rintro n aC ⟨⟨dz,rfl,bH,cT⟩,bf⟩;obtain⟨a5,bd,rfl⟩:=aR bH;have aQ:G No aC (aC.alloc (m #[C a5 af.length bd,F K Y,F K H,F K r,L ad] 146)):=(G.refl No aC).alloc _;have a2:=l (((b aF).still bf).still aQ)
     have bt:=l (aQ.owns (bf.owns (b b1) (λ_ _ c=>c)) (λ_ _ c=>c));have bu:=l (aQ.owns bH (λ_ _ c=>c));have a4:=l (aQ.e (bf.e (b b2) (λc=>c)) (λc=>c));have aG:=l (X.new aC #[C a5 af.length bd,F K Y,F K H,F K r,L ad] 146);clear bH cT bf aQ bn aF b1 b2 a6 a7;go_upto_region 15 with fail;generalize cY:aC.heap.size=dr at *
     generalize aC.alloc (m #[C a5 af.length bd,F K Y,F K H,F K r,L ad] 146)=c9 at *;clear cY;have ct:=(b a4).T;have cu:=(b a4).lt;have cv:=(b aG).T;have cw:=(b aG).lt;obtain⟨rfl,rfl,rfl,rfl,rfl,cg⟩|⟨ax,rfl⟩:=b cA
     .have aE:=l (He (r:=Y) (c:=H) (e:=r) (more:=ad) (b bt) (b bu) (b bS).1);go_wp2_with fail;refine(b aE).mono ?_;rintro n bQ ⟨rfl,aA⟩;have ak:=l ((b a2).still aA);have b3:=l (aA.e (b aG) (λc=>c));clear aA aE ct cu cv cw a4 aG bt bu a2;have dt:=(b b3).T;have dv:=(b b3).lt;have a7:=(b ak).box.lt;have dc:=(b ak).box.aC;have a6:=(b ak).box.T
      have cD:=l (show tJ W (((bQ.setCell (u av 0 J) (F K Y)).setCell (u av 1 J) (F K H)).setCell (u av 2 J) (F K r)) av I a x aK ad Y H r from
       ⟨(((b ak).box.set 0 _).set 1 _).set 2 _,(b ak).mod.trans' ((((G.refl (λco=>co=av) bQ).at 0 _).at 1 _).at 2 _) (λco n df=>by have:=(b ak).A7;omega),(b ak).A7,λn=>by
        obtain⟨s,ab,k',aS,aT,c3,c4⟩:=(b bY) n
        exact⟨s,ab,k',aS,aT,c3,c4,λn=>by omega⟩,λ_=>cg⟩)
      go_wp2_with fail;go_roundg aK
      case measure=>exact b bT
      case rel=>exact⟨_,_,_,_,rfl,cD⟩
     .have aE:=l (Sq (w:=c9) (a1:=aH) (a2:=a5) (c1:=aP) (c2:=bd) (r1:=T) (k1:=B) (r2:=Y) (k2:=H) (m1:=P) (m2:=ad) ax (b bS));go_wp2_with fail;refine(b aE).mono ?_;rintro n bQ ⟨rfl,aA⟩;have bs:=l ((b a2).mod.trans aA);clear aA aE ct cu cv cw a4 aG bt bu a2;go_wp2;go_ret;exact⟨rfl,b bs⟩
end Go.Proofs.YthhibagcpjeihaaGreat
