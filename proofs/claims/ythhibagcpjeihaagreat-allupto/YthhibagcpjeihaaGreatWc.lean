import Derived.Test.YthhibagcpjeihaaGreatW9
open Go.Proofs.Tryz
open Go.Addr renaming mk->u
open Go.Value renaming int->F,pointer->g,slice->C,bool->L,agg->t,tuple->aq
open Go.IntKind renaming i64->K
open Option renaming none->J,some->E
open Go renaming World->U,Value->V
open Go.Proofs.Tryz renaming prog->h
open Go.Ending renaming returned->q
open Go.Obj renaming cells->m
set_option linter.unusedVariables false
set_option linter.unusedSimpArgs false
set_option maxRecDepth 100000
set_option maxHeartbeats 8000000
namespace Go.Proofs.YthhibagcpjeihaaGreat
open Go.RowKit
open M
def pd(b a c d:Nat):Bool:=decide (0<b)&&(decide (a=0)||decide (c<d))
def nT(a:Int)(b:Nat)(c:V)(all:Bool):V:=t #[F K a,F K b,c,L all]
theorem DX(n:U)(w j:Int)(c d e i p r:Nat)(a o:Option Addr)(x y:Bool):Calls h 70 #[nT w c (C a e p) x,nT j d (C o i r) y] n λz w'=>z=q (L (pd e i c d))/\G No n w':=by
 have k:=l (((G.refl No n).alloc (m #[F K w,F K c,C a e p,L x] 155)).alloc (m #[F K j,F K d,C o i r,L y] 155));unfold nT pd;by_cases A:0<e
 case neg=>
  obtain rfl:e=0:=by omega
  go_enter func70,ntmps70;go_wp2;go_ret;exact⟨rfl,b k⟩
 have H:(0:Int)<e:=by omega
 have hd:decide (0<e)=true:=by simpa using A
 rw[hd];clear hd;by_cases s:i=0
 .subst s;go_enter func70,ntmps70;go_wp2;go_ret;exact⟨rfl,b k⟩
 have I:((i:Int)==0)=false:=by simp;omega
 have hd:decide (i=0)=false:=by simpa using s
 rw[hd];clear hd;by_cases v:c<d
 .have B:(c:Int)<d:=by omega
  have hd:decide (c<d)=true:=by simpa using v
  rw[hd];clear hd;go_enter func70,ntmps70;go_wp2;go_ret;exact⟨rfl,b k⟩
 .have B:¬(c:Int)<d:=by omega
  have hd:decide (c<d)=false:=by simpa using v
  rw[hd];clear hd;go_enter func70,ntmps70;go_wp2;go_ret;exact⟨rfl,b k⟩
variable {j k I:U} {w Q P p S o:Nat} {v W:V} {N:Nat->Nat->V->U->Prop} {B:aH}
theorem pZ{b:Program}{c:Func}{post:Ending->U->Prop}{ex:Exit}{a:Act}(R:U->Prop)(d:R j)(e:∀j,R j->bodyPost b c post ex a j):bodyPost b c post ex a j:=e j d
theorem Nx{S:Nat->Prop}{tb:Nat}(Q:aS j S tb B)(d:Nat)(hi:d<4)(i:Nat)(all:Bool)(o:Nat->Nat->V->U->Prop)(ai:∀c k,G No j c->c.ownsRow 0 5 1 k (B.b d).length (dt (B.b d))->Calls h 94 #[k] c λy w'=>∃a w,y=q (aq #[C a i w,L all])/\o c.heap.size w'.heap.size (C a i w) w'/\G No c w')
  (ag:∀s r k c ad,o s r k c->G (λz=>z<s\/r<=z) c ad->o s r k ad)(ah:∀s aj r ae k c,s<=aj->ae<=r->o aj ae k c->o s r k c):Calls h 69 #[g (E (u tb 0 J)),F K d] j λy w'=>∃a w,y=q (nT d (B.b d).length (C a i w) all)/\o j.heap.size w'.heap.size (C a i w) w'/\G No j w':=by
 have R:G No j (j.alloc (m #[F K 0,F K 0,C J 0 0,L false] 155)):=(G.refl _ _).alloc _;have am:=l (X.new j #[F K 0,F K 0,C J 0 0,L false] 155);have Y:=l (za (Q.bC R) d hi);have aw:=l R;have ar:=l ag;have au:=l ah;have aA:j.heap.size+1<=(j.alloc (m #[F K 0,F K 0,C J 0 0,L false] 155)).heap.size:=by simp
 have av:=l ai;have aL:=(Q.last d hi).2;unfold nT;clear Q R ag ai ah;generalize af:(B.b d).length=O at *;have aF:=l af;clear af;go_enter func69,ntmps69;go_wp2_with fail;refine(b Y).mono ?_;rintro y N ⟨aE,rfl,P,az,M⟩;have ab:=l ((b aw).trans M);have Z:=l ((b av) N aE (b ab) P);obtain⟨aG,aI,rfl⟩:=aR P;have ao:=l (M.e (b am) (λW=>W));have aa:=l (cC aA M.size);clear P az M Y;go_wp2_with fail
 refine(b Z).mono ?_;rintro y n ⟨v,x,rfl,ak,T⟩;have e:=T.e (b ao) (λW=>W);have d0:n.cell? (u j.heap.size 0 J)=E (F K 0):=e.T 0;have d1:n.cell? (u j.heap.size 1 J)=E (F K 0):=e.T 1;have d2:n.cell? (u j.heap.size 2 J)=E (C J 0 0):=e.T 2;have d3:n.cell? (u j.heap.size 3 J)=E (L false):=e.T 3;have aJ:=e.aC;have aK:=e.lt;have ap:=l e;have ay:=l ak;have ax:=l ((b ab).trans T);clear ak T Z e;go_wp2
 refine pZ (λc=>X c j.heap.size #[F K d,F K O,C v i x,L all] 155/\o j.heap.size c.heap.size (C v i x) c/\G No j c) ?_ ?_
 .have aC:=((((b ap).set 0 (F K d)).set 1 (F K O)).set 2 (C v i x)).set 3 (L all);have H:∀(p:Nat),No ((u j.heap.size p J):Addr).block\/j.heap.size<=((u j.heap.size p J):Addr).block:=λp=>.inr (cz _);have I:∀(p:Nat),(λz=>z<N.heap.size\/n.heap.size<=z) ((u j.heap.size p J):Addr).block\/n.heap.size<=((u j.heap.size p J):Addr).block:=λp=>.inl (.inl (by show j.heap.size<N.heap.size;have:=b aa;omega))
  refine⟨aC,(b au) _ N.heap.size _ n.heap.size _ _ (by have:=b aa;omega) (by simp) ((b ar) _ _ _ _ _ (b ay) ?_),((((b ax).setCell (H 0) _).setCell (H 1) _).setCell (H 2) _).setCell (H 3) _⟩;exact((((G.refl _ n).setCell (I 0) _).setCell (I 1) _).setCell (I 2) _).setCell (I 3) _
 .intro w3 ⟨A,aD,aB⟩;have d0:w3.cell? (u j.heap.size 0 J)=E (F K d):=A.T 0;have d1:w3.cell? (u j.heap.size 1 J)=E (F K O):=A.T 1;have d2:w3.cell? (u j.heap.size 2 J)=E (C v i x):=A.T 2;have d3:w3.cell? (u j.heap.size 3 J)=E (L all):=A.T 3;refine cN (by simp[results,results69,go_sem,d0,d1,d2,d3];try rfl) rfl ?_;exact⟨v,x,rfl,aD,aB⟩
def ig(c:aH)(d e sl:Nat):Int×aH:=
 let a:=if 0<e then gS c d else(true,c)
 if a.1=false then(16,a.2)
 else
  let b:=if 0<sl then fO a.2 (1 - d) else(true,a.2)
  if b.1=false then(16,b.2) else(0,b.2)
structure iv (w wx:U) (S:Nat->Prop) (tb rb kb lb i j sk sl nk:Nat) (vk vl:V) (alk all:Bool) (T:aH) (Q:Nat->Nat->V->U->Prop):Prop where
 res:X wx rb #[g J,F K 0,L false] 110
 kept:X wx kb #[F K i,F K sk,vk,L alk] 155
 left:X wx lb #[F K j,F K sl,vl,L all] 155
 tape:aS wx S tb T
 q:Q (w.heap.size+1) kb vk wx
 mod:G S w wx
 ge:rb=w.heap.size/\w.heap.size<kb/\kb<lb
theorem X.DY(c:U)(d:Obj)(b:Array V)(a:TypeId):X ((c.alloc d).alloc (m b a)) (c.heap.size+1) b a:=by
 have:=X.new (c.alloc d) b a;rw[bW] at this;exact this
theorem iv.wR{S:Nat->Prop}{tb ab n1:Nat}{n e:Bool}(Z:∀i b r l y,N i b r l->G (λd=>d<i\/b<=d) l y->N i b r y)(ae:∀i H b z r l,i<=H->z<=b->N H z r l->N i b r l)(b:iv j k S tb w Q P 0 1 p o ab v W n e B N)(A:¬S Q/\¬S P)(aa:N (j.heap.size+1) Q W k):iv j ((((((((k.setCell (u Q 0 J) (F K (1:Nat))).setCell (u Q 1 J) (F K o)).setCell (u Q 2 J) W).setCell (u Q 3 J) (L e)).setCell (u P 0 J) (F K (0:Nat))).setCell (u P 1 J) (F K p)).setCell (u P 2 J) v).setCell (u P 3 J) (L n)) S tb w Q P 1 0 o p n1 W v e n B N:=by
 obtain⟨I,M,O,T,ad,X,Y⟩:=b;have x:G (λd=>d=Q\/d=P) k ((((((((k.setCell (u Q 0 J) (F K (1:Nat))).setCell (u Q 1 J) (F K o)).setCell (u Q 2 J) W).setCell (u Q 3 J) (L e)).setCell (u P 0 J) (F K (0:Nat))).setCell (u P 1 J) (F K p)).setCell (u P 2 J) v).setCell (u P 3 J) (L n)):=
  ((((((((G.refl _ k).setCell (p:=u Q 0 J) (.inl (.inl rfl)) _).setCell (p:=u Q 1 J) (.inl (.inl rfl)) _).setCell (p:=u Q 2 J) (.inl (.inl rfl)) _).setCell (p:=u Q 3 J) (.inl (.inl rfl)) _).setCell (p:=u P 0 J) (.inl (.inr rfl)) _).setCell (p:=u P 1 J) (.inl (.inr rfl)) _).setCell (p:=u P 2 J) (.inl (.inr rfl)) _).setCell (p:=u P 3 J) (.inl (.inr rfl)) _
 have c:Q≠P:=by omega
 refine⟨x.e I (by rintro(a|a)<;>omega),?_,?_,T.mod x (λd s=>by rintro(a|a);exact A.1 (a ▸ s);exact A.2 (a ▸ s)),Z _ _ _ _ _ aa (x.mono (λd _ a=>by obtain a|a:=a;exact .inr (by omega);exact .inr (by omega))),X.trans' x (λd s af=>by obtain a|a:=s<;>omega),Y⟩
 .have:=((((M.set 0 (F K (1:Nat))).set 1 (F K o)).set 2 W).set 3 (L e));exact(((this.eJ (a:=u P 0 J) c _).eJ (a:=u P 1 J) c _).eJ (a:=u P 2 J) c _).eJ (a:=u P 3 J) c _
 .have R:=(((O.eJ (a:=u Q 0 J) c.symm (F K (1:Nat))).eJ (a:=u Q 1 J) c.symm (F K o)).eJ (a:=u Q 2 J) c.symm W).eJ (a:=u Q 3 J) c.symm (L e);exact(((R.set 0 (F K (0:Nat))).set 1 (F K p)).set 2 v).set 3 (L n)
theorem iv.still{x:U}{S:Nat->Prop}{tb j sl r:Nat}{l all:Bool}(a:iv k I S tb w Q P p j o sl r v W l all B N)(y:∀d a s e i,N d a s e->G (λn=>n<d\/a<=n) e i->N d a s i)(c:G No I x):iv k x S tb w Q P p j o sl r v W l all B N:=
 ⟨c.e a.res (λb=>b),c.e a.kept (λb=>b),c.e a.left (λb=>b),a.tape.bC c,y _ _ _ _ _ a.q (c.mono (λ_ _ b=>b.elim)),a.mod.trans (c.mono (λ_ _ b=>b.elim)),a.ge⟩
theorem iv.turn{e:U}{S:Nat->Prop}{tb j sl y:Nat}{r all:Bool}{i:aH}(b:iv k I S tb w Q P p j o sl y v W r all B N)(Y:∀d b z l n,N d b z l->G (λa=>a<d\/b<=a) l n->N d b z n)(hS:∀a,S a->a<k.heap.size)(Z:aS e S tb i)(c:G (λa=>a=tb) I e):iv k e S tb w Q P p j o sl y v W r all i N:=by
 obtain⟨A,H,M,O,R,T,X⟩:=b;have x:=O.dq;have aa:=hS _ x;exact⟨c.e A (by omega),c.e H (by omega),c.e M (by omega),Z,Y _ _ _ _ _ R (c.mono (λa _ s=>.inl (by omega))),T.trans (c.mono (λa _ s=>by rw[s];exact x)),X⟩
theorem iv.fin{S:Nat->Prop}{tb j sl ab:Nat}{ad x y z:V}{s all:Bool}(T:∀l b v c e,N l b v c->G (λa=>a<l\/b<=a) c e->N l b v e)(Y:∀l r b n v c,l<=r->n<=b->N r n v c->N l b v c)(b:iv k I S tb w Q P p j o sl ab W ad s all B N)(hS:∀a,S a->a<k.heap.size):X (((I.setCell (u w 0 J) x).setCell (u w 1 J) y).setCell (u w 2 J) z) w #[x,y,z] 110/\aS (((I.setCell (u w 0 J) x).setCell (u w 1 J) y).setCell (u w 2 J) z) S tb B/\
   G S k (((I.setCell (u w 0 J) x).setCell (u w 1 J) y).setCell (u w 2 J) z)/\N k.heap.size (((I.setCell (u w 0 J) x).setCell (u w 1 J) y).setCell (u w 2 J) z).heap.size W (((I.setCell (u w 0 J) x).setCell (u w 1 J) y).setCell (u w 2 J) z):=by
 obtain⟨A,H,ae,M,O,R,af,ag,ah⟩:=b;have d:G (λa=>a=w) I (((I.setCell (u w 0 J) x).setCell (u w 1 J) y).setCell (u w 2 J) z):=(((G.refl _ I).at 0 x).at 1 y).at 2 z;have aa:=H.lt;refine⟨((A.set 0 x).set 1 y).set 2 z,M.mod d (λa Z i=>by have:=hS a Z;omega),R.trans' d (λa i aa=>by omega),Y _ _ _ _ _ _ (by omega) (by simp only[ny];omega) (T _ _ _ _ _ O (d.mono (λa _ i=>.inl (by omega))))⟩
theorem X.pf{b:Array V}{a:TypeId}(c:X j w b a):X j.drew w b a:=c
theorem aS.pf{S:Nat->Prop}{tb:Nat}(a:aS j S tb B):aS j.drew S tb B:=a.bC (G.refl No j).drew
theorem DZ{S:Nat->Prop}{tb:Nat}(bR:aS j S tb B)(hS:∀a3,S a3->a3<j.heap.size)(ax ay ap aw:Nat)(aE aF aQ:Bool)(k y o H:Nat)(al:Bool)(am:Nat->Nat->V->U->Prop)(bI:∀i,G No j i->Calls h 69 #[g (E (u tb 0 J)),F K 0] i λr w'=>∃a v,r=q (nT 0 ax (C a ap v) aE)/\am i.heap.size w'.heap.size (C a ap v) w'/\G No i w')
  (bJ:∀i,G No j i->Calls h 69 #[g (E (u tb 0 J)),F K 1] i λr w'=>∃a v,r=q (nT 1 ay (C a aw v) aF)/\am i.heap.size w'.heap.size (C a aw v) w'/\G No i w')(bM:∀o aX aP i bE,am o aX aP i->G (λa3=>a3<o\/aX<=a3) i bE->am o aX aP bE)(bO:∀o bS aX bH aP i,o<=bS->bH<=aX->am bS bH aP i->am o aX aP i)(bP:pd aw ap ay ax=aQ)
  (bL:aQ=false/\k=0/\y=ax/\o=ay/\H=ap/\al=aE\/aQ=true/\k=1/\y=ay/\o=ax/\H=aw/\al=aF):Calls h 43 #[g (E (u tb 0 J))] j λr w'=>aS w' S tb (ig B k y o).2/\G S j w'/\((ig B k y o).1=0->∃a v,r=q (aq #[t #[g (E (u tb 0 J)),F K (k:Nat),L (!al)],C a H v,F K 0])/\am j.heap.size w'.heap.size (C a H v) w')/\
   ((ig B k y o).1≠0->r=q (aq #[t #[g J,F K 0,L false],C J 0 0,F K 16])):=by
 have bm:G No j (j.alloc (m #[g J,F K 0,L false] 110)):=(G.refl _ _).alloc _;have bt:=l (bI _ bm);have aZ:=l bJ;have bp:=l (X.new j #[g J,F K 0,L false] 110);have bw:=l bm;have bv:=l bR;have br:=l bP;have bs:=l bL;have A:=l bM;have aD:=l bO;have ab:=l hS;have bV:=l λi (b0 b1:Int) (y b3 H b2 v bX:Nat) (a aQ:Option Addr) (I b6:Bool)=>DX i b0 b1 y b3 H b2 v bX a aQ I b6;unfold nT at *
 clear bI bJ bm bR bM bO hS bP bL;go_enter func43,ntmps43;go_wp2_with fail;refine(b bt).mono ?_;rintro r b4 ⟨aK,aN,rfl,bT,a8⟩;have ba:=l ((b bw).trans a8);have bx:=l a8;have aZ:=l ((b aZ) b4 (b ba));have bq:=l (a8.e (b bp) (λI=>I));have bz:=l bT;clear bT a8 bt bp;go_wp2_with fail;refine(b aZ).mono ?_;rintro r az ⟨aL,aO,rfl,bU,a9⟩;have bb:=l ((b ba).trans a9);have a5:=l (a9.e (b bq) (λI=>I))
 have bA:=l bU;have bc:=l a9;clear bU a9 aZ bq;go_upto_region 2 with fail;have aY:G No az ((az.alloc (m #[F K 0,F K ax,C aK ap aN,L aE] 155)).alloc (m #[F K 1,F K ay,C aL aw aO,L aF] 155)):=((G.refl _ az).alloc _).alloc _
 have ad:=l (show iv j ((az.alloc (m #[F K 0,F K ax,C aK ap aN,L aE] 155)).alloc (m #[F K 1,F K ay,C aL aw aO,L aF] 155)) S tb j.heap.size az.heap.size (az.heap.size+1) 0 1 ax ay ap (C aK ap aN) (C aL aw aO) aE aF B am from
  ⟨aY.e (b a5) (λI=>I),(X.new az _ _).alloc _,X.DY _ _ _ _,(b bv).bC ((b bb).trans aY),(b aD) _ _ _ _ _ _ (Nat.le_of_eq (bW _ _).symm) (b bc).size ((b A) _ _ _ _ _ (b bz) (((b bc).trans aY).mono (λ_ _ I=>I.elim))),((b bb).trans aY).mono (λ_ _ I=>I.elim),rfl,(b a5).lt,KQ _⟩)
 have bB:=l ((b aD) (j.heap.size+1) _ az.heap.size _ _ _ (cC (Nat.le_of_eq (bW _ _).symm) (b bx).size) (cz _) ((b A) _ _ _ _ _ (b bA) (aY.mono (λ_ _ I=>I.elim))));have LT:=l (show j.heap.size<az.heap.size from(b a5).lt);clear aY;generalize (az.alloc (m #[F K 0,F K ax,C aK ap aN,L aE] 155)).alloc (m #[F K 1,F K ay,C aL aw aO,L aF] 155)=w3 at *;generalize az.heap.size+1=s at *
 generalize bY:az.heap.size=d at *;clear bY bb bc bA bz a5 ba bw bx;have N:w3.cell? (u d 0 J)=E (F K 0):=(b ad).kept.T 0;have O:w3.cell? (u d 1 J)=E (F K ax):=(b ad).kept.T 1;have P:w3.cell? (u d 2 J)=E (C aK ap aN):=(b ad).kept.T 2;have Q:w3.cell? (u d 3 J)=E (L aE):=(b ad).kept.T 3;have T:w3.cell? (u s 0 J)=E (F K 1):=(b ad).left.T 0;have W:w3.cell? (u s 1 J)=E (F K ay):=(b ad).left.T 1
 have bi:w3.cell? (u s 2 J)=E (C aL aw aO):=(b ad).left.T 2;have bk:w3.cell? (u s 3 J)=E (L aF):=(b ad).left.T 3;have bh:=(b ad).kept.aC;have bl:=(b ad).left.aC;have R:=(b ad).kept.lt;have Y:=(b ad).left.lt;have a6:=l (DX w3 1 0 ay ax aw ap aO aN aL aK aF aE);unfold nT at a6;rw[b br] at a6;go_wp2_with fail;refine(b a6).mono ?_;rintro r aC ⟨rfl,bn⟩;have Z:=l ((b ad).still (b A) bn)
 have bC:=l ((b A) _ _ _ _ _ (b bB) (bn.mono (λ_ _ I=>I.elim)));clear N O P Q T W bi bk bh bl R Y bn ad bB a6;have N:aC.cell? (u d 0 J)=E (F K 0):=(b Z).kept.T 0;have O:aC.cell? (u d 1 J)=E (F K ax):=(b Z).kept.T 1;have P:aC.cell? (u d 2 J)=E (C aK ap aN):=(b Z).kept.T 2;have Q:aC.cell? (u d 3 J)=E (L aE):=(b Z).kept.T 3;have T:aC.cell? (u s 0 J)=E (F K 1):=(b Z).left.T 0
 have W:aC.cell? (u s 1 J)=E (F K ay):=(b Z).left.T 1;have bi:aC.cell? (u s 2 J)=E (C aL aw aO):=(b Z).left.T 2;have bk:aC.cell? (u s 3 J)=E (L aF):=(b Z).left.T 3;have bh:=(b Z).kept.aC;have bl:=(b Z).left.aC;have R:=(b Z).kept.lt;have Y:=(b Z).left.lt;have b9:d≠s:=by have:=(b Z).ge;omega
 have bu:Hid (∃(aa:Nat) (a:Option Addr) (v:Nat) (aP:V) (bF:Bool) (w:U),k<2/\aa<2/\aa=1 - k/\iv j w S tb j.heap.size d s k aa y o H (C a H v) aP al bF B am/\w=(if aQ then((((((((aC.setCell (u d 0 J) (F K 1)).setCell (u d 1 J) (F K ay)).setCell (u d 2 J) (C aL aw aO)).setCell (u d 3 J) (L aF)).setCell (u s 0 J) (F K 0)).setCell (u s 1 J) (F K ax)).setCell (u s 2 J) (C aK ap aN)).setCell (u s 3 J) (L aE)) else aC)):=by
  obtain⟨rfl,rfl,rfl,rfl,rfl,rfl⟩|⟨rfl,rfl,rfl,rfl,rfl,rfl⟩:=b bs
  .exact l ⟨1,aK,aN,_,_,aC,by omega,by omega,rfl,b Z,rfl⟩
  .have e:=iv.wR (n1:=H) (b A) (b aD) (b Z) (by
    have bQ:=b ab
    have:=(b Z).ge
    exact⟨λr=>by have:=bQ _ r;omega,λr=>by have:=bQ _ r;omega⟩) (b bC)
   rw[show((1:Nat):Int)=1 from rfl,show((0:Nat):Int)=0 from rfl] at e;exact l ⟨0,aL,aO,_,_,_,by omega,by omega,rfl,e,rfl⟩
 clear Z bC bv aZ bV bs
 cases aQ
 all_goals go_upto_region 4 with fail
 all_goals clear N O P Q T W bi bk bh bl R Y
 all_goals obtain⟨aa,a,v,aP,bF,w,b7,b8,aI,e,bf⟩:=b bu
 all_goals simp only[iP,jQ,mg] at bf
 all_goals (rw[<-bf])
 all_goals replace e:=l e
 all_goals replace aI:=l aI
 all_goals clear bu bf br
 all_goals (
  by_cases aR:0<y
  .have bZ:(y:Int)>0:=by omega
   have a0:=l (yZ (b e).tape k (by omega))
   obtain⟨b5,bg⟩:∃I,gS B k=I:=⟨_,rfl⟩
   rw[bg] at a0
   obtain⟨d1,a2⟩:=b5
   have a7:=l bg
   clear bg
   cases d1 with
   |true=>
    have N:w.cell? (u d 0 J)=E (F K k):=(b e).kept.T 0
    have O:w.cell? (u d 1 J)=E (F K y):=(b e).kept.T 1
    have P:w.cell? (u d 2 J)=E (C a H v):=(b e).kept.T 2
    have Q:w.cell? (u d 3 J)=E (L al):=(b e).kept.T 3
    have T:w.cell? (u s 0 J)=E (F K aa):=(b e).left.T 0
    have W:w.cell? (u s 1 J)=E (F K o):=(b e).left.T 1
    have R:=(b e).kept.lt
    have Y:=(b e).left.lt
    have af:w.cell? (u j.heap.size 0 J)=E (g J):=(b e).res.T 0
    have ag:w.cell? (u j.heap.size 1 J)=E (F K 0):=(b e).res.T 1
    have ah:w.cell? (u j.heap.size 2 J)=E (L false):=(b e).res.T 2
    have ai:=(b e).res.aC
    have aj:=(b e).res.lt
    have ae:d≠j.heap.size:=by have:=(b e).ge;omega
    go_wp2_with fail
    refine(b a0).mono ?_
    rintro r M ⟨rfl,t6,a4⟩
    have p:=l ((b e).turn (b A) (b ab) t6 a4)
    clear N O P Q T W R Y af ag ah ai aj ae t6 a4 a0
    have N:M.cell? (u d 0 J)=E (F K k):=(b p).kept.T 0
    have O:M.cell? (u d 1 J)=E (F K y):=(b p).kept.T 1
    have P:M.cell? (u d 2 J)=E (C a H v):=(b p).kept.T 2
    have Q:M.cell? (u d 3 J)=E (L al):=(b p).kept.T 3
    have T:M.cell? (u s 0 J)=E (F K aa):=(b p).left.T 0
    have W:M.cell? (u s 1 J)=E (F K o):=(b p).left.T 1
    have R:=(b p).kept.lt
    have Y:=(b p).left.lt
    have af:M.cell? (u j.heap.size 0 J)=E (g J):=(b p).res.T 0
    have ag:M.cell? (u j.heap.size 1 J)=E (F K 0):=(b p).res.T 1
    have ah:M.cell? (u j.heap.size 2 J)=E (L false):=(b p).res.T 2
    have ai:=(b p).res.aC
    have aj:=(b p).res.lt
    have ae:d≠j.heap.size:=by have:=(b p).ge;omega
    by_cases aT:0<o
    .have bd:(o:Int)>0:=by omega
     have aA:=l (wm (b p).tape aa (by omega))
     obtain⟨bo,aU⟩:∃I,fO a2 aa=I:=⟨_,rfl⟩
     rw[aU] at aA
     obtain⟨d2,aJ⟩:=bo
     have a1:=l aU
     clear aU
     cases d2 with
     |true=>
      go_wp2_with fail
      refine(b aA).mono ?_
      rintro r n ⟨rfl,t8,aB⟩
      have c:=l ((b p).turn (b A) (b ab) t8 aB)
      clear N O P Q T W R Y af ag ah ai aj ae t8 aB aA
      have N:n.cell? (u d 0 J)=E (F K k):=(b c).kept.T 0
      have O:n.cell? (u d 1 J)=E (F K y):=(b c).kept.T 1
      have P:n.cell? (u d 2 J)=E (C a H v):=(b c).kept.T 2
      have Q:n.cell? (u d 3 J)=E (L al):=(b c).kept.T 3
      have T:n.cell? (u s 0 J)=E (F K aa):=(b c).left.T 0
      have W:n.cell? (u s 1 J)=E (F K o):=(b c).left.T 1
      have R:=(b c).kept.lt
      have Y:=(b c).left.lt
      have af:n.cell? (u j.heap.size 0 J)=E (g J):=(b c).res.T 0
      have ag:n.cell? (u j.heap.size 1 J)=E (F K 0):=(b c).res.T 1
      have ah:n.cell? (u j.heap.size 2 J)=E (L false):=(b c).res.T 2
      have ai:=(b c).res.aC
      have aj:=(b c).res.lt
      have ae:d≠j.heap.size:=by have:=(b c).ge;omega
      have ak:=l (show ig B k y o=(0,aJ) from by unfold ig;simp[aR,b a7,aT,b a1,<-b aI])
      go_wp2_with fail
      go_region
      all_goals go_wp2
      all_goals
       obtain⟨ar,au,av,aG⟩:=iv.fin (x:=g (E (u tb 0 J))) (y:=F K k) (z:=L (!al)) (b A) (b aD) (b c) (b ab)
       refine pZ (λi=>X i j.heap.size #[g (E (u tb 0 J)),F K k,L (!al)] 110/\aS i S tb aJ/\G S j i/\am j.heap.size i.heap.size (C a H v) i) ⟨ar.pf,au.pf,av.drew,(b A) _ _ _ _ _ aG (G.refl _ _).drew⟩ ?_
       rintro z ⟨x,t7,ao,aW⟩
       have d0:z.cell? (u j.heap.size 0 J)=E (g (E (u tb 0 J))):=x.T 0
       have d1:z.cell? (u j.heap.size 1 J)=E (F K k):=x.T 1
       have d2:z.cell? (u j.heap.size 2 J)=E (L (!al)):=x.T 2
       refine cN (by simp[results,results43,go_sem,d0,d1,d2];try rfl) rfl ?_
       rw[b ak]
       exact⟨t7,ao,λ_=>⟨a,v,rfl,aW⟩,λr=>absurd rfl r⟩
     |false=>
      go_wp2_with fail
      refine(b aA).mono ?_
      rintro r n ⟨rfl,t8,aB⟩
      have c:=l ((b p).turn (b A) (b ab) t8 aB)
      clear N O P Q T W R Y af ag ah ai aj ae t8 aB aA
      have N:n.cell? (u d 0 J)=E (F K k):=(b c).kept.T 0
      have O:n.cell? (u d 1 J)=E (F K y):=(b c).kept.T 1
      have P:n.cell? (u d 2 J)=E (C a H v):=(b c).kept.T 2
      have Q:n.cell? (u d 3 J)=E (L al):=(b c).kept.T 3
      have T:n.cell? (u s 0 J)=E (F K aa):=(b c).left.T 0
      have W:n.cell? (u s 1 J)=E (F K o):=(b c).left.T 1
      have R:=(b c).kept.lt
      have Y:=(b c).left.lt
      have af:n.cell? (u j.heap.size 0 J)=E (g J):=(b c).res.T 0
      have ag:n.cell? (u j.heap.size 1 J)=E (F K 0):=(b c).res.T 1
      have ah:n.cell? (u j.heap.size 2 J)=E (L false):=(b c).res.T 2
      have ai:=(b c).res.aC
      have aj:=(b c).res.lt
      have ae:d≠j.heap.size:=by have:=(b c).ge;omega
      have ak:=l (show ig B k y o=(16,aJ) from by unfold ig;simp[aR,b a7,aT,b a1,<-b aI])
      go_wp2
      obtain⟨ar,au,av,aG⟩:=iv.fin (x:=g J) (y:=F K 0) (z:=L false) (b A) (b aD) (b c) (b ab)
      refine pZ (λi=>X i j.heap.size #[g J,F K 0,L false] 110/\aS i S tb aJ/\G S j i) ⟨ar,au,av⟩ ?_
      rintro z ⟨x,t7,ao⟩
      have d0:z.cell? (u j.heap.size 0 J)=E (g J):=x.T 0
      have d1:z.cell? (u j.heap.size 1 J)=E (F K 0):=x.T 1
      have d2:z.cell? (u j.heap.size 2 J)=E (L false):=x.T 2
      refine cN (by simp[results,results43,go_sem,d0,d1,d2];try rfl) rfl ?_
      rw[b ak]
      exact⟨t7,ao,λr=>absurd r (by show ¬(16:Int)=0;omega),λ_=>rfl⟩
    .have bd:¬(o:Int)>0:=by omega
     have ak:=l (show ig B k y o=(0,a2) from by unfold ig;simp[aR,b a7,aT,<-b aI])
     go_wp2_with fail
     go_region
     all_goals go_wp2
     all_goals
      obtain⟨ar,au,av,aG⟩:=iv.fin (x:=g (E (u tb 0 J))) (y:=F K k) (z:=L (!al)) (b A) (b aD) (b p) (b ab)
      refine pZ (λi=>X i j.heap.size #[g (E (u tb 0 J)),F K k,L (!al)] 110/\aS i S tb a2/\G S j i/\am j.heap.size i.heap.size (C a H v) i) ⟨ar.pf,au.pf,av.drew,(b A) _ _ _ _ _ aG (G.refl _ _).drew⟩ ?_
      rintro z ⟨x,t7,ao,aW⟩
      have d0:z.cell? (u j.heap.size 0 J)=E (g (E (u tb 0 J))):=x.T 0
      have d1:z.cell? (u j.heap.size 1 J)=E (F K k):=x.T 1
      have d2:z.cell? (u j.heap.size 2 J)=E (L (!al)):=x.T 2
      refine cN (by simp[results,results43,go_sem,d0,d1,d2];try rfl) rfl ?_
      rw[b ak]
      exact⟨t7,ao,λ_=>⟨a,v,rfl,aW⟩,λr=>absurd rfl r⟩
   |false=>
    have N:w.cell? (u d 0 J)=E (F K k):=(b e).kept.T 0
    have O:w.cell? (u d 1 J)=E (F K y):=(b e).kept.T 1
    have P:w.cell? (u d 2 J)=E (C a H v):=(b e).kept.T 2
    have Q:w.cell? (u d 3 J)=E (L al):=(b e).kept.T 3
    have T:w.cell? (u s 0 J)=E (F K aa):=(b e).left.T 0
    have W:w.cell? (u s 1 J)=E (F K o):=(b e).left.T 1
    have R:=(b e).kept.lt
    have Y:=(b e).left.lt
    have af:w.cell? (u j.heap.size 0 J)=E (g J):=(b e).res.T 0
    have ag:w.cell? (u j.heap.size 1 J)=E (F K 0):=(b e).res.T 1
    have ah:w.cell? (u j.heap.size 2 J)=E (L false):=(b e).res.T 2
    have ai:=(b e).res.aC
    have aj:=(b e).res.lt
    have ae:d≠j.heap.size:=by have:=(b e).ge;omega
    go_wp2_with fail
    refine(b a0).mono ?_
    rintro r M ⟨rfl,t6,a4⟩
    have p:=l ((b e).turn (b A) (b ab) t6 a4)
    clear N O P Q T W R Y af ag ah ai aj ae t6 a4 a0
    have N:M.cell? (u d 0 J)=E (F K k):=(b p).kept.T 0
    have O:M.cell? (u d 1 J)=E (F K y):=(b p).kept.T 1
    have P:M.cell? (u d 2 J)=E (C a H v):=(b p).kept.T 2
    have Q:M.cell? (u d 3 J)=E (L al):=(b p).kept.T 3
    have T:M.cell? (u s 0 J)=E (F K aa):=(b p).left.T 0
    have W:M.cell? (u s 1 J)=E (F K o):=(b p).left.T 1
    have R:=(b p).kept.lt
    have Y:=(b p).left.lt
    have af:M.cell? (u j.heap.size 0 J)=E (g J):=(b p).res.T 0
    have ag:M.cell? (u j.heap.size 1 J)=E (F K 0):=(b p).res.T 1
    have ah:M.cell? (u j.heap.size 2 J)=E (L false):=(b p).res.T 2
    have ai:=(b p).res.aC
    have aj:=(b p).res.lt
    have ae:d≠j.heap.size:=by have:=(b p).ge;omega
    have ak:=l (show ig B k y o=(16,a2) from by unfold ig;simp[aR,b a7,<-b aI])
    go_wp2
    obtain⟨ar,au,av,aG⟩:=iv.fin (x:=g J) (y:=F K 0) (z:=L false) (b A) (b aD) (b p) (b ab)
    refine pZ (λi=>X i j.heap.size #[g J,F K 0,L false] 110/\aS i S tb a2/\G S j i) ⟨ar,au,av⟩ ?_
    rintro z ⟨x,t7,ao⟩
    have d0:z.cell? (u j.heap.size 0 J)=E (g J):=x.T 0
    have d1:z.cell? (u j.heap.size 1 J)=E (F K 0):=x.T 1
    have d2:z.cell? (u j.heap.size 2 J)=E (L false):=x.T 2
    refine cN (by simp[results,results43,go_sem,d0,d1,d2];try rfl) rfl ?_
    rw[b ak]
    exact⟨t7,ao,λr=>absurd r (by show ¬(16:Int)=0;omega),λ_=>rfl⟩
  .have bZ:¬(y:Int)>0:=by omega
   have N:w.cell? (u d 0 J)=E (F K k):=(b e).kept.T 0
   have O:w.cell? (u d 1 J)=E (F K y):=(b e).kept.T 1
   have P:w.cell? (u d 2 J)=E (C a H v):=(b e).kept.T 2
   have Q:w.cell? (u d 3 J)=E (L al):=(b e).kept.T 3
   have T:w.cell? (u s 0 J)=E (F K aa):=(b e).left.T 0
   have W:w.cell? (u s 1 J)=E (F K o):=(b e).left.T 1
   have R:=(b e).kept.lt
   have Y:=(b e).left.lt
   have af:w.cell? (u j.heap.size 0 J)=E (g J):=(b e).res.T 0
   have ag:w.cell? (u j.heap.size 1 J)=E (F K 0):=(b e).res.T 1
   have ah:w.cell? (u j.heap.size 2 J)=E (L false):=(b e).res.T 2
   have ai:=(b e).res.aC
   have aj:=(b e).res.lt
   have ae:d≠j.heap.size:=by have:=(b e).ge;omega
   by_cases aT:0<o
   .have bd:(o:Int)>0:=by omega
    have aA:=l (wm (b e).tape aa (by omega))
    obtain⟨bo,aU⟩:∃I,fO B aa=I:=⟨_,rfl⟩
    rw[aU] at aA
    obtain⟨d2,aJ⟩:=bo
    have a1:=l aU
    clear aU
    cases d2 with
    |true=>
     go_wp2_with fail
     refine(b aA).mono ?_
     rintro r n ⟨rfl,t8,aB⟩
     have c:=l ((b e).turn (b A) (b ab) t8 aB)
     clear N O P Q T W R Y af ag ah ai aj ae t8 aB aA
     have N:n.cell? (u d 0 J)=E (F K k):=(b c).kept.T 0
     have O:n.cell? (u d 1 J)=E (F K y):=(b c).kept.T 1
     have P:n.cell? (u d 2 J)=E (C a H v):=(b c).kept.T 2
     have Q:n.cell? (u d 3 J)=E (L al):=(b c).kept.T 3
     have T:n.cell? (u s 0 J)=E (F K aa):=(b c).left.T 0
     have W:n.cell? (u s 1 J)=E (F K o):=(b c).left.T 1
     have R:=(b c).kept.lt
     have Y:=(b c).left.lt
     have af:n.cell? (u j.heap.size 0 J)=E (g J):=(b c).res.T 0
     have ag:n.cell? (u j.heap.size 1 J)=E (F K 0):=(b c).res.T 1
     have ah:n.cell? (u j.heap.size 2 J)=E (L false):=(b c).res.T 2
     have ai:=(b c).res.aC
     have aj:=(b c).res.lt
     have ae:d≠j.heap.size:=by have:=(b c).ge;omega
     have ak:=l (show ig B k y o=(0,aJ) from by unfold ig;simp[aR,aT,b a1,<-b aI])
     go_wp2_with fail
     go_region
     all_goals go_wp2
     all_goals
      obtain⟨ar,au,av,aG⟩:=iv.fin (x:=g (E (u tb 0 J))) (y:=F K k) (z:=L (!al)) (b A) (b aD) (b c) (b ab)
      refine pZ (λi=>X i j.heap.size #[g (E (u tb 0 J)),F K k,L (!al)] 110/\aS i S tb aJ/\G S j i/\am j.heap.size i.heap.size (C a H v) i) ⟨ar.pf,au.pf,av.drew,(b A) _ _ _ _ _ aG (G.refl _ _).drew⟩ ?_
      rintro z ⟨x,t7,ao,aW⟩
      have d0:z.cell? (u j.heap.size 0 J)=E (g (E (u tb 0 J))):=x.T 0
      have d1:z.cell? (u j.heap.size 1 J)=E (F K k):=x.T 1
      have d2:z.cell? (u j.heap.size 2 J)=E (L (!al)):=x.T 2
      refine cN (by simp[results,results43,go_sem,d0,d1,d2];try rfl) rfl ?_
      rw[b ak]
      exact⟨t7,ao,λ_=>⟨a,v,rfl,aW⟩,λr=>absurd rfl r⟩
    |false=>
     go_wp2_with fail
     refine(b aA).mono ?_
     rintro r n ⟨rfl,t8,aB⟩
     have c:=l ((b e).turn (b A) (b ab) t8 aB)
     clear N O P Q T W R Y af ag ah ai aj ae t8 aB aA
     have N:n.cell? (u d 0 J)=E (F K k):=(b c).kept.T 0
     have O:n.cell? (u d 1 J)=E (F K y):=(b c).kept.T 1
     have P:n.cell? (u d 2 J)=E (C a H v):=(b c).kept.T 2
     have Q:n.cell? (u d 3 J)=E (L al):=(b c).kept.T 3
     have T:n.cell? (u s 0 J)=E (F K aa):=(b c).left.T 0
     have W:n.cell? (u s 1 J)=E (F K o):=(b c).left.T 1
     have R:=(b c).kept.lt
     have Y:=(b c).left.lt
     have af:n.cell? (u j.heap.size 0 J)=E (g J):=(b c).res.T 0
     have ag:n.cell? (u j.heap.size 1 J)=E (F K 0):=(b c).res.T 1
     have ah:n.cell? (u j.heap.size 2 J)=E (L false):=(b c).res.T 2
     have ai:=(b c).res.aC
     have aj:=(b c).res.lt
     have ae:d≠j.heap.size:=by have:=(b c).ge;omega
     have ak:=l (show ig B k y o=(16,aJ) from by unfold ig;simp[aR,aT,b a1,<-b aI])
     go_wp2
     obtain⟨ar,au,av,aG⟩:=iv.fin (x:=g J) (y:=F K 0) (z:=L false) (b A) (b aD) (b c) (b ab)
     refine pZ (λi=>X i j.heap.size #[g J,F K 0,L false] 110/\aS i S tb aJ/\G S j i) ⟨ar,au,av⟩ ?_
     rintro z ⟨x,t7,ao⟩
     have d0:z.cell? (u j.heap.size 0 J)=E (g J):=x.T 0
     have d1:z.cell? (u j.heap.size 1 J)=E (F K 0):=x.T 1
     have d2:z.cell? (u j.heap.size 2 J)=E (L false):=x.T 2
     refine cN (by simp[results,results43,go_sem,d0,d1,d2];try rfl) rfl ?_
     rw[b ak]
     exact⟨t7,ao,λr=>absurd r (by show ¬(16:Int)=0;omega),λ_=>rfl⟩
   .have bd:¬(o:Int)>0:=by omega
    have ak:=l (show ig B k y o=(0,B) from by unfold ig;simp[aR,aT,<-b aI])
    go_wp2_with fail
    go_region
    all_goals go_wp2
    all_goals
     obtain⟨ar,au,av,aG⟩:=iv.fin (x:=g (E (u tb 0 J))) (y:=F K k) (z:=L (!al)) (b A) (b aD) (b e) (b ab)
     refine pZ (λi=>X i j.heap.size #[g (E (u tb 0 J)),F K k,L (!al)] 110/\aS i S tb B/\G S j i/\am j.heap.size i.heap.size (C a H v) i) ⟨ar.pf,au.pf,av.drew,(b A) _ _ _ _ _ aG (G.refl _ _).drew⟩ ?_
     rintro z ⟨x,t7,ao,aW⟩
     have d0:z.cell? (u j.heap.size 0 J)=E (g (E (u tb 0 J))):=x.T 0
     have d1:z.cell? (u j.heap.size 1 J)=E (F K k):=x.T 1
     have d2:z.cell? (u j.heap.size 2 J)=E (L (!al)):=x.T 2
     refine cN (by simp[results,results43,go_sem,d0,d1,d2];try rfl) rfl ?_
     rw[b ak]
     exact⟨t7,ao,λ_=>⟨a,v,rfl,aW⟩,λr=>absurd rfl r⟩)
end Go.Proofs.YthhibagcpjeihaaGreat
