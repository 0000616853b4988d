import Derived.Test.YthhibagcpjeihaaGreatW5
import Derived.Test.YthhibagcpjeihaaGreatW4
open Go.Proofs.Tryz
open Go.Addr renaming mk->u
open Go.Value renaming int->F,pointer->g,slice->C,bool->L,agg->t,tuple->aq
open Go.IntKind renaming i64->K
open Option renaming none->J,some->E
open Go renaming World->U,Value->V
open Go.Proofs.Tryz renaming prog->h
open Go.Ending renaming returned->q
open Go.Obj renaming cells->m
set_option linter.unusedVariables false
set_option linter.unusedSimpArgs false
set_option maxRecDepth 100000
set_option maxHeartbeats 8000000
namespace Go.Proofs.YthhibagcpjeihaaGreat
open Go.RowKit
open M
variable {I:U} {w Q P p:Nat} {S o:List z} {j:Nat->Nat} {k:List aB} {v:Int} {W:Type} {N:V}
theorem bE.set(b:bE I w Q S)(a:Nat)(hi:a<S.length)(j:Nat)(y:j<6)(c:V)(o:z)(A:eB o=(eB S[a]).setIfInBounds j c):bE (I.setCell ⟨w,a* 6+j,J⟩ c) w Q (S.set a o):=by
 obtain⟨p,r,s,i⟩:=b.cur;refine⟨⟨_,r.set (a* 6+j) c,by simpa using s,λn x B l=>?_⟩,by simpa using b.le,b.max⟩;have k:n<S.length:=by simpa using x
 have v:a* 6+j<p.size:=by
  have:=b.le;omega
 by_cases d:n=a
 .subst d;simp only[ph];rw[A];by_cases e:j=B
  .subst e;rw[vI v,vI (by simpa [eB] using y)]
  .rw[mn (by omega),mn e];exact i _ k _ l
 .rw[mn (by omega),qX (λb=>d b.symm)];exact i _ k _ l
theorem bE.Ny(b:bE I w Q S){a:Addr}(k:w≠a.block)(c:V):bE (I.setCell a c) w Q S:=by
 obtain⟨d,e,i,j⟩:=b.cur;exact⟨⟨d,e.eJ k c,i,j⟩,b.le,b.max⟩
structure fY (w:U) (gf p8 g cap:Nat) (p:O) (l:List z):Prop where
 row:bE w g cap l
 len:l.length<=1000
 ne:gf≠g
 slice:w.cell? ⟨gf,p8+8,J⟩=E (C (E (u g 0 J)) l.length cap)
 wT:∀j,j<4->w.cell? ⟨gf,p8+4+j,J⟩=E (F K (p.cD j))
theorem fZ{S:Nat->Prop}{w':U}(c:G S I w'){a:Addr}(b:I.cell? a=E N)(e:¬S a.block):w'.cell? a=E N:=by
 have d:=jk I a b;unfold World.cell? at b ⊢;rw[c.block _ d e];exact b
theorem fY.mod{w w':U}{gf d:Nat}{p:O}(a:fY w gf Q P d p S)(c:G No w w'):fY w' gf Q P d p S:=
 ⟨a.row.mod c (λb=>b),a.len,a.ne,fZ c a.slice (λb=>b),λi e=>fZ c (a.wT i e) (λb=>b)⟩
structure cw (w w':U) (gf p8 g cap:Nat) (p:O) (l l':List z):Prop where
 row:bE w' g cap l'
 mod:G (λk=>k=g) w w'
theorem cw.same{w':U}{gf:Nat}{p:O}(c:fY I gf w Q P p S)(b:G No I w'):cw I w' gf w Q P p S S:=
 ⟨c.row.mod b (λa=>a),b.mono (λ_ _ a=>a.elim)⟩
theorem cw.set{w':U}{gf:Nat}{p:O}(d:cw I w' gf w Q P p S o)(a:Nat)(hi:a<o.length)(j:Nat)(e:j<6)(b:V)(c:z)(i:eB c=(eB o[a]).setIfInBounds j b):cw I (w'.setCell ⟨Q,a* 6+j,J⟩ b) gf w Q P p S (o.set a c):=
 ⟨d.row.set a hi j e b c i,d.mod.setCell (p:=⟨Q,a* 6+j,J⟩) (.inl rfl) b⟩
theorem zB{p:O}(a:p.bI=true):0<=p.af/\p.af<=200/\0<=p.ag/\p.ag<=200/\0<=p.ai/\p.ai<=200/\0<=p.aj/\p.aj<=200:=by
 simp only[O.bI,eA] at a;omega
theorem D3(B gf d e j y:Nat)(p:O)(i:List z)(a:aK)(c:U)(n:fY c gf d e j p i)(o:dg a≠0):Calls h 86 #[g (E (u B 0 J)),g (E (u gf d J)),g (E ⟨e,y* 6,J⟩),t (aw a)] c λk w'=>k=q (F K (dg a))/\cw c w' gf d e j p i i:=by
 have v:=l λx=>yU a x;have s:=l (show(dg a !=0)=true by simpa using o);have r:=l n;have w:=l ((G.refl No c).alloc (m (aw a) 41));generalize dg a=H at *;clear n o;unfold aw at *;go_enter func86,ntmps86;go_wp2_with fail;refine((b v) _).mono ?_;rintro k I ⟨rfl,A⟩;have hd:=b s;go_wp2;go_ret;exact⟨rfl,cw.same (b r) ((b w).trans A)⟩
theorem bE.iX(b:bE I w Q S)(a:Nat):I.frozen? (u w a J)=false:=by
 obtain⟨d,c,_⟩:=b.cur;exact c.aC a
theorem D4(p:O)(b:List z)(a:Nat):0<=M.leftOf p b a:=by unfold M.leftOf;omega
def mJ(a time c b:Int):Int:=if time<=a\/time>a+100 then 8 else ft c b
def kJ(d b c:Int)(a:z):Int:=if a.st=1/\a.pa=d/\a.cl=b then 0 else ft a.st c
def jt(b:Int)(a:List z)(c:Nat)(d:z):List z:=if b=0 then a.set c d else a
theorem mL(b:v≠0)(a:List z)(c:Nat)(d:z):jt v a c d=a:=f b
theorem uK(b:List z)(a:Nat)(c:z):jt 0 b a c=b.set a c:=rfl
theorem cw.put{w':U}{gf:Nat}{p:O}{a:Nat}{d:z}(e:cw I w' gf w Q P p S (o.set a d))(hi:a<o.length)(j:Nat)(i:j<6)(c:V)(b:z)(k:eB b=(eB d).setIfInBounds j c):cw I (w'.setCell ⟨Q,a* 6+j,J⟩ c) gf w Q P p S (o.set a b):=by
 have:=e.set a (by simpa using hi) j i c b (by simpa using k)
 rwa [uL] at this
theorem Nz(au gf W n ae e:Nat)(p:O)(i:List z)(N I ac Q P o time j:Int)(d:Nat)(c:O)(v:U)(s:fY v gf W n ae p i)(a:z)(ar:∃hi:e<i.length,i[e]=a)(ap:p.bI=true)(aE:d<4)(aP:1<=o/\o<=1000)(aQ: -9223372036854775808<=time/\time<=9223372036854775807)(aO:0<=j/\j<=4611686018427387000)(ao:v.cell? (u au 1 J)=E (F K j)):
  Calls h 86 #[g (E (u au 0 J)),g (E (u gf W J)),g (E ⟨n,e* 6,J⟩),t #[F K 2,F K N,F K I,F K ac,F K Q,F K P,F K o,F K d,F K time,F K c.rows,F K c.y,F K c.Z,F K c.af,F K c.ag,F K c.ai,F K c.aj]] v λT w'=>T=q (F K (mJ j time a.st (M.leftOf p i d)))/\cw v w' gf W n ae p i (jt (mJ j time a.st (M.leftOf p i d)) i e ⟨a.row,a.ae,1,o,d,time⟩):=by
 have ak:=l λA=>(show Calls h 111 #[t #[F K 2,F K N,F K I,F K ac,F K Q,F K P,F K o,F K d,F K time,F K c.rows,F K c.y,F K c.Z,F K c.af,F K c.ag,F K c.ai,F K c.aj]] A λT w'=>T=q (F K 0)/\G No A w' from by
  have:=yU ⟨2,N,I,ac,Q,P,o,d,time,c⟩ A
  rw[show dg ⟨2,N,I,ac,Q,P,o,d,time,c⟩=0 from by unfold dg;rw[f (by simp only;omega),f (by simp only;omega)]] at this
  exact this)
 have ad:=l λA (Y:G No v A)=>yT gf W n ae p i d aE A ((s.mod Y).row) s.len (s.mod Y).slice (zB ap) (s.mod Y).wT;have aw:=l λA (Y:G No v A)=>fZ Y ao (λr=>r);have y:=l s;have am:=l ((G.refl No v).alloc (m #[F K 2,F K N,F K I,F K ac,F K Q,F K P,F K o,F K d,F K time,F K c.rows,F K c.y,F K c.Z,F K c.af,F K c.ag,F K c.ai,F K c.aj] 41))
 have ag:=l (X.new v #[F K 2,F K N,F K I,F K ac,F K Q,F K P,F K o,F K d,F K time,F K c.rows,F K c.y,F K c.Z,F K c.af,F K c.ag,F K c.ai,F K c.aj] 41);have x:=l ar;clear s ao ap ar;go_enter func86,ntmps86;go_wp2_with fail;refine((b ak) _).mono ?_;rintro T af ⟨rfl,aa⟩;have B:=l ((b am).trans aa);have aD:=(aa.e (b ag) (λr=>r)).T;have aF:=(aa.e (b ag) (λr=>r)).lt;have aj:=aa.e (b ag) (λr=>r)
 have R:=(b y).row.mod (b B) (λr=>r);have az:af.cell? ⟨n,e* 6+2,J⟩=E (F K a.st):=by obtain⟨hi,k⟩:=b x;rw[<-k];exact R.st e hi
 have aA:af.cell? ⟨n,e* 6+3,J⟩=E (F K a.pa):=by obtain⟨hi,k⟩:=b x;rw[<-k];exact R.pa e hi
 have aB:af.cell? ⟨n,e* 6+4,J⟩=E (F K a.cl):=by obtain⟨hi,k⟩:=b x;rw[<-k];exact R.cl e hi
 have aC:af.cell? ⟨n,e* 6+5,J⟩=E (F K a.un):=by obtain⟨hi,k⟩:=b x;rw[<-k];exact R.un e hi
 have aI:=(b aw) _ (b B);clear aa R ak am;by_cases t1:time<=j
 .have d1:decide (time<=j)=true:=by simpa using t1
  have w:=l (show mJ j time a.st (M.leftOf p i d)=8 from D (.inl t1));clear ad;go_wp2_with fail;go_quiet (fail);go_wp2;go_ret;rw[b w,mL (by omega)];exact⟨rfl,cw.same (b y) ((b B).drewN _)⟩
 have d1:decide (time<=j)=false:=by simpa using t1
 have aR:K.wrap (time - j)=time - j:=gp _ (by omega) (by omega);by_cases t2:time - j>100
 .have d2:decide (time - j>100)=true:=by simpa using t2
  have w:=l (show mJ j time a.st (M.leftOf p i d)=8 from D (.inr (by omega)));clear ad;go_wp2_with fail;go_quiet (fail);go_wp2;go_ret;rw[b w,mL (by omega)];exact⟨rfl,cw.same (b y) ((b B).drewN _)⟩
 have d2:decide (time - j>100)=false:=by simpa using t2
 have H:=l (show mJ j time a.st (M.leftOf p i d)=ft a.st (M.leftOf p i d) from f (λs=>by obtain s|s:=s;exact t1 s;exact t2 (by omega)));go_wp2_with fail;go_quiet (fail);clear aI;go_wp2_with fail;go_quiet (fail);by_cases Z:a.st=0
 case neg=>
  have ds:(a.st !=0)=true:=by simpa using Z
  have w:=l (show mJ j time a.st (M.leftOf p i d)=9 from by rw[b H];unfold ft;rw[D Z]);clear ad H;go_wp2;go_ret;rw[b w,mL (by omega)];exact⟨rfl,cw.same (b y) ((b B).drewN _)⟩
 have ds:(a.st !=0)=false:=by simpa using Z
 have av:=l λaH=>aj.drewN aH;go_wp2_with fail;refine((b ad) _ ((b B).drewN _)).mono ?_;rintro T ab ⟨rfl,ai⟩;have ah:=l (((b B).drewN _).trans ai);have aL:=(ai.e ((b av) _) (λr=>r)).T;have S:=l ((b y).row.mod (b ah) (λr=>r));have aS:ab.cell? ⟨n,e* 6+2,J⟩=E (F K a.st):=by obtain⟨hi,k⟩:=b x;rw[<-k];exact(b S).st e hi
 have aT:ab.cell? ⟨n,e* 6+3,J⟩=E (F K a.pa):=by obtain⟨hi,k⟩:=b x;rw[<-k];exact(b S).pa e hi
 have aU:ab.cell? ⟨n,e* 6+4,J⟩=E (F K a.cl):=by obtain⟨hi,k⟩:=b x;rw[<-k];exact(b S).cl e hi
 have aW:ab.cell? ⟨n,e* 6+5,J⟩=E (F K a.un):=by obtain⟨hi,k⟩:=b x;rw[<-k];exact(b S).un e hi
 have aJ:=(b S).iX;have aK:n≠v.heap.size:=by have:=(b y).row.lt;omega
 have aG:=D4 p i d;clear aD ai az aA aB aC aj aF;by_cases aN:M.leftOf p i d<1
 .have w:=l (show mJ j time a.st (M.leftOf p i d)=11 from by rw[b H];unfold ft;rw[f (by simpa using Z),D (by omega)]);clear H;go_wp2;go_ret;rw[b w,mL (by omega)];exact⟨rfl,cw.same (b y) (b ah)⟩
 .have w:=l (show mJ j time a.st (M.leftOf p i d)=0 from by rw[b H];unfold ft;rw[f (by simpa using Z),f (by omega)]);have ax:=l (cw.same (b y) (b ah));clear H aG;go_wp2;go_ret;rw[b w,uK];obtain⟨hi,k⟩:=b x;have ay:cw v ab gf W n ae p i (i.set e a):=by rw[<-k,pj];exact b ax
  exact⟨rfl,((((ay.put hi 2 (by omega) (F K 2) ⟨a.row,a.ae,2,a.pa,a.cl,a.un⟩ rfl).put hi 3 (by omega) (F K o) ⟨a.row,a.ae,2,o,a.cl,a.un⟩ rfl).put hi 4 (by omega) (F K d) ⟨a.row,a.ae,2,o,d,a.un⟩ rfl).put hi 2 (by omega) (F K 1) ⟨a.row,a.ae,1,o,d,a.un⟩ rfl).put hi 5 (by omega) (F K time) ⟨a.row,a.ae,1,o,d,time⟩ rfl⟩
theorem ND(aI gf S n ad j:Nat)(p:O)(i:List z)(R Q ac Y W e time ar:Int)(c:Nat)(d:O)(v:U)(r:fY v gf S n ad p i)(a:z)(aG:∃hi:j<i.length,i[j]=a)(aF:p.bI=true)(aR:c<4)(a1:1<=e/\e<=1000)(a2: -9223372036854775808<=time/\time<=9223372036854775807)(a0:0<=ar/\ar<=4611686018427387000)(aE:v.cell? (u aI 1 J)=E (F K ar))(aH:a.st=0->a.un=0):
  Calls h 86 #[g (E (u aI 0 J)),g (E (u gf S J)),g (E ⟨n,j* 6,J⟩),t #[F K 3,F K R,F K Q,F K ac,F K Y,F K W,F K e,F K c,F K time,F K d.rows,F K d.y,F K d.Z,F K d.af,F K d.ag,F K d.ai,F K d.aj]] v λae w'=>ae=q (F K (kJ e c (M.leftOf p i c) a))/\cw v w' gf S n ad p i (jt (kJ e c (M.leftOf p i c) a) i j ⟨a.row,a.ae,2,e,c,0⟩):=by
 have aN:=l aH;clear aH
 have ax:=l λH=>(show Calls h 111 #[t #[F K 3,F K R,F K Q,F K ac,F K Y,F K W,F K e,F K c,F K time,F K d.rows,F K d.y,F K d.Z,F K d.af,F K d.ag,F K d.ai,F K d.aj]] H λae w'=>ae=q (F K 0)/\G No H w' from by
  have:=yU ⟨3,R,Q,ac,Y,W,e,c,time,d⟩ H
  rw[show dg ⟨3,R,Q,ac,Y,W,e,c,time,d⟩=0 from by unfold dg;rw[f (by simp only;omega),f (by simp only;omega)]] at this
  exact this)
 have aa:=l λH (af:G No v H)=>yT gf S n ad p i c aR H ((r.mod af).row) r.len (r.mod af).slice (zB aF) (r.mod af).wT;have aw:=l λH (af:G No v H)=>fZ af aE (λo=>o);have w:=l r;have ay:=l ((G.refl No v).alloc (m #[F K 3,F K R,F K Q,F K ac,F K Y,F K W,F K e,F K c,F K time,F K d.rows,F K d.y,F K d.Z,F K d.af,F K d.ag,F K d.ai,F K d.aj] 41))
 have aj:=l (X.new v #[F K 3,F K R,F K Q,F K ac,F K Y,F K W,F K e,F K c,F K time,F K d.rows,F K d.y,F K d.Z,F K d.af,F K d.ag,F K d.ai,F K d.aj] 41);have y:=l aG;clear r aE aF aG;go_enter func86,ntmps86;go_wp2_with fail;refine((b ax) _).mono ?_;rintro ae Z ⟨rfl,ag⟩;have A:=l ((b ay).trans ag);have aD:=(ag.e (b aj) (λo=>o)).T;have aS:=(ag.e (b aj) (λo=>o)).lt;have av:=ag.e (b aj) (λo=>o)
 have ab:=(b w).row.mod (b A) (λo=>o);have aO:Z.cell? ⟨n,j* 6+2,J⟩=E (F K a.st):=by obtain⟨hi,k⟩:=b y;rw[<-k];exact ab.st j hi
 have aA:Z.cell? ⟨n,j* 6+3,J⟩=E (F K a.pa):=by obtain⟨hi,k⟩:=b y;rw[<-k];exact ab.pa j hi
 have aB:Z.cell? ⟨n,j* 6+4,J⟩=E (F K a.cl):=by obtain⟨hi,k⟩:=b y;rw[<-k];exact ab.cl j hi
 have aP:Z.cell? ⟨n,j* 6+5,J⟩=E (F K a.un):=by obtain⟨hi,k⟩:=b y;rw[<-k];exact ab.un j hi
 have aU:=(b aw) _ (b A);clear ag ab ax ay;clear aw;have aC:=l ((b w).row.mod (b A) (λo=>o)).iX;go_wp2_with fail;go_quiet (fail);clear aU;by_cases B:a.st=1
 .have d1:(a.st==1)=true:=by simpa using B
  by_cases I:a.pa=e
  .have d2:(a.pa==e)=true:=by simpa using I
   by_cases N:a.cl=(c:Int)
   .have d3:(a.cl==(c:Int))=true:=by simpa using N
    have s:=l (show kJ e c (M.leftOf p i c) a=0 from D ⟨B,I,N⟩);have aW:∀(x au:Nat),(Z.drewN x).frozen? (u n au J)=false:=λx au=>(b aC) au;have am:=l λx=>cw.same (b w) ((b A).drewN x);have aK:=l (show(⟨a.row,a.ae,2,a.pa,a.cl,0⟩:z)=⟨a.row,a.ae,2,e,c,0⟩ from by rw[I,N]);clear aa B I N;go_wp2_with fail;go_quiet (fail);clear aA aB aD;have aQ:=b aC;go_wp2;go_ret;rw[b s,uK,<-b aK];obtain⟨hi,k⟩:=b y
    have ao:∀x,cw v (Z.drewN x) gf S n ad p i (i.set j a):=λx=>by rw[<-k,pj];exact(b am) x
    exact⟨rfl,((ao _).put hi 2 (by omega) (F K 2) ⟨a.row,a.ae,2,a.pa,a.cl,a.un⟩ rfl).put hi 5 (by omega) (F K 0) ⟨a.row,a.ae,2,a.pa,a.cl,0⟩ rfl⟩
   .have d3:(a.cl==(c:Int))=false:=by simpa using N
    have ds:(a.st !=0)=true:=by simp[B]
    have s:=l (show kJ e c (M.leftOf p i c) a=9 from by unfold kJ;rw[f (λr=>N r.2.2)];unfold ft;rw[D (by omega)]);clear aa B I N;go_wp2_with fail;go_quiet (fail);go_wp2;go_ret;rw[b s,mL (by omega)];exact⟨rfl,cw.same (b w) ((b A).drewN _)⟩
  .have d2:(a.pa==e)=false:=by simpa using I
   have ds:(a.st !=0)=true:=by simp[B]
   have s:=l (show kJ e c (M.leftOf p i c) a=9 from by unfold kJ;rw[f (λr=>I r.2.1)];unfold ft;rw[D (by omega)]);clear aa B I;go_wp2_with fail;go_quiet (fail);go_wp2;go_ret;rw[b s,mL (by omega)];exact⟨rfl,cw.same (b w) ((b A).drewN _)⟩
 have d1:(a.st==1)=false:=by simpa using B
 have P:=l (show kJ e c (M.leftOf p i c) a=ft a.st (M.leftOf p i c) from f (λr=>B r.1));go_wp2_with fail;go_quiet (fail);by_cases T:a.st=0
 case neg=>
  have ds:(a.st !=0)=true:=by simpa using T
  have s:=l (show kJ e c (M.leftOf p i c) a=9 from by rw[b P];unfold ft;rw[D T]);clear aa P;go_wp2;go_ret;rw[b s,mL (by omega)];exact⟨rfl,cw.same (b w) ((b A).drewN _)⟩
 have ds:(a.st !=0)=false:=by simpa using T
 have aJ:=l λx=>av.drewN x;go_wp2_with fail;refine((b aa) _ ((b A).drewN _)).mono ?_;rintro ae ai ⟨rfl,ap⟩;have ak:=l (((b A).drewN _).trans ap);have aY:=(ap.e ((b aJ) _) (λo=>o)).T;have ah:=l ((b w).row.mod (b ak) (λo=>o));have a3:ai.cell? ⟨n,j* 6+2,J⟩=E (F K a.st):=by obtain⟨hi,k⟩:=b y;rw[<-k];exact(b ah).st j hi
 have a4:ai.cell? ⟨n,j* 6+3,J⟩=E (F K a.pa):=by obtain⟨hi,k⟩:=b y;rw[<-k];exact(b ah).pa j hi
 have a5:ai.cell? ⟨n,j* 6+4,J⟩=E (F K a.cl):=by obtain⟨hi,k⟩:=b y;rw[<-k];exact(b ah).cl j hi
 have aQ:=(b ah).iX;have aX:n≠v.heap.size:=by have:=(b w).row.lt;omega
 have aT:=D4 p i c;clear aD ap aO aA aB aP av aS;by_cases aZ:M.leftOf p i c<1
 .have s:=l (show kJ e c (M.leftOf p i c) a=11 from by rw[b P];unfold ft;rw[f (by simpa using T),D (by omega)]);clear P;go_wp2;go_ret;rw[b s,mL (by omega)];exact⟨rfl,cw.same (b w) (b ak)⟩
 .have s:=l (show kJ e c (M.leftOf p i c) a=0 from by rw[b P];unfold ft;rw[f (by simpa using T),f (by omega)]);have am:=l (cw.same (b w) (b ak));have aL:=l ((b aN) T);clear P aT;go_wp2;go_ret;rw[b s,uK];obtain⟨hi,k⟩:=b y;have ao:cw v ai gf S n ad p i (i.set j a):=by rw[<-k,pj];exact b am
  have az:=((ao.put hi 2 (by omega) (F K 2) ⟨a.row,a.ae,2,a.pa,a.cl,a.un⟩ rfl).put hi 3 (by omega) (F K e) ⟨a.row,a.ae,2,e,a.cl,a.un⟩ rfl).put hi 4 (by omega) (F K c) ⟨a.row,a.ae,2,e,c,a.un⟩ rfl;rw[b aL] at az;exact⟨rfl,az⟩
theorem bE.put{c:z}(d:bE I w Q (S.set P c))(hi:P<S.length)(j:Nat)(e:j<6)(b:V)(a:z)(i:eB a=(eB c).setIfInBounds j b):bE (I.setCell ⟨w,P* 6+j,J⟩ b) w Q (S.set P a):=by
 have:=d.set P (by simpa using hi) j e b a (by simpa using i)
 rwa [uL] at this
theorem bE.kK(c:bE I w Q S)(b:Nat)(hi:b<S.length)(a:z):bE ((((((I.setCell ⟨w,b* 6,J⟩ (F K a.row)).setCell ⟨w,b* 6+1,J⟩ (F K a.ae)).setCell ⟨w,b* 6+2,J⟩ (F K a.st)).setCell ⟨w,b* 6+3,J⟩ (F K a.pa)).setCell ⟨w,b* 6+4,J⟩ (F K a.cl)).setCell ⟨w,b* 6+5,J⟩ (F K a.un)) w Q (S.set b a):=by
 have d:bE I w Q (S.set b S[b]):=by rw[pj];exact c
 exact(((((d.put hi 0 (by omega) (F K a.row) ⟨a.row,S[b].ae,S[b].st,S[b].pa,S[b].cl,S[b].un⟩ rfl).put hi 1 (by omega) (F K a.ae) ⟨a.row,a.ae,S[b].st,S[b].pa,S[b].cl,S[b].un⟩ rfl).put hi 2 (by omega) (F K a.st) ⟨a.row,a.ae,a.st,S[b].pa,S[b].cl,S[b].un⟩ rfl).put hi 3 (by omega) (F K a.pa) ⟨a.row,a.ae,a.st,a.pa,S[b].cl,S[b].un⟩ rfl).put hi 4 (by omega) (F K a.cl) ⟨a.row,a.ae,a.st,a.pa,a.cl,S[b].un⟩ rfl).put hi 5 (by omega) (F K a.un) a rfl
theorem G.kK{S:Nat->Prop}{a:U}(d:G S a I)(c:S w)(b:Nat)(e i j k l n:V):G S a ((((((I.setCell ⟨w,b* 6,J⟩ e).setCell ⟨w,b* 6+1,J⟩ i).setCell ⟨w,b* 6+2,J⟩ j).setCell ⟨w,b* 6+3,J⟩ k).setCell ⟨w,b* 6+4,J⟩ l).setCell ⟨w,b* 6+5,J⟩ n):=
 (((((d.setCell (p:=⟨w,b* 6,J⟩) (.inl c) _).setCell (p:=⟨w,b* 6+1,J⟩) (.inl c) _).setCell (p:=⟨w,b* 6+2,J⟩) (.inl c) _).setCell (p:=⟨w,b* 6+3,J⟩) (.inl c) _).setCell (p:=⟨w,b* 6+4,J⟩) (.inl c) _).setCell (p:=⟨w,b* 6+5,J⟩) (.inl c) _
theorem NH(gf a i e o:Nat)(p:O)(c:List z)(r:Int)(d:U)(j:fY d gf a i e p c):Calls h 88 #[g (E (u gf a J)),F K o,F K (-1),F K r] d λn w'=>n=q (F K 5)/\cw d w' gf a i e p c c:=by
 have k:=l j;clear j;go_enter func88,ntmps88;go_wp2;go_ret;exact⟨rfl,cw.same (b k) (G.refl _ _)⟩
theorem D5(gf w W T a j:Nat)(p:O)(d:List z)(n:Int)(o:U)(c:fY o gf w W T p d)(e B:z)(hi:a<d.length)(aa:d[a]=e)(Z:j<d.length)(ab:d[j]=B)(s:Int)(y:s≠0)(ag:s=dK e.st e.pa n\/(dK e.st e.pa n=0/\B.st≠0/\s=9)):Calls h 88 #[g (E (u gf w J)),F K a,F K j,F K n] o λv w'=>v=q (F K s)/\cw o w' gf w W T p d d:=by
 have ah:=c.slice;have r:=l λi=>yV e n i;have M:=c.row.row a hi;have N:=c.row.ae a hi;have P:=c.row.st a hi;have Q:=c.row.pa a hi;have R:=c.row.cl a hi;have S:=c.row.un a hi;have t2:=c.row.st j Z;rw[aa] at M N P Q R S;rw[ab] at t2;have ae:=l λi (x:G No o i)=>fZ x t2 (λH=>H);have ad:=l λi (x:G No o i)=>fZ x ah (λH=>H);have A:(a:Int)<(d.length:Int)/\(j:Int)<(d.length:Int):=by omega
 have am:=A.1;have ao:=A.2;have aj:(0:Int)<=a:=by omega
 have ak:(0:Int)<=j:=by omega
 have ap:¬(j:Int)<0:=by omega
 have I:=l c;clear c aa ab t2 hi Z A;unfold eB at r;obtain rfl|⟨X,Y,rfl⟩:=ag
 .generalize dK e.st e.pa n=af at *;have hd:(af !=0)=true:=by simpa using y
  clear y;go_enter func88,ntmps88;go_wp2_with fail;refine((b r) _).mono ?_;rintro v ai ⟨rfl,k⟩;go_wp2;go_ret;exact⟨rfl,cw.same (b I) k⟩
 .rw[X] at r;have hd:(B.st !=0)=true:=by simpa using Y
  clear X Y y;go_enter func88,ntmps88;go_wp2_with fail;refine((b r) _).mono ?_;rintro v ai ⟨rfl,k⟩;have t21:=(b ae) _ k;have ar:=(b ad) _ k;clear M N P Q R S;go_wp2;go_ret;exact⟨rfl,cw.same (b I) k⟩
theorem NI(gf ab c H d j:Nat)(p:O)(i:List z)(az:Int)(x:U)(r:fY x gf ab c H p i)(a e:z)(hi:d<i.length)(ay:i[d]=a)(ad:j<i.length)(aR:i[j]=e)(aP:d≠j)(aL:dK a.st a.pa az=0)(aN:e.st=0):Calls h 88 #[g (E (u gf ab J)),F K d,F K j,F K az] x λaF w'=>aF=q (F K 0)/\
   cw x w' gf ab c H p i ((i.set j ⟨e.row,e.ae,a.st,a.pa,a.cl,a.un⟩).set d a.bZ):=by
 have aX:=r.slice;have a6:=r.row.lt;have W:=l λaj=>yV a az aj;rw[aL] at W;have ak:=r.row.row d hi;have am:=r.row.ae d hi;have ao:=r.row.st d hi;have ap:=r.row.pa d hi;have ar:=r.row.cl d hi;have au:=r.row.un d hi;rw[ay] at ak am ao ap ar au;have aA:=l r.row;have aC:=l r.ne;have aa:=l λ(aE:Nat->Prop) aj (aW:G aE x aj) (hS:¬aE gf)=>fZ aW aX hS
 have ax:(d:Int)<(i.length:Int)/\(j:Int)<(i.length:Int):=by omega
 have a7:=ax.1;have a8:=ax.2;have a3:(0:Int)<=d:=by omega
 have a4:(0:Int)<=j:=by omega
 have a9:¬(j:Int)<0:=by omega
 have M:=l hi;have s:=l ad;have B:=l ay;have ag:=l aR;have aS:=l aN;have aT:=l aP;clear r ay aR ax aL aN aP;unfold eB at W;go_enter func88,ntmps88;go_wp2_with fail;refine((b W) _).mono ?_;rintro aF y ⟨rfl,ae⟩;have R:=(b aA).mod ae (λo=>o);have d0:y.cell? ⟨c,j* 6,J⟩=E (F K e.row):=by have:=R.row j (b s);rw[b ag] at this;exact this
 have d1:y.cell? ⟨c,j* 6+1,J⟩=E (F K e.ae):=by have:=R.ae j (b s);rw[b ag] at this;exact this
 have d2:y.cell? ⟨c,j* 6+2,J⟩=E (F K 0):=by have:=R.st j (b s);rw[b ag,b aS] at this;exact this
 have aY:=(b aa) No _ ae (λo=>o);have aB:=l ae;have ai:=l R;clear ak am ao ap ar au ae R W aA;go_upto_region 9 with fail;have af:=l (X.new y #[F K e.row,F K e.ae] 36);have n:=(b ai).mod ((G.refl No y).alloc (m #[F K e.row,F K e.ae] 36)) (λo=>o);have Y:=l ((b aB).alloc (m #[F K e.row,F K e.ae] 36));have a2:c<y.heap.size:=(b ai).lt;generalize a5:y.heap.size=S at *
 generalize y.alloc (m #[F K e.row,F K e.ae] 36)=v at *;clear d0 d1 d2 aY ai aB;go_cut [] (λP=>Hid (bE P c H (i.set j a))/\Hid (G (λk=>k=c) x P)/\Hid (X P S #[F K e.row,F K e.ae] 36))
 case first=>
  have ba:=(b aa) No _ (b Y) (λo=>o);have ak:v.cell? ⟨c,d* 6,J⟩=E (F K a.row):=by have:=n.row d (b M);rw[b B] at this;exact this
  have am:v.cell? ⟨c,d* 6+1,J⟩=E (F K a.ae):=by have:=n.ae d (b M);rw[b B] at this;exact this
  have ao:v.cell? ⟨c,d* 6+2,J⟩=E (F K a.st):=by have:=n.st d (b M);rw[b B] at this;exact this
  have ap:v.cell? ⟨c,d* 6+3,J⟩=E (F K a.pa):=by have:=n.pa d (b M);rw[b B] at this;exact this
  have ar:v.cell? ⟨c,d* 6+4,J⟩=E (F K a.cl):=by have:=n.cl d (b M);rw[b B] at this;exact this
  have au:v.cell? ⟨c,d* 6+5,J⟩=E (F K a.un):=by have:=n.un d (b M);rw[b B] at this;exact this
  have av:=n.row j (b s);have aw:=n.ae j (b s);have aG:=n.st j (b s);have aH:=n.pa j (b s);have aI:=n.cl j (b s);have aJ:=n.un j (b s);have aK:=n.iX;have aD:=l n;have A:S≠c:=by omega
  have Q:=l (show Hid (bE ((((((v.setCell ⟨c,j* 6,J⟩ (F K a.row)).setCell ⟨c,j* 6+1,J⟩ (F K a.ae)).setCell ⟨c,j* 6+2,J⟩ (F K a.st)).setCell ⟨c,j* 6+3,J⟩ (F K a.pa)).setCell ⟨c,j* 6+4,J⟩ (F K a.cl)).setCell ⟨c,j* 6+5,J⟩ (F K a.un)).drew c H (i.set j a))/\
    Hid (G (λk=>k=c) x ((((((v.setCell ⟨c,j* 6,J⟩ (F K a.row)).setCell ⟨c,j* 6+1,J⟩ (F K a.ae)).setCell ⟨c,j* 6+2,J⟩ (F K a.st)).setCell ⟨c,j* 6+3,J⟩ (F K a.pa)).setCell ⟨c,j* 6+4,J⟩ (F K a.cl)).setCell ⟨c,j* 6+5,J⟩ (F K a.un)).drew)/\
    Hid (X ((((((v.setCell ⟨c,j* 6,J⟩ (F K a.row)).setCell ⟨c,j* 6+1,J⟩ (F K a.ae)).setCell ⟨c,j* 6+2,J⟩ (F K a.st)).setCell ⟨c,j* 6+3,J⟩ (F K a.pa)).setCell ⟨c,j* 6+4,J⟩ (F K a.cl)).setCell ⟨c,j* 6+5,J⟩ (F K a.un)).drew S #[F K e.row,F K e.ae] 36) from
   ⟨((b aD).kK j (b s) a).mod (G.refl No _).drew (λo=>o),(((b Y).mono (S':=λk=>k=c) (λ_ _ o=>o.elim)).kK (S:=λk=>k=c) rfl j _ _ _ _ _ _).drew,(((((((b af).eJ (a:=⟨c,j* 6,J⟩) A _).eJ (a:=⟨c,j* 6+1,J⟩) A _).eJ (a:=⟨c,j* 6+2,J⟩) A _).eJ (a:=⟨c,j* 6+3,J⟩) A _).eJ (a:=⟨c,j* 6+4,J⟩) A _).eJ (a:=⟨c,j* 6+5,J⟩) A _).drew⟩)
  clear n aD Y af A;go_region
  all_goals go_wp2
  all_goals go_meet
  all_goals exact b Q
 case rest=>
  obtain⟨N,Z,T⟩:=hcut;clear n Y af;generalize wc=w3 at *;clear v;go_upto_region 10 with fail;go_cut [] (λP=>Hid (bE P c H (i.set j ⟨e.row,e.ae,a.st,a.pa,a.cl,a.un⟩))/\Hid (G (λk=>k=c) x P))
  case first=>
   have bb:=(b aa) (λk=>k=c) _ (b Z) (b aC);have aQ:j<(i.set j a).length:=by simpa using ad
   have av:=(b N).row j aQ;have aw:=(b N).ae j aQ;have a0:w3.cell? (u S 0 J)=E (F K e.row):=(b T).T 0;have a1:w3.cell? (u S 1 J)=E (F K e.ae):=(b T).T 1;have aK:=(b N).iX
   have Q:=l (show Hid (bE ((w3.setCell ⟨c,j* 6,J⟩ (F K e.row)).setCell ⟨c,j* 6+1,J⟩ (F K e.ae)).drew c H (i.set j ⟨e.row,e.ae,a.st,a.pa,a.cl,a.un⟩))/\Hid (G (λk=>k=c) x ((w3.setCell ⟨c,j* 6,J⟩ (F K e.row)).setCell ⟨c,j* 6+1,J⟩ (F K e.ae)).drew) from
    ⟨(((b N).put ad 0 (by omega) (F K e.row) ⟨e.row,a.ae,a.st,a.pa,a.cl,a.un⟩ rfl).put ad 1 (by omega) (F K e.ae) ⟨e.row,e.ae,a.st,a.pa,a.cl,a.un⟩ rfl).mod (G.refl No _).drew (λo=>o),
     (((b Z).setCell (p:=⟨c,j* 6,J⟩) (.inl rfl) _).setCell (p:=⟨c,j* 6+1,J⟩) (.inl rfl) _).drew⟩)
   clear N Z T;go_region
   all_goals go_wp2
   all_goals go_meet
   all_goals exact b Q
  case rest=>
   obtain⟨w,ah⟩:=hcut;clear N Z T;generalize wc=aZ at *;have bc:=(b aa) (λk=>k=c) _ (b ah) (b aC);have I:d<(i.set j ⟨e.row,e.ae,a.st,a.pa,a.cl,a.un⟩).length:=by simpa using hi
   have aO:(i.set j ⟨e.row,e.ae,a.st,a.pa,a.cl,a.un⟩)[d]=a:=by rw[qX (λaU=>(b aT) aU.symm)];exact b B
   have av:=(b w).row d I;have aw:=(b w).ae d I;have aG:=(b w).st d I;have aH:=(b w).pa d I;have aI:=(b w).cl d I;have aJ:=(b w).un d I;rw[aO] at av aw aG aH aI aJ;have aK:=(b w).iX
   have Q:=l (show cw x ((((((aZ.setCell ⟨c,d* 6,J⟩ (F K a.row)).setCell ⟨c,d* 6+1,J⟩ (F K a.ae)).setCell ⟨c,d* 6+2,J⟩ (F K 0)).setCell ⟨c,d* 6+3,J⟩ (F K 0)).setCell ⟨c,d* 6+4,J⟩ (F K 0)).setCell ⟨c,d* 6+5,J⟩ (F K 0)).drew gf ab c H p i ((i.set j ⟨e.row,e.ae,a.st,a.pa,a.cl,a.un⟩).set d a.bZ) from
    ⟨((b w).kK d I a.bZ).mod (G.refl No _).drew (λo=>o),((b ah).kK (S:=λk=>k=c) rfl d _ _ _ _ _ _).drew⟩)
   clear w ah aO;go_wp2_with fail;go_region
   all_goals go_wp2
   all_goals go_ret
   all_goals exact⟨rfl,b Q⟩
theorem wU{gf:Nat}{p:O}(e:fY I gf w Q P p S)(b:aJ p S)(c a:Int)(d:p.e c a=true):Calls h 85 #[g (E (u gf w J)),t #[F K c,F K a]] I λi w'=>i=q (F K (p.idx c a:Nat))/\G No I w':=by
 refine(CI gf w Q P S c a I e.row e.len e.slice).mono ?_;rintro i w' ⟨o,⟨s,hi,j,k,rfl⟩|⟨r,rfl⟩⟩
 .obtain⟨l,n⟩:=bV.wf.qA b d;have:s=p.idx c a:=bV.wf.yk b hi (bV.wf.jP b d) (by rw[l];exact j) (by rw[n];exact k);rw[this];exact⟨rfl,o⟩
 .exact absurd (bV.wf.qA b d) (r _ (bV.wf.jP b d))
theorem wV{gf:Nat}{p:O}(e:fY I gf w Q P p S)(o:aJ p S)(d a:Int)(l:p.e d a=false):Calls h 85 #[g (E (u gf w J)),t #[F K d,F K a]] I λb w'=>b=q (F K (-1))/\G No I w':=by
 refine(CI gf w Q P S d a I e.row e.len e.slice).mono ?_;rintro b w' ⟨n,⟨c,hi,j,k,rfl⟩|⟨r,rfl⟩⟩
 .have:=(bV.wf.kU o hi).1;have b:p.e S[c].row S[c].ae=p.e d a:=by rw[j,k]
  have i:p.e S[c].row S[c].ae=true:=this;rw[b,l] at i
  cases i
 .exact⟨rfl,n⟩
theorem NJ(o gf k:Nat)(a:aK)(d:U)(e:∀i,G No d i->Calls h 85 #[g (E (u gf k J)),t #[F K a.aA,F K a.ac]] i λc w'=>c=q (F K (-1))/\G No i w'):Calls h 55 #[g (E (u o 0 J)),g (E (u gf k J)),t (aw a)] d λc w'=>c=q (F K 5)/\G No d w':=by
 have e:=l e;have j:=l ((G.refl No d).alloc (m (aw a) 41));unfold aw at *;go_enter func55,ntmps55;go_wp2_with fail;refine((b e) _ (b j)).mono ?_;rintro c p ⟨rfl,n⟩;go_wp2;go_ret;exact⟨rfl,(b j).trans n⟩
theorem D6(ae gf o d B c:Nat)(p:O)(r:List z)(I x ac P N M H time:Int)(a:O)(k:U)(T:fY k gf o d B p r)(s:z)(hi:c<r.length)(ad:r[c]=s)(R:∀j,G No k j->Calls h 85 #[g (E (u gf o J)),t #[F K x,F K ac]] j λn w'=>n=q (F K (c:Nat))/\G No j w')(Z:Int)(W:List z)(S:∀j,G No k j->Calls h 86 #[g (E (u ae 0 J)),g (E (u gf o J)),g (E ⟨d,c* 6,J⟩),t #[F K 2,F K I,F K x,F K ac,F K P,F K N,F K M,F K H,F K time,F K a.rows,F K a.y,F K a.Z,F K a.af,F K a.ag,F K a.ai,F K a.aj]] j λn w'=>n=q (F K Z)/\cw j w' gf o d B p r W):
  Calls h 55 #[g (E (u ae 0 J)),g (E (u gf o J)),t #[F K 2,F K I,F K x,F K ac,F K P,F K N,F K M,F K H,F K time,F K a.rows,F K a.y,F K a.Z,F K a.af,F K a.ag,F K a.ai,F K a.aj]] k λn w'=>n=q (F K Z)/\cw k w' gf o d B p r W:=by
 have S:=l S;have R:=l R;have ah:=l λj (ar:G No k j)=>fZ ar T.slice (λe=>e);have aA:(c:Int)<(r.length:Int):=by omega
 have az:(0:Int)<=c:=by omega
 have aB:¬(c:Int)<0:=by omega
 have af:=l T;have v:=l ad;have Y:=l ((G.refl No k).alloc (m #[F K 2,F K I,F K x,F K ac,F K P,F K N,F K M,F K H,F K time,F K a.rows,F K a.y,F K a.Z,F K a.af,F K a.ag,F K a.ai,F K a.aj] 41));have Q:=l (X.new k #[F K 2,F K I,F K x,F K ac,F K P,F K N,F K M,F K H,F K time,F K a.rows,F K a.y,F K a.Z,F K a.af,F K a.ag,F K a.ai,F K a.aj] 41);clear T ad;go_enter func55,ntmps55;go_wp2_with fail
 refine((b R) _ (b Y)).mono ?_;rintro n w ⟨rfl,y⟩;have A:=l ((b Y).trans y);have aD:=(b ah) _ (b A);have au:=(y.e (b Q) (λe=>e)).T;have aC:=(y.e (b Q) (λe=>e)).lt;have aw:=l (y.e (b Q) (λe=>e));have i:=(b af).row.mod (b A) (λe=>e);have ai:w.cell? ⟨d,c* 6,J⟩=E (F K s.row):=by have:=i.row c hi;rw[b v] at this;exact this
 have aj:w.cell? ⟨d,c* 6+1,J⟩=E (F K s.ae):=by have:=i.ae c hi;rw[b v] at this;exact this
 have ak:w.cell? ⟨d,c* 6+2,J⟩=E (F K s.st):=by have:=i.st c hi;rw[b v] at this;exact this
 have am:w.cell? ⟨d,c* 6+3,J⟩=E (F K s.pa):=by have:=i.pa c hi;rw[b v] at this;exact this
 have ao:w.cell? ⟨d,c* 6+4,J⟩=E (F K s.cl):=by have:=i.cl c hi;rw[b v] at this;exact this
 have ap:w.cell? ⟨d,c* 6+5,J⟩=E (F K s.un):=by have:=i.un c hi;rw[b v] at this;exact this
 have ay:=i.iX;have ax:=l i;clear y i;clear ai aj ak am ao ap;go_wp2_with fail;refine((b S) _ (b A)).mono ?_;rintro n av ⟨rfl,ab,aa⟩;have ag:=l (show cw k av gf o d B p r W from⟨ab,((b A).mono (λ_ _ e=>e.elim)).trans aa⟩);clear ab aa au;go_wp2;go_ret;exact⟨rfl,b ag⟩
theorem D7(ae gf o d B c:Nat)(p:O)(r:List z)(I x ac P N M H time:Int)(a:O)(k:U)(T:fY k gf o d B p r)(s:z)(hi:c<r.length)(ad:r[c]=s)(R:∀j,G No k j->Calls h 85 #[g (E (u gf o J)),t #[F K x,F K ac]] j λn w'=>n=q (F K (c:Nat))/\G No j w')(Z:Int)(W:List z)(S:∀j,G No k j->Calls h 86 #[g (E (u ae 0 J)),g (E (u gf o J)),g (E ⟨d,c* 6,J⟩),t #[F K 3,F K I,F K x,F K ac,F K P,F K N,F K M,F K H,F K time,F K a.rows,F K a.y,F K a.Z,F K a.af,F K a.ag,F K a.ai,F K a.aj]] j λn w'=>n=q (F K Z)/\cw j w' gf o d B p r W):
  Calls h 55 #[g (E (u ae 0 J)),g (E (u gf o J)),t #[F K 3,F K I,F K x,F K ac,F K P,F K N,F K M,F K H,F K time,F K a.rows,F K a.y,F K a.Z,F K a.af,F K a.ag,F K a.ai,F K a.aj]] k λn w'=>n=q (F K Z)/\cw k w' gf o d B p r W:=by
 have S:=l S;have R:=l R;have ah:=l λj (ar:G No k j)=>fZ ar T.slice (λe=>e);have aA:(c:Int)<(r.length:Int):=by omega
 have az:(0:Int)<=c:=by omega
 have aB:¬(c:Int)<0:=by omega
 have af:=l T;have v:=l ad;have Y:=l ((G.refl No k).alloc (m #[F K 3,F K I,F K x,F K ac,F K P,F K N,F K M,F K H,F K time,F K a.rows,F K a.y,F K a.Z,F K a.af,F K a.ag,F K a.ai,F K a.aj] 41));have Q:=l (X.new k #[F K 3,F K I,F K x,F K ac,F K P,F K N,F K M,F K H,F K time,F K a.rows,F K a.y,F K a.Z,F K a.af,F K a.ag,F K a.ai,F K a.aj] 41);clear T ad;go_enter func55,ntmps55;go_wp2_with fail
 refine((b R) _ (b Y)).mono ?_;rintro n w ⟨rfl,y⟩;have A:=l ((b Y).trans y);have aD:=(b ah) _ (b A);have au:=(y.e (b Q) (λe=>e)).T;have aC:=(y.e (b Q) (λe=>e)).lt;have aw:=l (y.e (b Q) (λe=>e));have i:=(b af).row.mod (b A) (λe=>e);have ai:w.cell? ⟨d,c* 6,J⟩=E (F K s.row):=by have:=i.row c hi;rw[b v] at this;exact this
 have aj:w.cell? ⟨d,c* 6+1,J⟩=E (F K s.ae):=by have:=i.ae c hi;rw[b v] at this;exact this
 have ak:w.cell? ⟨d,c* 6+2,J⟩=E (F K s.st):=by have:=i.st c hi;rw[b v] at this;exact this
 have am:w.cell? ⟨d,c* 6+3,J⟩=E (F K s.pa):=by have:=i.pa c hi;rw[b v] at this;exact this
 have ao:w.cell? ⟨d,c* 6+4,J⟩=E (F K s.cl):=by have:=i.cl c hi;rw[b v] at this;exact this
 have ap:w.cell? ⟨d,c* 6+5,J⟩=E (F K s.un):=by have:=i.un c hi;rw[b v] at this;exact this
 have ay:=i.iX;have ax:=l i;clear y i;clear ai aj ak am ao ap;go_wp2_with fail;refine((b S) _ (b A)).mono ?_;rintro n av ⟨rfl,ab,aa⟩;have ag:=l (show cw k av gf o d B p r W from⟨ab,((b A).mono (λ_ _ e=>e.elim)).trans aa⟩);clear ab aa au;go_wp2;go_ret;exact⟨rfl,b ag⟩
theorem NL(aF gf y e S a:Nat)(p:O)(r:List z)(Y H ac ad ab v T time:Int)(c:O)(j:U)(Z:fY j gf y e S p r)(d:z)(hi:a<r.length)(ar:r[a]=d)(N:∀s,G No j s->Calls h 85 #[g (E (u gf y J)),t #[F K H,F K ac]] s λx w'=>x=q (F K (a:Nat))/\G No s w'):Calls h 55 #[g (E (u aF 0 J)),g (E (u gf y J)),t #[F K 4,F K Y,F K H,F K ac,F K ad,F K ab,F K v,F K T,F K time,F K c.rows,F K c.y,F K c.Z,F K c.af,F K c.ag,F K c.ai,F K c.aj]] j λx w'=>x=q (F K (dK d.st d.pa v))/\cw j w' gf y e S p r (jt (dK d.st d.pa v) r a d.bZ):=by
 have P:=l λs=>yV d v s;unfold eB at P;generalize dK d.st d.pa v=W at *;have N:=l N;have az:=l λs (aA:G No j s)=>fZ aA Z.slice (λi=>i);have aI:(a:Int)<(r.length:Int):=by omega
 have aH:(0:Int)<=a:=by omega
 have aK:¬(a:Int)<0:=by omega
 have B:=l Z;have n:=l ar;have af:=l ((G.refl No j).alloc (m #[F K 4,F K Y,F K H,F K ac,F K ad,F K ab,F K v,F K T,F K time,F K c.rows,F K c.y,F K c.Z,F K c.af,F K c.ag,F K c.ai,F K c.aj] 41));have M:=l (X.new j #[F K 4,F K Y,F K H,F K ac,F K ad,F K ab,F K v,F K T,F K time,F K c.rows,F K c.y,F K c.Z,F K c.af,F K c.ag,F K c.ai,F K c.aj] 41);clear Z ar;go_enter func55,ntmps55;go_wp2_with fail
 refine((b N) _ (b af)).mono ?_;rintro x w ⟨rfl,A⟩;have Q:=l ((b af).trans A);have aE:=(b az) _ (b Q);have aB:=(A.e (b M) (λi=>i)).T;have aC:=(A.e (b M) (λi=>i)).lt;have av:=l (A.e (b M) (λi=>i));have k:=(b B).row.mod (b Q) (λi=>i);have ag:w.cell? ⟨e,a* 6,J⟩=E (F K d.row):=by have:=k.row a hi;rw[b n] at this;exact this
 have ah:w.cell? ⟨e,a* 6+1,J⟩=E (F K d.ae):=by have:=k.ae a hi;rw[b n] at this;exact this
 have ai:w.cell? ⟨e,a* 6+2,J⟩=E (F K d.st):=by have:=k.st a hi;rw[b n] at this;exact this
 have aj:w.cell? ⟨e,a* 6+3,J⟩=E (F K d.pa):=by have:=k.pa a hi;rw[b n] at this;exact this
 have ak:w.cell? ⟨e,a* 6+4,J⟩=E (F K d.cl):=by have:=k.cl a hi;rw[b n] at this;exact this
 have am:w.cell? ⟨e,a* 6+5,J⟩=E (F K d.un):=by have:=k.un a hi;rw[b n] at this;exact this
 have ao:=k.iX;have ay:=l k;clear A k
 have aw:=l λ(au:U) (ap:G No j au)=>(show cw j ((((((au.setCell ⟨e,a* 6,J⟩ (F K d.row)).setCell ⟨e,a* 6+1,J⟩ (F K d.ae)).setCell ⟨e,a* 6+2,J⟩ (F K 0)).setCell ⟨e,a* 6+3,J⟩ (F K 0)).setCell ⟨e,a* 6+4,J⟩ (F K 0)).setCell ⟨e,a* 6+5,J⟩ (F K 0)) gf y e S p r (jt 0 r a d.bZ) from
  ⟨((b B).row.mod ap (λi=>i)).kK a hi d.bZ,(ap.mono (S':=λaa=>aa=e) (λ_ _ i=>i.elim)).kK (S:=λaa=>aa=e) rfl a _ _ _ _ _ _⟩)
 go_upto_region 10 with fail;go_cut [9] (λaD aG=>aD=F K W/\Hid (G No j aG))
 case first=>
  go_region_with (go_at_call 87;refine((b P) _).mono ?_;rintro x ae ⟨rfl,aJ⟩)
  all_goals go_wp2
  all_goals go_meet
  all_goals exact⟨rfl,(b Q).drew.trans (by assumption)⟩
 case rest=>
  obtain⟨rfl,R⟩:=hcut;generalize wc=ae at *;clear ag ah ai aj ak am ao aB aC av ay aE P;by_cases I:W=0
  .subst I;have o:=(b B).row.mod (b R) (λi=>i);have ag:ae.cell? ⟨e,a* 6,J⟩=E (F K d.row):=by have:=o.row a hi;rw[b n] at this;exact this
   have ah:ae.cell? ⟨e,a* 6+1,J⟩=E (F K d.ae):=by have:=o.ae a hi;rw[b n] at this;exact this
   have ai:=o.st a hi;have aj:=o.pa a hi;have ak:=o.cl a hi;have am:=o.un a hi;have ao:=o.iX;clear o;go_wp2;go_ret;exact⟨rfl,(b aw) _ (b R)⟩
  .have hd:(W==0)=false:=by simpa using I
   have ax:=l I;clear I;go_wp2;go_ret;rw[mL (b ax)];exact⟨rfl,cw.same (b B) (b R)⟩
theorem NM(az gf w i R d:Nat)(p:O)(k:List z)(T B ac aa Z Y S time:Int)(c:O)(n:U)(W:fY n gf w i R p k)(a:z)(hi:d<k.length)(ar:k[d]=a)(Q:∀v,G No n v->Calls h 85 #[g (E (u gf w J)),t #[F K B,F K ac]] v λH w'=>H=q (F K (d:Nat))/\G No v w')(ap:a.st=0->a.pa=0/\a.cl=0/\a.un=0):
  Calls h 55 #[g (E (u az 0 J)),g (E (u gf w J)),t #[F K 6,F K T,F K B,F K ac,F K aa,F K Z,F K Y,F K S,F K time,F K c.rows,F K c.y,F K c.Z,F K c.af,F K c.ag,F K c.ai,F K c.aj]] n λH w'=>H=q (F K (if a.st≠0 then 9 else 0))/\cw n w' gf w i R p k (jt (if a.st≠0 then 9 else 0) k d ⟨a.row,a.ae,3,0,0,0⟩):=by
 have N:=l ap;clear ap;generalize ao:(if a.st≠0 then(9:Int) else 0)=am;have y:=l ao;clear ao;have Q:=l Q;have ax:=l λv (ay:G No n v)=>fZ ay W.slice (λj=>j);have aG:(d:Int)<(k.length:Int):=by omega
 have aF:(0:Int)<=d:=by omega
 have aH:¬(d:Int)<0:=by omega
 have M:=l W;have o:=l ar;have ab:=l ((G.refl No n).alloc (m #[F K 6,F K T,F K B,F K ac,F K aa,F K Z,F K Y,F K S,F K time,F K c.rows,F K c.y,F K c.Z,F K c.af,F K c.ag,F K c.ai,F K c.aj] 41));have I:=l (X.new n #[F K 6,F K T,F K B,F K ac,F K aa,F K Z,F K Y,F K S,F K time,F K c.rows,F K c.y,F K c.Z,F K c.af,F K c.ag,F K c.ai,F K c.aj] 41);clear W ar;go_enter func55,ntmps55;go_wp2_with fail
 refine((b Q) _ (b ab)).mono ?_;rintro H s ⟨rfl,x⟩;have A:=l ((b ab).trans x);have aJ:=(b ax) _ (b A);have aE:=(x.e (b I) (λj=>j)).T;have aI:=(x.e (b I) (λj=>j)).lt;have aA:=l (x.e (b I) (λj=>j));have e:=(b M).row.mod (b A) (λj=>j);have ag:s.cell? ⟨i,d* 6,J⟩=E (F K a.row):=by have:=e.row d hi;rw[b o] at this;exact this
 have ah:s.cell? ⟨i,d* 6+1,J⟩=E (F K a.ae):=by have:=e.ae d hi;rw[b o] at this;exact this
 have aC:s.cell? ⟨i,d* 6+2,J⟩=E (F K a.st):=by have:=e.st d hi;rw[b o] at this;exact this
 have ai:s.cell? ⟨i,d* 6+3,J⟩=E (F K a.pa):=by have:=e.pa d hi;rw[b o] at this;exact this
 have aj:s.cell? ⟨i,d* 6+4,J⟩=E (F K a.cl):=by have:=e.cl d hi;rw[b o] at this;exact this
 have ak:s.cell? ⟨i,d* 6+5,J⟩=E (F K a.un):=by have:=e.un d hi;rw[b o] at this;exact this
 have aD:=e.iX;have aB:=l e;clear x e;by_cases r:a.st=0
 .have hd:(a.st !=0)=false:=by simpa using r
  have P:=l (show am=0 from by rw[<-b y,f (by simpa using r)]);obtain⟨ad,ae,af⟩:=(b N) r;have au:=l (show(⟨a.row,a.ae,3,a.pa,a.cl,a.un⟩:z)=⟨a.row,a.ae,3,0,0,0⟩ from by rw[ad,ae,af]);have av:=l (cw.same (b M) (b A));clear ag ah ai aj ak ad ae af y N r;go_wp2;go_ret;rw[b P,uK,<-b au];have aw:cw n s gf w i R p k (k.set d a):=by rw[<-b o,pj];exact b av
  exact⟨rfl,aw.put hi 2 (by omega) (F K 3) ⟨a.row,a.ae,3,a.pa,a.cl,a.un⟩ rfl⟩
 .have hd:(a.st !=0)=true:=by simpa using r
  have P:=l (show am=9 from by rw[<-b y,D (by simpa using r)]);clear ag ah ai aj ak y N r;go_wp2;go_ret;rw[b P,mL (by omega)];exact⟨rfl,cw.same (b M) (b A)⟩
theorem NN(az gf w i R d:Nat)(p:O)(k:List z)(T B ac aa Z Y S time:Int)(c:O)(n:U)(W:fY n gf w i R p k)(a:z)(hi:d<k.length)(ar:k[d]=a)(Q:∀v,G No n v->Calls h 85 #[g (E (u gf w J)),t #[F K B,F K ac]] v λH w'=>H=q (F K (d:Nat))/\G No v w')(ap:a.st=3->a.pa=0/\a.cl=0/\a.un=0):
  Calls h 55 #[g (E (u az 0 J)),g (E (u gf w J)),t #[F K 7,F K T,F K B,F K ac,F K aa,F K Z,F K Y,F K S,F K time,F K c.rows,F K c.y,F K c.Z,F K c.af,F K c.ag,F K c.ai,F K c.aj]] n λH w'=>H=q (F K (if a.st≠3 then 10 else 0))/\cw n w' gf w i R p k (jt (if a.st≠3 then 10 else 0) k d ⟨a.row,a.ae,0,0,0,0⟩):=by
 have N:=l ap;clear ap;generalize ao:(if a.st≠3 then(10:Int) else 0)=am;have y:=l ao;clear ao;have Q:=l Q;have ax:=l λv (ay:G No n v)=>fZ ay W.slice (λj=>j);have aG:(d:Int)<(k.length:Int):=by omega
 have aF:(0:Int)<=d:=by omega
 have aH:¬(d:Int)<0:=by omega
 have M:=l W;have o:=l ar;have ab:=l ((G.refl No n).alloc (m #[F K 7,F K T,F K B,F K ac,F K aa,F K Z,F K Y,F K S,F K time,F K c.rows,F K c.y,F K c.Z,F K c.af,F K c.ag,F K c.ai,F K c.aj] 41));have I:=l (X.new n #[F K 7,F K T,F K B,F K ac,F K aa,F K Z,F K Y,F K S,F K time,F K c.rows,F K c.y,F K c.Z,F K c.af,F K c.ag,F K c.ai,F K c.aj] 41);clear W ar;go_enter func55,ntmps55;go_wp2_with fail
 refine((b Q) _ (b ab)).mono ?_;rintro H s ⟨rfl,x⟩;have A:=l ((b ab).trans x);have aJ:=(b ax) _ (b A);have aE:=(x.e (b I) (λj=>j)).T;have aI:=(x.e (b I) (λj=>j)).lt;have aA:=l (x.e (b I) (λj=>j));have e:=(b M).row.mod (b A) (λj=>j);have ag:s.cell? ⟨i,d* 6,J⟩=E (F K a.row):=by have:=e.row d hi;rw[b o] at this;exact this
 have ah:s.cell? ⟨i,d* 6+1,J⟩=E (F K a.ae):=by have:=e.ae d hi;rw[b o] at this;exact this
 have aC:s.cell? ⟨i,d* 6+2,J⟩=E (F K a.st):=by have:=e.st d hi;rw[b o] at this;exact this
 have ai:s.cell? ⟨i,d* 6+3,J⟩=E (F K a.pa):=by have:=e.pa d hi;rw[b o] at this;exact this
 have aj:s.cell? ⟨i,d* 6+4,J⟩=E (F K a.cl):=by have:=e.cl d hi;rw[b o] at this;exact this
 have ak:s.cell? ⟨i,d* 6+5,J⟩=E (F K a.un):=by have:=e.un d hi;rw[b o] at this;exact this
 have aD:=e.iX;have aB:=l e;clear x e;by_cases r:a.st=3
 .have hd:(a.st !=3)=false:=by simpa using r
  have P:=l (show am=0 from by rw[<-b y,f (by simpa using r)]);obtain⟨ad,ae,af⟩:=(b N) r;have au:=l (show(⟨a.row,a.ae,0,a.pa,a.cl,a.un⟩:z)=⟨a.row,a.ae,0,0,0,0⟩ from by rw[ad,ae,af]);have av:=l (cw.same (b M) (b A));clear ag ah ai aj ak ad ae af y N r;go_wp2;go_ret;rw[b P,uK,<-b au];have aw:cw n s gf w i R p k (k.set d a):=by rw[<-b o,pj];exact b av
  exact⟨rfl,aw.put hi 2 (by omega) (F K 0) ⟨a.row,a.ae,0,a.pa,a.cl,a.un⟩ rfl⟩
 .have hd:(a.st !=3)=true:=by simpa using r
  have P:=l (show am=10 from by rw[<-b y,D (by simpa using r)]);clear ag ah ai aj ak y N r;go_wp2;go_ret;rw[b P,mL (by omega)];exact⟨rfl,cw.same (b M) (b A)⟩
theorem wW(aE gf o j B c:Nat)(p:O)(s:List z)(W A ac M I H S time:Int)(a:O)(k:U)(Y:fY k gf o j B p s)(v:z)(hi:c<s.length)(ae:s[c]=v)(P:∀d,G No k d->Calls h 85 #[g (E (u gf o J)),t #[F K A,F K ac]] d λi w'=>i=q (F K (c:Nat))/\G No d w')(af T:Int)(Z:List z)(R:∀d,G No k d->Calls h 85 #[g (E (u gf o J)),t #[F K M,F K I]] d λi w'=>i=q (F K af)/\G No d w')
  (Q:∀d,G No k d->Calls h 88 #[g (E (u gf o J)),F K c,F K af,F K H] d λi w'=>i=q (F K T)/\cw d w' gf o j B p s Z):Calls h 55 #[g (E (u aE 0 J)),g (E (u gf o J)),t #[F K 5,F K W,F K A,F K ac,F K M,F K I,F K H,F K S,F K time,F K a.rows,F K a.y,F K a.Z,F K a.af,F K a.ag,F K a.ai,F K a.aj]] k λi w'=>i=q (F K T)/\cw k w' gf o j B p s Z:=by
 have R:=l R;have Q:=l Q;have P:=l P;have ak:=l λd (ax:G No k d)=>fZ ax Y.slice (λe=>e);have aI:(c:Int)<(s.length:Int):=by omega
 have aH:(0:Int)<=c:=by omega
 have aK:¬(c:Int)<0:=by omega
 have ah:=l Y;have w:=l ae;have ab:=l ((G.refl No k).alloc (m #[F K 5,F K W,F K A,F K ac,F K M,F K I,F K H,F K S,F K time,F K a.rows,F K a.y,F K a.Z,F K a.af,F K a.ag,F K a.ai,F K a.aj] 41));have N:=l (X.new k #[F K 5,F K W,F K A,F K ac,F K M,F K I,F K H,F K S,F K time,F K a.rows,F K a.y,F K a.Z,F K a.af,F K a.ag,F K a.ai,F K a.aj] 41);clear Y ae;go_enter func55,ntmps55;go_wp2_with fail
 refine((b P) _ (b ab)).mono ?_;rintro i r ⟨rfl,y⟩;have x:=l ((b ab).trans y);have aD:=(b ak) _ (b x);have ay:=(y.e (b N) (λe=>e)).T;have aB:=(y.e (b N) (λe=>e)).lt;have aa:=l (y.e (b N) (λe=>e));have n:=(b ah).row.mod (b x) (λe=>e);have am:r.cell? ⟨j,c* 6,J⟩=E (F K v.row):=by have:=n.row c hi;rw[b w] at this;exact this
 have ao:r.cell? ⟨j,c* 6+1,J⟩=E (F K v.ae):=by have:=n.ae c hi;rw[b w] at this;exact this
 have ap:r.cell? ⟨j,c* 6+2,J⟩=E (F K v.st):=by have:=n.st c hi;rw[b w] at this;exact this
 have ar:r.cell? ⟨j,c* 6+3,J⟩=E (F K v.pa):=by have:=n.pa c hi;rw[b w] at this;exact this
 have au:r.cell? ⟨j,c* 6+4,J⟩=E (F K v.cl):=by have:=n.cl c hi;rw[b w] at this;exact this
 have av:r.cell? ⟨j,c* 6+5,J⟩=E (F K v.un):=by have:=n.un c hi;rw[b w] at this;exact this
 have aw:=n.iX;have aj:=l n;clear y n;clear am ao ap ar au av aw aj;go_upto_region 15 with fail;go_cut [6] (λaC aF=>aC=F K T/\Hid (cw k aF gf o j B p s Z))
 case first=>
  have ad:=λd (az:G No r d)=>(az.e (b aa) (λe=>e)).T;have ag:=l ad;clear ad
  go_region_with (first
   |(go_at_call 85;refine((b R) _ (b x).drew).mono ?_;rintro i aN ⟨rfl,aA⟩;have aG:=(b ag) _ ((G.refl No r).drew.trans aA))
   |(go_at_call 88;refine((b Q) _ ((b x).drew.trans (by assumption))).mono ?_;rintro i aO ⟨rfl,aL,aJ⟩))
  all_goals go_wp2
  all_goals go_meet
  all_goals exact⟨rfl,(by assumption),(((b x).drew.trans (by assumption)).mono (λ_ _ e=>e.elim)).trans (by assumption)⟩
 case rest=>
  obtain⟨rfl,ai⟩:=hcut;generalize wc=aP at *;clear ay aB aa aD x;go_wp2;go_ret;exact⟨rfl,b ai⟩
def dT(p:O)(a:List z)(b:aK)(c:Int):List z:=if bH p a b c=0 then eD p a b else a
theorem NQ{gf y:Nat}{p:O}(i:fY I gf Q P y p S)(X:aJ p S)(s:aK)(aL:2<=s.kind/\s.kind<=7)(ar: -9223372036854775808<=s.time/\s.time<=9223372036854775807)(r:Int)(aE:0<=r/\r<=4611686018427387000)(aP:I.cell? (u w 1 J)=E (F K r)):Calls h 55 #[g (E (u w 0 J)),g (E (u gf Q J)),t (aw s)] I λT w'=>
   T=q (F K (bH p S s r))/\cw I w' gf Q P y p S (dT p S s r):=by
 by_cases N:p.e s.aA s.ac=true
 case neg=>
  have N:p.e s.aA s.ac=false:=by simpa using N
  have l:bH p S s r=5:=by unfold bH;rw[f (by omega),D (.inl N)]
  have x:dT p S s r=S:=by unfold dT;rw[l,f (by omega)]
  rw[l,x];refine(NJ w gf Q s I (λo v=>wV (i.mod v) X _ _ N)).mono ?_;rintro T w' ⟨rfl,aO⟩;exact⟨rfl,cw.same i aO⟩
 obtain⟨hi,ag,aB,aA⟩:=nF X N;have hF:∀o,G No I o->Calls h 85 #[g (E (u gf Q J)),t #[F K s.aA,F K s.ac]] o λT w'=>T=q (F K (p.idx s.aA s.ac:Nat))/\G No o w':=λo v=>wU (i.mod v) X _ _ N;have aj:(aZ p S s.aA s.ac).wf:=by rw[ag];exact X.dX _ (eK hi)
 have af:(aZ p S s.aA s.ac).row=s.aA:=by rw[ag];exact aB
 have ad:(aZ p S s.aA s.ac).ae=s.ac:=by rw[ag];exact aA
 have aD:p.bI=true:=X.bI;obtain⟨aa,k,e,ac,c,b,d,j,time,n⟩:=s;simp only at aL ar N hi ag aB aA hF aj af ad;have ae:∀ay:Int,(ay=5->p.e c b=true)->¬(p.e e ac=false\/(ay=5/\p.e c b=false)):=λay aH i=>by
  obtain i|⟨i,az⟩:=i
  .rw[N] at i;cases i
  .rw[aH i] at az;cases az
 generalize R:aZ p S e ac=a at *;have A:S[p.idx e ac]=a:=ag.symm;have aN:aa=2\/aa=3\/aa=4\/aa=5\/aa=6\/aa=7:=by omega
 have aF:∀o,G No I o->o.cell? (u w 1 J)=E (F K r):=λo v=>fZ v aP (λaU=>aU);obtain rfl|rfl|rfl|rfl|rfl|rfl:=aN
 ·
  have l:bH p S ⟨2,k,e,ac,c,b,d,j,time,n⟩ r=if dg ⟨2,k,e,ac,c,b,d,j,time,n⟩≠0 then dg ⟨2,k,e,ac,c,b,d,j,time,n⟩ else mJ r time a.st (M.leftOf p S j.toNat):=by
   unfold bH mJ;simp only;rw[f (by omega),f (ae 2 (λi=>absurd i (by decide))),D trivial,R]
  by_cases H:dg ⟨2,k,e,ac,c,b,d,j,time,n⟩=0
  .rw[f (by simpa using H)] at l;obtain⟨av,ax,ah,ai⟩:=mE H;simp only at av ax ah ai;obtain⟨B,rfl⟩:∃B:Nat,j=(B:Int):=⟨j.toNat,by omega⟩;have x:dT p S ⟨2,k,e,ac,c,b,d,B,time,n⟩ r=jt (mJ r time a.st (M.leftOf p S B)) S (p.idx e ac) ⟨a.row,a.ae,1,d,B,time⟩:=by
    unfold dT jt eD;rw[l,af,ad];simp
   rw[l,x];exact D6 w gf Q P y _ p S k e ac c b d B time n I i a hi A hF _ _ (λo v=>Nz w gf Q P y _ p S k e ac c b d time r B n o (i.mod v) a ⟨hi,A⟩ aD (by omega) ⟨ah,ai⟩ ar aE (aF o v))
  .rw[D H] at l;have x:dT p S ⟨2,k,e,ac,c,b,d,j,time,n⟩ r=S:=by unfold dT;rw[l,f H]
   rw[x,l];exact D6 w gf Q P y _ p S k e ac c b d j time n I i a hi A hF _ _ (λo v=>D3 w gf Q P y _ p S ⟨2,k,e,ac,c,b,d,j,time,n⟩ o (i.mod v) H)
 ·
  have l:bH p S ⟨3,k,e,ac,c,b,d,j,time,n⟩ r=if dg ⟨3,k,e,ac,c,b,d,j,time,n⟩≠0 then dg ⟨3,k,e,ac,c,b,d,j,time,n⟩ else kJ d j (M.leftOf p S j.toNat) a:=by
   unfold bH kJ;simp only;rw[f (by omega),f (ae 3 (λi=>absurd i (by decide))),f (by decide),D trivial,R]
  by_cases H:dg ⟨3,k,e,ac,c,b,d,j,time,n⟩=0
  .rw[f (by simpa using H)] at l;obtain⟨av,ax,ah,ai⟩:=mE H;simp only at av ax ah ai;obtain⟨B,rfl⟩:∃B:Nat,j=(B:Int):=⟨j.toNat,by omega⟩;have x:dT p S ⟨3,k,e,ac,c,b,d,B,time,n⟩ r=jt (kJ d B (M.leftOf p S B) a) S (p.idx e ac) ⟨a.row,a.ae,2,d,B,0⟩:=by
    unfold dT jt eD;rw[l,af,ad];simp
   rw[l,x];exact D7 w gf Q P y _ p S k e ac c b d B time n I i a hi A hF _ _ (λo v=>ND w gf Q P y _ p S k e ac c b d time r B n o (i.mod v) a ⟨hi,A⟩ aD (by omega) ⟨ah,ai⟩ ar aE (aF o v) (λab=>(aj.bare (.inl ab)).2.2))
  .rw[D H] at l;have x:dT p S ⟨3,k,e,ac,c,b,d,j,time,n⟩ r=S:=by unfold dT;rw[l,f H]
   rw[x,l];exact D7 w gf Q P y _ p S k e ac c b d j time n I i a hi A hF _ _ (λo v=>D3 w gf Q P y _ p S ⟨3,k,e,ac,c,b,d,j,time,n⟩ o (i.mod v) H)
 ·
  have l:bH p S ⟨4,k,e,ac,c,b,d,j,time,n⟩ r=dK a.st a.pa d:=by
   unfold bH;simp only;rw[f (by omega),f (ae 4 (λi=>absurd i (by decide))),f (by decide),f (by decide),D trivial,R]
  have x:dT p S ⟨4,k,e,ac,c,b,d,j,time,n⟩ r=jt (dK a.st a.pa d) S (p.idx e ac) a.bZ:=by
   unfold dT jt eD;rw[l];simp[R]
  rw[l,x];exact NL w gf Q P y _ p S k e ac c b d j time n I i a hi A hF
 ·
  by_cases Z:p.e c b=true
  case neg=>
   have Z:p.e c b=false:=by simpa using Z
   have l:bH p S ⟨5,k,e,ac,c,b,d,j,time,n⟩ r=5:=by unfold bH;simp only;rw[f (by omega),D (.inr ⟨trivial,Z⟩)]
   have x:dT p S ⟨5,k,e,ac,c,b,d,j,time,n⟩ r=S:=by unfold dT;rw[l,f (by omega)]
   rw[l,x];exact wW w gf Q P y _ p S k e ac c b d j time n I i a hi A hF (-1) 5 S (λo v=>wV (i.mod v) X _ _ Z) (λo v=>NH gf Q P y _ p S d o (i.mod v))
  obtain⟨ap,au,aS,aQ⟩:=nF X Z;have l:bH p S ⟨5,k,e,ac,c,b,d,j,time,n⟩ r=if dK a.st a.pa d≠0 then dK a.st a.pa d else if (aZ p S c b).st≠0 then 9 else 0:=by
   unfold bH;simp only;rw[f (by omega),f (show ¬(p.e e ac=false\/True/\p.e c b=false) from by rw[N,Z];simp),f (by decide),f (by decide),f (by decide),D trivial,R]
  have aT:(aZ p S c b).row=c:=by rw[au];exact aS
  have aR:(aZ p S c b).ae=b:=by rw[au];exact aQ
  generalize aX:aZ p S c b=Y at *;have ak:S[p.idx c b]=Y:=au.symm;have ao:∀o,G No I o->Calls h 85 #[g (E (u gf Q J)),t #[F K c,F K b]] o λT w'=>T=q (F K (p.idx c b:Nat))/\G No o w':=λo v=>wU (i.mod v) X _ _ Z;by_cases W:dK a.st a.pa d=0
  case neg=>
   rw[D W] at l;have x:dT p S ⟨5,k,e,ac,c,b,d,j,time,n⟩ r=S:=by unfold dT;rw[l,f W]
   rw[l,x];exact wW w gf Q P y _ p S k e ac c b d j time n I i a hi A hF _ _ S ao (λo v=>D5 gf Q P y _ _ p S d o (i.mod v) a Y hi A ap ak _ W (.inl rfl))
  rw[f (by simpa using W)] at l;by_cases am:Y.st=0
  case neg=>
   rw[D am] at l;have x:dT p S ⟨5,k,e,ac,c,b,d,j,time,n⟩ r=S:=by unfold dT;rw[l,f (by omega)]
   rw[l,x];exact wW w gf Q P y _ p S k e ac c b d j time n I i a hi A hF _ 9 S ao (λo v=>D5 gf Q P y _ _ p S d o (i.mod v) a Y hi A ap ak _ (by omega) (.inr ⟨W,am,rfl⟩))
  rw[f (by simpa using am)] at l;have aC:p.idx e ac≠p.idx c b:=by
   intro T;have:a.st=Y.st:=by
    rw[<-A,<-ak];congr 1;exact getElem_congr_idx T
   unfold dK at W;split at W
   .omega
   .rename_i aI;have aW:a.st=1\/a.st=2:=by
     by_cases aG:a.st=1\/a.st=2
     .exact aG
     .exact absurd aG (by simpa using aI)
    omega
  have x:dT p S ⟨5,k,e,ac,c,b,d,j,time,n⟩ r=(S.set (p.idx c b) ⟨Y.row,Y.ae,a.st,a.pa,a.cl,a.un⟩).set (p.idx e ac) a.bZ:=by
   unfold dT eD;rw[l,D rfl,aT,aR];simp only[R];rw[f (by decide),f (by decide),D trivial];exact List.set_comm _ _ aC
  rw[l,x];exact wW w gf Q P y _ p S k e ac c b d j time n I i a hi A hF _ 0 _ ao (λo v=>NI gf Q P y _ _ p S d o (i.mod v) a Y hi A ap ak aC W am)
 ·
  have l:bH p S ⟨6,k,e,ac,c,b,d,j,time,n⟩ r=if a.st≠0 then 9 else 0:=by
   unfold bH;simp only;rw[f (by omega),f (ae 6 (λi=>absurd i (by decide))),f (by decide),f (by decide),f (by decide),f (by decide),D trivial,R]
  have x:dT p S ⟨6,k,e,ac,c,b,d,j,time,n⟩ r=jt (if a.st≠0 then 9 else 0) S (p.idx e ac) ⟨a.row,a.ae,3,0,0,0⟩:=by
   unfold dT jt eD;rw[l,af,ad];simp
  rw[l,x];exact NM w gf Q P y _ p S k e ac c b d j time n I i a hi A hF (λab=>aj.bare (.inl ab))
 ·
  have l:bH p S ⟨7,k,e,ac,c,b,d,j,time,n⟩ r=if a.st≠3 then 10 else 0:=by
   unfold bH;simp only;rw[f (by omega),f (ae 7 (λi=>absurd i (by decide))),f (by decide),f (by decide),f (by decide),f (by decide),f (by decide),R]
  have x:dT p S ⟨7,k,e,ac,c,b,d,j,time,n⟩ r=jt (if a.st≠3 then 10 else 0) S (p.idx e ac) ⟨a.row,a.ae,0,0,0,0⟩:=by
   unfold dT jt eD;rw[l];simp[R,z.bZ,af,ad]
  rw[l,x];exact NN w gf Q P y _ p S k e ac c b d j time n I i a hi A hF (λab=>aj.bare (.inr ab))
theorem eP.set{gf:Nat}(b:eP I gf w k)(a:Nat)(hi:a<k.length)(j:Nat)(z:j<10)(c:V)(x:aB)(A:cg x=(cg k[a]).setIfInBounds j c):eP (I.setCell ⟨gf,a* 10+j,J⟩ c) gf w (k.set a x):=by
 obtain⟨p,r,s,i⟩:=b.cur;refine⟨⟨_,r.set (a* 10+j) c,by simpa using s,λo y B n=>?_⟩,by simpa using b.le,b.max⟩;have l:o<k.length:=by simpa using y
 have v:a* 10+j<p.size:=by
  have:=b.le;omega
 by_cases d:o=a
 .subst d;simp only[ph];rw[A];by_cases e:j=B
  .subst e;rw[vI v,vI (by simpa [cg] using z)]
  .rw[mn (by omega),mn e];exact i _ l _ n
 .rw[mn (by omega),qX (λb=>d b.symm)];exact i _ l _ n
theorem eP.same{gf:Nat}(a:eP I gf w k)(b:Nat)(hi:b<k.length)(x:aB)(r:cg x=cg k[b]):eP I gf w (k.set b x):=by
 obtain⟨l,n,o,d⟩:=a.cur;refine⟨⟨l,n,o,λj p s i=>?_⟩,by simpa using a.le,a.max⟩;have e:j<k.length:=by simpa using p
 by_cases c:j=b
 .subst c;simp only[ph];rw[r];exact d _ e _ i
 .rw[qX (λa=>c a.symm)];exact d _ e _ i
structure bB (w:U) (ow:Nat->Nat) (wb:Nat) (v:V) (xs:List aB) (now:Int):Prop where
 e:X w wb #[v,F K now] 72
 kL:(xs=[]/\v=C J 0 0)\/∃gf cap,v=C (E (u gf 0 J)) xs.length cap/\eP w gf cap xs/\ow gf=2
 bw:ow wb=1
 bg:∀k,ow k≠0->k<w.heap.size
 Y:∀i (h:i<xs.length),bE w xs[i].g xs[i].cap xs[i].f.Y/\ow xs[i].g=i+3/\aJ xs[i].f.c xs[i].f.Y
 fg:xs.length<=20
theorem bB.mod{w w':U}{S:Nat->Prop}(a:bB w j Q N k v)(e:G S w w')(l:∀i,j i≠0->¬S i):bB w' j Q N k v:=by
 refine⟨e.e a.e (l _ (by rw[a.bw];omega)),?_,a.bw,λi p=>bj (a.bg i p) e.size,λr hi=>?_,a.fg⟩
 .obtain b|⟨o,n,b,c,d⟩:=a.kL
  .exact .inl b
  .exact .inr ⟨o,n,b,c.mod e (l _ (by rw[d];omega)),d⟩
 .obtain⟨b,c,d⟩:=a.Y r hi;exact⟨b.mod e (l _ (by rw[c];omega)),c,d⟩
theorem bB.D8{w':U}(b:bB I j w N k v)(a:Nat)(hi:a<k.length)(o:List z)(M:o.length=k[a].f.Y.length)(P:aJ k[a].f.c o)(O:bE w' k[a].g k[a].cap o)(n:G (λc=>c=k[a].g) I w'):bB w' j w N (k.set a ⟨⟨k[a].f.num,k[a].f.c,o,k[a].f.ep⟩,k[a].g,k[a].cap⟩) v:=by
 have x:=(b.Y a hi).2.1;have s:∀c,j c≠a+3->¬(c=k[a].g):=λc l d=>by rw[d] at l;exact l x
 refine⟨n.e b.e (s _ (by rw[b.bw];omega)),?_,b.bw,λc l=>bj (b.bg c l) n.size,λr B=>?_,by simpa using b.fg⟩
 .obtain⟨rfl,_⟩|⟨A,y,p,e,i⟩:=b.kL
  .exact absurd hi (fK _)
  .refine .inr ⟨A,y,by rw[kH];exact p,(e.mod n (s _ (by rw[i];omega))).same a hi _ ?_,i⟩;simp[cg,M]
 .have H:r<k.length:=by simpa using B
  by_cases d:r=a
  .subst d;simp only[ph];exact⟨O,x,P⟩
  .rw[qX (λb=>d b.symm)];obtain⟨p,e,i⟩:=b.Y r H;exact⟨p.mod n (s _ (by rw[e];omega)),e,i⟩
theorem bB.zC{gf:Nat}(b:bB I j w (C (E (u gf 0 J)) k.length Q) k v)(a:Nat)(hi:a<k.length)(r:Int):bB (I.setCell ⟨gf,a* 10+9,J⟩ (F K r)) j w (C (E (u gf 0 J)) k.length Q) (k.set a ⟨⟨k[a].f.num,k[a].f.c,k[a].f.Y,r⟩,k[a].g,k[a].cap⟩) v:=by
 have s:j gf=2/\eP I gf Q k:=by
  obtain⟨rfl,d⟩|⟨N,H,l,d,n⟩:=b.kL
  .exact absurd hi (fK _)
  .injection l with e M z;injection e with e;injection e with e;subst e z;exact⟨n,d⟩
 have p:G (λc=>c=gf) I (I.setCell ⟨gf,a* 10+9,J⟩ (F K r)):=(G.refl (λc=>c=gf) I).setCell (p:=⟨gf,a* 10+9,J⟩) (.inl rfl) _;have y:∀c,j c≠2->¬(c=gf):=λc o i=>by rw[i] at o;exact o s.1
 refine⟨p.e b.e (y _ (by rw[b.bw];omega)),.inr ⟨gf,Q,by rw[kH],s.2.set a hi 9 (by omega) _ _ (by simp[cg]),s.1⟩,b.bw,λc o=>bj (b.bg c o) p.size,λx A=>?_,by simpa using b.fg⟩;have B:x<k.length:=by simpa using A
 obtain⟨l,d,n⟩:=b.Y x B;by_cases i:x=a
 .subst i;simp only[ph];exact⟨l.mod p (y _ (by rw[d];omega)),d,n⟩
 .rw[qX (λb=>i b.symm)];exact⟨l.mod p (y _ (by rw[d];omega)),d,n⟩
theorem bB.D9(b:bB I j w N k v)(n:Int):bB (I.setCell (u w 1 J) (F K n)) j w N k n:=by
 have l:G (λa=>a=w) I (I.setCell (u w 1 J) (F K n)):=(G.refl (λa=>a=w) I).setCell (p:=u w 1 J) (.inl rfl) _;have o:∀a,j a≠1->¬(a=w):=λa i r=>by rw[r] at i;exact i b.bw
 refine⟨b.e.set 1 _,?_,b.bw,λa i=>bj (b.bg a i) l.size,λx hi=>?_,b.fg⟩
 .obtain c|⟨s,p,c,d,e⟩:=b.kL
  .exact .inl c
  .exact .inr ⟨s,p,c,d.mod l (o _ (by rw[e];omega)),e⟩
 .obtain⟨c,d,e⟩:=b.Y x hi;exact⟨c.mod l (o _ (by rw[d];omega)),d,e⟩
theorem ju{p:O}(a:aJ p S):S.length<=120:=bV.wf.jO a
theorem bB.fl{gf:Nat}(n:bB I j w (C (E (u gf 0 J)) k.length Q) k v)(a:Nat)(hi:a<k.length):fY I gf (a* 10) k[a].g k[a].cap k[a].f.c k[a].f.Y:=by
 have l:j gf=2/\eP I gf Q k:=by
  obtain⟨rfl,d⟩|⟨x,r,e,d,i⟩:=n.kL
  .exact absurd hi (fK _)
  .injection e with b s p;injection b with b;injection b with b;subst b p;exact⟨i,d⟩
 obtain⟨e,d,i⟩:=n.Y a hi;refine⟨e,cC (ju i) (by show 120<=1000;omega),λo=>by rw[o,d] at l;omega,l.2.T a hi 8 (by omega),λc y=>?_⟩;have:=l.2.T a hi (4+c) (by omega);rw[<-BM] at this;rw[this];have:c=0\/c=1\/c=2\/c=3:=by omega
 obtain rfl|rfl|rfl|rfl:=this<;>rfl
def gy{a:Type}(d:a->a)(b:Nat)(c:List a):List a:=(c.take b).map d++c.drop b
theorem wX(b:W->W)(a:List W):gy b 0 a=a:=by simp[gy]
theorem Ea(b:W->W)(a:List W):gy b a.length a=a.map b:=by simp[gy]
theorem sV(b:W->W)(c:Nat)(a:List W):(gy b c a).length=a.length:=by simp[gy];omega
theorem wY(d:W->W)(a:Nat)(b:List W)(c:a<b.length):(gy d a b)[a]'(by rw[sV];exact c)=b[a]:=by
 unfold gy;rw[uM (by simp;omega)];simp[uc (vO c)]
theorem zD(a:W->W)(b:Nat)(x:W)(c:List W):gy a (b+1) (x::c)=a x::gy a b c:=by simp[gy]
theorem zE(d:W->W):∀(a:Nat) (b:List W) (c:a<b.length),gy d (a+1) b=(gy d a b).set a (d b[a])
 |_,[],c=>absurd c (fK _)
 |0,x::b,c=>by rw[zD,wX,wX];rfl
 |a+1,x::b,c=>by rw[zD,zE d a b (by simpa using c),zD];rfl
def lW{a:Type}(b:a->Bool)(c:Nat)(d:List a):Bool:=(d.take c).any b
theorem zF(a:W->Bool)(b:Nat)(x:W)(c:List W):lW a (b+1) (x::c)=(a x||lW a b c):=by simp[lW]
theorem Eb(d:W->Bool):∀(b:Nat) (a:List W) (c:b<a.length),lW d (b+1) a=(lW d b a||d a[b])
 |_,[],c=>absurd c (fK _)
 |0,x::a,c=>by rw[zF];simp[lW]
 |b+1,x::a,c=>by rw[zF,Eb d b a (by simpa using c),zF,Bool.or_assoc];rfl
theorem NS(b:W->Bool)(a:List W):lW b a.length a=a.any b:=by simp[lW]
def rp(b:Int)(a:z):z:=if due b a then a.bZ else a
def iI(a:Int)(x:aB):aB:=⟨⟨x.f.num,x.f.c,eC a x.f.Y,if x.f.Y.any (due a) then K.wrap (x.f.ep+1) else x.f.ep⟩,x.g,x.cap⟩
theorem NT(d:Nat)(a:Int)(b:U)(e:¬(1<=a/\a<=100)):Calls h 51 #[g (E (u d 0 J)),F K a] b λc w'=>c=q (F K 8)/\w'=b:=by
 by_cases i:a<1
 .go_enter func51,ntmps51;go_wp2;go_ret;exact⟨rfl,rfl⟩
 .have j:a>100:=by omega
  go_enter func51,ntmps51;go_wp2;go_ret;exact⟨rfl,rfl⟩
theorem NU(d:Nat)(a b:Int)(c:U)(p:1<=a/\a<=100)(r:0<=b/\b<=4611686018427387000)(e:X c d #[C J 0 0,F K b] 72):Calls h 51 #[g (E (u d 0 J)),F K a] c λi w'=>i=q (F K 0)/\w'=c.setCell (u d 1 J) (F K (b+a)):=by
 have n:=e.T;have o:=e.aC;have k:¬a<1:=by omega
 have l:¬a>100:=by omega
 have s:K.wrap (b+a)=b+a:=gp _ (by omega) (by omega);clear e;go_enter func51,ntmps51;go_wp2_with fail;go_loopw [5] (λj wr=>j=F K 0/\wr=c.setCell (u d 1 J) (F K (b+a))) (λ_ _=>0)
 case atStart=>exact⟨rfl,rfl⟩
 case round=>
  obtain⟨rfl,rfl⟩:=hrel;go_wp2;go_ret;exact⟨rfl,rfl⟩
theorem bB.parts{gf:Nat}{ys:List aB}(d:bB I j w (C (E (u gf 0 J)) k.length Q) ys v)(l:ys.length=k.length)(r:0<k.length):j gf=2/\eP I gf Q ys:=by
 obtain⟨rfl,b⟩|⟨p,n,e,b,i⟩:=d.kL
 .simp at l;omega
 .injection e with a o c;injection a with a;injection a with a;subst a c;exact⟨i,b⟩
theorem NV{w3:U}{gf:Nat}(hi:P<k.length)(e:bB I j w (C (E (u gf 0 J)) k.length Q) (gy (iI v) P k) v)(p:bE w3 k[P].g k[P].cap (eC v k[P].f.Y))(o:G (λs=>s=k[P].g) I w3):(k[P].f.Y.any (due v)=false->bB w3 j w (C (E (u gf 0 J)) k.length Q) (gy (iI v) (P+1) k) v)/\(k[P].f.Y.any (due v)=true->bB (w3.setCell ⟨gf,P* 10+9,J⟩ (F K (K.wrap (k[P].f.ep+1)))) j w (C (E (u gf 0 J)) k.length Q) (gy (iI v) (P+1) k) v):=by
 have l:P<(gy (iI v) P k).length:=by rw[sV];exact hi
 have a:=wY (iI v) P k hi;have n:=zE (iI v) P k hi;have r:aJ k[P].f.c k[P].f.Y:=by have:=(e.Y P l).2.2;rwa [a] at this
 have b:=e.D8 (w':=w3) P l (eC v k[P].f.Y) (by rw[a];simp[eC]) (by rw[a];exact yQ r v) (by rw[a];exact p) (by rw[a];exact o);simp only[a] at b;refine⟨λhd=>?_,λhd=>?_⟩
 .rw[n];unfold iI;simp only[hd];exact b
 .have i:(List.set (gy (iI v) P k) P ⟨⟨k[P].f.num,k[P].f.c,eC v k[P].f.Y,k[P].f.ep⟩,k[P].g,k[P].cap⟩).length=k.length:=by rw[kH,sV]
  have d:(C (E (u gf 0 J)) k.length Q)=C (E (u gf 0 J)) (List.set (gy (iI v) P k) P ⟨⟨k[P].f.num,k[P].f.c,eC v k[P].f.Y,k[P].f.ep⟩,k[P].g,k[P].cap⟩).length Q:=by rw[i]
  rw[d] at b;have c:=b.zC P (by rw[i];exact hi) (K.wrap (k[P].f.ep+1));rw[<-d] at c;simp only[ph,uL] at c;rw[n];unfold iI;simp only[hd,iP];exact c
theorem NW(w gf S:Nat)(j:List aB)(r:Nat->Nat)(d e:Int)(z:U)(bw:1<=d/\d<=100)(bx:0<=e/\e<=4611686018427387000)(H:bB z r w (C (E (u gf 0 J)) j.length S) j e)(aL:0<j.length):Calls h 51 #[g (E (u w 0 J)),F K d] z λp w'=>p=q (F K 0)/\bB w' r w (C (E (u gf 0 J)) j.length S) (j.map (iI (e+d))) (e+d)/\G (λa=>r a≠0) z w':=by
 have a1:=H.e.T;have a3:=H.e.aC;have bq:¬d<1:=by omega
 have br:¬d>100:=by omega
 have bz:K.wrap (e+d)=e+d:=gp _ (by omega) (by omega);have az:=l (H.D9 (e+d));have aA:=l (show G (λa=>r a≠0) z (z.setCell (u w 1 J) (F K (e+d))) from(G.refl _ z).setCell (p:=u w 1 J) (.inl (by show r w≠0;rw[H.bw];omega)) _);have bl:=H.fg;have aF:=l H.bw;have aG:=l aL;clear H aL;go_enter func51,ntmps51;go_wp2_with fail
 go_loopw [5] (λar wr=>∃i:Nat,ar=F K i/\i<=j.length/\Hid (bB wr r w (C (E (u gf 0 J)) j.length S) (gy (iI (e+d)) i j) (e+d))/\Hid (G (λa=>r a≠0) z wr)) (λar _=>j.length - (intOf ar).toNat)
 case atStart=>exact⟨0,rfl,by omega,by rw[wX];exact az,aA⟩
 case round=>
  obtain⟨i,rfl,hi,A,aC⟩:=hrel;clear az aA a1 a3;have a2:=(b A).e.T;by_cases Z:i<j.length
  .have a5:(i:Int)<(j.length:Int):=by omega
   have bo:(0:Int)<=i:=by omega
   have bs:K.wrap ((i:Int)+1)=((i+1:Nat):Int):=by rw[bh _ (by omega) (by omega)];rfl
   have aj:i<(gy (iI (e+d)) i j).length:=by rw[sV];exact Z
   obtain⟨ak,ab⟩:=(b A).parts (by rw[sV]) (b aG);obtain⟨am,os,wf⟩:=(b A).Y i aj;rw[wY _ _ _ Z] at am os wf;have sl:=ab.T i aj 8 (by omega);have N:=ab.T i aj 9 (by omega);rw[wY _ _ _ Z] at sl N;have sl:wr.cell? ⟨gf,i* 10+8,J⟩=E (C (E ⟨j[i].g,0,J⟩) j[i].f.Y.length j[i].cap):=sl;have N:wr.cell? ⟨gf,i* 10+9,J⟩=E (F K j[i].f.ep):=N;have aN:wr.cell? (u w 1 J)=E (F K (e+d)):=(b A).e.T 1
   have X:¬gf=j[i].g:=λp=>by rw[p,os] at ak;omega
   have aw:¬w=j[i].g:=λp=>by have:=b aF;rw[p,os] at this;omega
   have aJ:=l λv (x:G (λa=>a=j[i].g) wr v)=>fZ x sl X;have ay:=l λv (x:G (λa=>a=j[i].g) wr v)=>fZ x N X;have aQ:=l λv (x:G (λa=>a=j[i].g) wr v)=>fZ x aN aw;have aU:=l λv (x:G (λa=>a=j[i].g) wr v)=>(show v.cell? (u w 0 J)=E (C (E (u gf 0 J)) j.length S) from fZ x ((b A).e.T 0) aw);have aP:=l λv (x:G (λa=>a=j[i].g) wr v)=>(ab.mod x X);have aI:=l am;have bg:=l wf
   have bv:j[i].f.Y.length<=120:=ju wf;have ST:=l λ(w3:U)=>NV (w3:=w3) Z (b A);have aR:=l ak;have aS:=l os;clear am os wf N aN X aw ab ak;have Y:∃O,j[i].f.ep=O:=⟨_,rfl⟩;obtain⟨O,Y⟩:=Y;rw[Y] at ay ST;generalize j[i].f.Y=c at *;generalize j[i].g=k at *;generalize j[i].cap=T at *;clear Y;generalize wr=aO at *;go_wp2_with fail
   go_loopw [7,8] (λbb au ad=>∃a:Nat,au=F K a/\bb=L (lW (due (e+d)) a c)/\a<=c.length/\Hid (bE ad k T (gy (rp (e+d)) a c))/\Hid (G (λa=>a=k) aO ad)) (λ_ au _=>c.length - (intOf au).toNat)
   case atStart=>exact⟨0,rfl,rfl,by omega,by rw[wX];exact aI,G.refl _ _⟩
   case round=>
    obtain⟨a,rfl,rfl,bt,s,n⟩:=hrel;have bd:=(b aJ) _ (b n);have a7:=(b aQ) _ (b n);have bf:=(b aU) _ (b n);clear a2 sl aI;by_cases aa:a<c.length
    .have a6:(a:Int)<(c.length:Int):=by omega
     have bp:(0:Int)<=a:=by omega
     have bu:K.wrap ((a:Int)+1)=((a+1:Nat):Int):=by rw[bh _ (by omega) (by omega)];rfl
     have y:a<(gy (rp (e+d)) a c).length:=by rw[sV];exact aa
     have aK:=wY (rp (e+d)) a c aa;have M:=l aK;have R:=l (zE (rp (e+d)) a c aa);have AS:=l (Eb (due (e+d)) a c aa);clear aK;generalize a4:lW (due (e+d)) a c=a0 at *;clear a4;go_upto_region 12 with fail;go_cut [71] (λbc ad=>bc=L (due (e+d) c[a])/\∃nq,ad=wr.drewN nq)
     case first=>
      have af:=(b s).st a y;have ag:=(b s).un a y;rw[b M] at af ag;by_cases d1:c[a].st=1
      .have W:(c[a].st==1)=true:=by simpa using d1
       by_cases d2:c[a].un<=e+d
       .have ah:decide (c[a].un<=e+d)=true:=by simpa using d2
        have I:=l (show due (e+d) c[a]=true from by unfold due;rw[W,ah];rfl);clear d1 d2;go_quiet (fail);go_wp2;go_meet;exact⟨by rw[b I],_,rfl⟩
       .have ah:decide (c[a].un<=e+d)=false:=by simpa using d2
        have I:=l (show due (e+d) c[a]=false from by unfold due;rw[W,ah];rfl);clear d1 d2;go_quiet (fail);go_wp2;go_meet;exact⟨by rw[b I],_,rfl⟩
      .have W:(c[a].st==1)=false:=by simpa using d1
       have I:=l (show due (e+d) c[a]=false from by unfold due;rw[W];rfl);clear d1;go_quiet (fail);go_wp2;go_meet;exact⟨by rw[b I],_,rfl⟩
     case rest=>
      obtain⟨rfl,nq,rfl⟩:=hcut;have o:=l ((b s).mod ((G.refl No wr).drewN nq) (λax=>ax));have Q:=l ((b n).drewN nq);have bA:=(b aJ) _ (b Q);clear s n bd a7 bf;generalize wr.drewN nq=av at *;have ai:due (e+d) c[a]=true\/due (e+d) c[a]=false:=by cases due (e+d) c[a]<;>simp
      have P:rp (e+d) c[a]=if due (e+d) c[a]=true then c[a].bZ else c[a]:=rfl
      obtain hd|hd:=ai
      .have aH:=l ((b o).kK a y c[a].bZ);have aW:=(b o).row a y;have aX:=(b o).ae a y;have af:=(b o).st a y;have aY:=(b o).pa a y;have aZ:=(b o).cl a y;have ag:=(b o).un a y;rw[b M] at aW aX af aY aZ ag;have bm:=(b o).iX;have ae:=l (show lW (due (e+d)) (a+1) c=true from by rw[b AS,hd,Bool.or_true])
       have B:=l (show Hid (bE ((((((av.setCell ⟨k,a* 6,J⟩ (F K c[a].row)).setCell ⟨k,a* 6+1,J⟩ (F K c[a].ae)).setCell ⟨k,a* 6+2,J⟩ (F K 0)).setCell ⟨k,a* 6+3,J⟩ (F K 0)).setCell ⟨k,a* 6+4,J⟩ (F K 0)).setCell ⟨k,a* 6+5,J⟩ (F K 0)).drew k T (gy (rp (e+d)) (a+1) c))/\
         Hid (G (λa=>a=k) aO ((((((av.setCell ⟨k,a* 6,J⟩ (F K c[a].row)).setCell ⟨k,a* 6+1,J⟩ (F K c[a].ae)).setCell ⟨k,a* 6+2,J⟩ (F K 0)).setCell ⟨k,a* 6+3,J⟩ (F K 0)).setCell ⟨k,a* 6+4,J⟩ (F K 0)).setCell ⟨k,a* 6+5,J⟩ (F K 0)).drew) from
        ⟨by rw[b R,P,D hd];exact(b aH).mod (G.refl No _).drew (λax=>ax),((b Q).kK (S:=λa=>a=k) rfl a _ _ _ _ _ _).drew⟩)
       rw[hd];clear o Q aH P M R AS hd;go_wp2_with fail;go_region
       all_goals go_wp2
       all_goals exact⟨⟨a+1,rfl,by rw[b ae],by omega,(b B).1,(b B).2⟩,by simp[intOf];omega⟩
      .have aT:=l (show bE av k T (gy (rp (e+d)) (a+1) c) from by
        rw[b R,P,hd,<-b M]
        simp only[mg,jQ,pj]
        exact b o)
       have ae:=l (show lW (due (e+d)) (a+1) c=a0 from by rw[b AS,hd,Bool.or_false]);rw[hd];clear o P M R AS hd;go_wp2;exact⟨⟨a+1,rfl,by rw[b ae],by omega,aT,Q⟩,by simp[intOf];omega⟩
    .have a6:¬(a:Int)<(c.length:Int):=by omega
     have p:a=c.length:=by omega
     subst p;rw[Ea] at s;rw[NS];have s:=l (show bE wr k T (eC (e+d) c) from b s);have bk:=(b ay) _ (b n);have bn:∀a8,wr.frozen? (u gf a8 J)=false:=by
      obtain⟨bi,ba,_⟩:=((b aP) _ (b n)).cur;exact ba.aC
     obtain⟨ao,ap⟩:=(b ST) wr (b s) (b n);have aE:=l (show G (λa=>r a≠0) z wr from(b aC).trans ((b n).mono (λa _ (p:a=k)=>by show r a≠0;rw[p,b aS];omega)));have ai:c.any (due (e+d))=true\/c.any (due (e+d))=false:=by cases c.any (due (e+d))<;>simp
     obtain hd|hd:=ai
     .have B:=l (ap hd);have a9:r gf≠0:=by rw[b aR];omega
      have aD:=l (show G (λa=>r a≠0) z (wr.setCell ⟨gf,i* 10+9,J⟩ (F K (K.wrap (O+1)))) from(b aE).setCell (p:=⟨gf,i* 10+9,J⟩) (.inl a9) _);rw[show K.wrap (O+1)=wrap64 (O+1) from(by unfold wrap64;exact lF _)] at B aD;rw[hd];clear ao ap hd s n;go_wp2;exact⟨⟨i+1,rfl,by omega,B,aD⟩,by simp[intOf];omega⟩
     .have B:=l (ao hd);rw[hd];clear ao ap hd s n;go_wp2;exact⟨⟨i+1,rfl,by omega,B,aE⟩,by simp[intOf];omega⟩
  .have a5:¬(i:Int)<(j.length:Int):=by omega
   have p:i=j.length:=by omega
   subst p;rw[Ea] at A;clear aG aF;go_wp2;go_ret;exact⟨rfl,b A,b aC⟩
theorem bB.NZ(d:bB I j w N k v):CJ I N k:=by
 obtain a|⟨c,b,a,e,i⟩:=d.kL
 .exact .inl a
 .exact .inr ⟨c,b,a,e⟩
theorem bB.find(a:bB I j w N k v)(b:Int):Calls h 52 #[g (E (u w 0 J)),F K b] I λc w'=>c=q (F K (dF k b))/\w'=I:=
 KB w k N b I (a.e.T 0) a.NZ (cC a.fg (by omega))
theorem bB.some(b:bB I j w N k v)(d:0<k.length):∃gf a,N=C (E (u gf 0 J)) k.length a:=by
 obtain⟨rfl,_⟩|⟨gf,a,c,_⟩:=b.kL
 .exact absurd d (yv _)
 .exact⟨gf,a,c⟩
theorem Ec(e:bB I j w N k v)(c n:Int)(i:dF k c= -1):Calls h 34 #[g (E (u w 0 J)),F K c,F K n] I λd w'=>d=q (aq #[F K 0,F K 2])/\G No I w':=by
 have a:=e.find c;rw[i] at a;have a:=l a;clear e i;go_enter func34,ntmps34;go_wp2_with fail;refine(b a).mono ?_;rintro d o ⟨rfl,rfl⟩;go_wp2;go_ret2;exact⟨rfl,G.refl _ _⟩
theorem N4(i:bB I j w N k v)(e a:Int)(p:Nat)(o:dF k e=p)(n:¬(0<=a/\a<4)):Calls h 34 #[g (E (u w 0 J)),F K e,F K a] I λd w'=>d=q (aq #[F K 0,F K 6])/\G No I w':=by
 have c:=i.find e;rw[o] at c;have c:=l c;have x:¬(p:Int)<0:=by omega
 clear i o;obtain r|r:=sN a 0
 .clear n;go_enter func34,ntmps34;go_wp2_with fail;refine(b c).mono ?_;rintro d s ⟨rfl,rfl⟩;go_wp2;go_ret2;exact⟨rfl,G.refl _ _⟩
 .have y:¬a<0:=by omega
  have z:a>=4:=by omega
  clear n;go_enter func34,ntmps34;go_wp2_with fail;refine(b c).mono ?_;rintro d s ⟨rfl,rfl⟩;go_wp2;go_ret2;exact⟨rfl,G.refl _ _⟩
theorem Oa{gf:Nat}(n:bB I j w (C (E (u gf 0 J)) k.length Q) k v)(s:Int)(a:Nat)(hi:a<k.length)(y:dF k s=a)(c:Nat)(z:c<4):Calls h 34 #[g (E (u w 0 J)),F K s,F K c] I λe w'=>e=q (aq #[F K (min (M.leftOf k[a].f.c k[a].f.Y c) 9),F K 0])/\G No I w':=by
 have d:=n.find s;rw[y] at d;have d:=l d;have i:=n.fl a hi;have wf:=(n.Y a hi).2.2;have x:=l (yT gf (a* 10) k[a].g k[a].cap k[a].f.c k[a].f.Y c z I i.row i.len i.slice (zB wf.bI) i.wT);have S:=n.e.T;have H:¬(a:Int)<0:=by omega
 have N:(a:Int)<(k.length:Int):=by omega
 have O:¬(c:Int)<0:=by omega
 have P:¬(c:Int)>=4:=by omega
 clear n y i wf;generalize M.leftOf k[a].f.c k[a].f.Y c=o at *;by_cases R:o>9
 .have p:=l (show min o 9=9 by omega);go_enter func34,ntmps34;go_wp2_with fail;refine(b d).mono ?_;rintro e A ⟨rfl,rfl⟩;go_wp2_with fail;refine(b x).mono ?_;rintro e B ⟨rfl,r⟩;go_wp2;go_ret2;exact⟨by rw[b p];rfl,r⟩
 .have p:=l (show min o 9=o by omega);go_enter func34,ntmps34;go_wp2_with fail;refine(b d).mono ?_;rintro e A ⟨rfl,rfl⟩;go_wp2_with fail;refine(b x).mono ?_;rintro e B ⟨rfl,r⟩;go_wp2;go_ret2;exact⟨by rw[b p];rfl,r⟩
theorem zG(b a c:Int)(j:0<=b/\b<=1000000)(i:0<=a/\a<=1099511627776)(d:U):Calls h 21 #[F K b,F K a,F K c] d λe w'=>e=q (L (decide (2* b+60* (a+1)+180<=c)))/\w'=d:=by
 have k:K.wrap (2* b)=2* b:=gp _ (by omega) (by omega);have l:K.wrap (a+1)=a+1:=gp _ (by omega) (by omega);have w3:K.wrap (60* (a+1))=60* (a+1):=gp _ (by omega) (by omega);have n:K.wrap (2* b+60* (a+1))=2* b+60* (a+1):=gp _ (by omega) (by omega);have o:K.wrap (2* b+60* (a+1)+180)=2* b+60* (a+1)+180:=gp _ (by omega) (by omega);go_enter func21,ntmps21;go_wp2;go_ret;exact⟨rfl,rfl⟩
theorem Ob(j:Nat)(a:aK)(c:U)(e:a.kind<1\/a.kind>9):Calls h 27 #[g (E (u j 0 J)),t (aw a)] c λi w'=>i=q (F K 1)/\G No c w':=by
 have d:=l ((G.refl No c).alloc (m (aw a) 41));unfold aw at *;by_cases k:a.kind<1
 .clear e;go_enter func27,ntmps27;go_wp2;go_ret;exact⟨rfl,b d⟩
 .have n:a.kind>9:=by omega
  clear e;go_enter func27,ntmps27;go_wp2;go_ret;exact⟨rfl,b d⟩
theorem zH(x:Nat)(p k ac w v s n time:Int)(a:O)(e:U)(o:Int)(i:U->Prop)(d:∀j,G No e j->Calls h 51 #[g (E (u x 0 J)),F K time] j λc w'=>c=q (F K o)/\i w'):Calls h 27 #[g (E (u x 0 J)),t #[F K 8,F K p,F K k,F K ac,F K w,F K v,F K s,F K n,F K time,F K a.rows,F K a.y,F K a.Z,F K a.af,F K a.ag,F K a.ai,F K a.aj]] e λc w'=>c=q (F K o)/\i w':=by
 have z:=l ((G.refl No e).alloc (m #[F K 8,F K p,F K k,F K ac,F K w,F K v,F K s,F K n,F K time,F K a.rows,F K a.y,F K a.Z,F K a.af,F K a.ag,F K a.ai,F K a.aj] 41));have d:=l d;go_enter func27,ntmps27;go_wp2_with fail;refine((b d) _ (b z)).mono ?_;rintro c A ⟨rfl,r⟩;have y:=l r;clear r;go_wp2;go_ret;exact⟨rfl,b y⟩
theorem Ed(x:Nat)(d o ac w v s p time:Int)(a:O)(k:U)(c:Int)(y:1<=c/\c<=9/\c≠8)(z:Int)(r:¬(1<=d/\d<=20))(i:∀n,G No k n->Calls h 52 #[g (E (u x 0 J)),F K d] n λe w'=>e=q (F K z)/\w'=n):Calls h 27 #[g (E (u x 0 J)),t #[F K c,F K d,F K o,F K ac,F K w,F K v,F K s,F K p,F K time,F K a.rows,F K a.y,F K a.Z,F K a.af,F K a.ag,F K a.ai,F K a.aj]] k λe w'=>e=q (F K 2)/\G No k w':=by
 have j:=l ((G.refl No k).alloc (m #[F K c,F K d,F K o,F K ac,F K w,F K v,F K s,F K p,F K time,F K a.rows,F K a.y,F K a.Z,F K a.af,F K a.ag,F K a.ai,F K a.aj] 41));have i:=l i;have H:¬c<1:=by omega
 have I:¬c>9:=by omega
 have M:(c==8)=false:=by simp;omega
 obtain⟨_,_,B⟩:=y;by_cases f1:d<1
 .clear r;go_enter func27,ntmps27;go_wp2_with fail;refine((b i) _ (b j)).mono ?_;rintro e A ⟨rfl,rfl⟩;go_wp2;go_ret;exact⟨rfl,b j⟩
 .have f2:d>20:=by omega
  clear r;go_enter func27,ntmps27;go_wp2_with fail;refine((b i) _ (b j)).mono ?_;rintro e A ⟨rfl,rfl⟩;go_wp2;go_ret;exact⟨rfl,b j⟩
theorem Ee(y:Nat)(d o ac x w v p time:Int)(a:O)(i:U)(c:Int)(A:1<=c/\c<=9/\c≠8)(s:Int)(z:1<=d/\d<=20)(hi:s<0)(r:c≠1)(j:∀k,G No i k->Calls h 52 #[g (E (u y 0 J)),F K d] k λe w'=>e=q (F K s)/\w'=k):Calls h 27 #[g (E (u y 0 J)),t #[F K c,F K d,F K o,F K ac,F K x,F K w,F K v,F K p,F K time,F K a.rows,F K a.y,F K a.Z,F K a.af,F K a.ag,F K a.ai,F K a.aj]] i λe w'=>e=q (F K 2)/\G No i w':=by
 have n:=l ((G.refl No i).alloc (m #[F K c,F K d,F K o,F K ac,F K x,F K w,F K v,F K p,F K time,F K a.rows,F K a.y,F K a.Z,F K a.af,F K a.ag,F K a.ai,F K a.aj] 41));have j:=l j;have H:¬c<1:=by omega
 have I:¬c>9:=by omega
 have M:(c==8)=false:=by simp;omega
 obtain⟨_,_,B⟩:=A;have f1:¬d<1:=by omega
 have f2:¬d>20:=by omega
 have N:(c !=1)=true:=by simpa using r
 clear z r
 .skip
  go_enter func27,ntmps27;go_wp2_with fail;refine((b j) _ (b n)).mono ?_;rintro e P ⟨rfl,rfl⟩;go_wp2;go_ret;exact⟨rfl,b n⟩
theorem zI(v:Nat)(c n ac s r p o time:Int)(a:O)(i:U)(A y:Int)(x:U->Prop)(H:1<=c/\c<=20)(k:∀e,G No i e->Calls h 52 #[g (E (u v 0 J)),F K c] e λd w'=>d=q (F K A)/\w'=e)(j:∀e,G No i e->Calls h 53 #[g (E (u v 0 J)),t #[F K 1,F K c,F K n,F K ac,F K s,F K r,F K p,F K o,F K time,F K a.rows,F K a.y,F K a.Z,F K a.af,F K a.ag,F K a.ai,F K a.aj]] e λd w'=>d=q (F K y)/\x w'):
  Calls h 27 #[g (E (u v 0 J)),t #[F K 1,F K c,F K n,F K ac,F K s,F K r,F K p,F K o,F K time,F K a.rows,F K a.y,F K a.Z,F K a.af,F K a.ag,F K a.ai,F K a.aj]] i λd w'=>d=q (F K y)/\x w':=by
 have w:=l ((G.refl No i).alloc (m #[F K 1,F K c,F K n,F K ac,F K s,F K r,F K p,F K o,F K time,F K a.rows,F K a.y,F K a.Z,F K a.af,F K a.ag,F K a.ai,F K a.aj] 41));have k:=l k;have j:=l j;have f1:¬c<1:=by omega
 have f2:¬c>20:=by omega
 clear H;by_cases hi:A<0
 all_goals
  go_enter func27,ntmps27;go_wp2_with fail;refine((b k) _ (b w)).mono ?_;rintro d I ⟨rfl,rfl⟩;go_wp2_with fail;refine((b j) _ (b w)).mono ?_;rintro d M ⟨rfl,z⟩;have B:=l z;clear z;go_wp2;go_ret;exact⟨rfl,b B⟩
def jI(x:aB):Int:=60+30* ((x.f.Y.length:Int) - (ew x.f.Y:Int))
def cO(a:List aB):Int:=200+(a.map jI).sum
theorem Oc(b:List aB)(a:Nat)(hi:a<b.length):cO (b.take (a+1))=cO (b.take a)+jI b[a]:=by
 unfold cO;rw[mD,du hi,qS,qK,List.sum_append,oC,BD,wZ,List.sum_nil];omega
theorem Od(x:aB)(a:x.f.Y.length<=120):60<=jI x/\jI x<=3660:=by
 unfold jI;have:=ur x.f.Y;omega
theorem zJ:∀(a:List aB),(∀x∈a,x.f.Y.length<=120)->200<=cO a/\cO a<=200+3660* (a.length:Int)
 |[],_=>by simp[cO]
 |x::a,b=>by
  have e:=zJ a (λd hy=>b d (by simp[hy]));have i:=Od x (b x (by simp));have c:cO (x::a)=cO a+jI x:=by unfold cO;simp;omega
  rw[c];simp only[eL];omega
theorem Oe(a:X I w #[C J 0 0,F K v] 72):Calls h 31 #[g (E (u w 0 J))] I λb w'=>b=q (F K 200)/\G No I w':=by
 have e:=a.T;clear a;go_enter func31,ntmps31;go_wp2_with fail;go_loopw [3,4] (λc d wr=>c=F K 200/\d=F K 0/\wr=I) (λ_ _ _=>0)
 case atStart=>exact⟨rfl,rfl,rfl⟩
 case round=>
  obtain⟨rfl,rfl,rfl⟩:=hrel;go_wp2;go_ret;exact⟨rfl,G.refl _ _⟩
theorem Of{gf:Nat}(i:bB I j w (C (E (u gf 0 J)) k.length Q) k v)(O:0<k.length):Calls h 31 #[g (E (u w 0 J))] I λx w'=>x=q (F K (cO k))/\G No I w':=by
 have au:=i.fg;have B:=l i;obtain⟨ai,T⟩:=i.parts rfl O;have N:=l T;have aa:=l i.e;have s:∀c∈k,c.f.Y.length<=120:=λc y=>by
  obtain⟨a,hi,rfl⟩:=kB y;exact ju (i.Y a hi).2.2
 have s:=l s;clear i T ai O;go_enter func31,ntmps31;go_wp2_with fail;go_loopw [3,4] (λaj A wr=>∃a:Nat,A=F K a/\a<=k.length/\aj=F K (cO (k.take a))/\Hid (G No I wr)) (λ_ A _=>k.length - (intOf A).toNat)
 case atStart=>exact⟨0,rfl,by omega,by simp[cO],l (G.refl _ _)⟩
 case round=>
  obtain⟨a,rfl,hi,rfl,n⟩:=hrel;have aN:wr.cell? (u w 0 J)=E (C (E (u gf 0 J)) k.length Q):=((b n).e (b aa) (λc=>c)).T 0;by_cases d:a<k.length
  .have ah:(a:Int)<(k.length:Int):=by omega
   have aG:(0:Int)<=a:=by omega
   have aJ:K.wrap ((a:Int)+1)=((a+1:Nat):Int):=by rw[bh _ (by omega) (by omega)];rfl
   have e:=(b N).mod (b n) (λc=>c);have av:wr.cell? ⟨gf,a* 10,J⟩=E (F K k[a].f.num):=e.T a d 0 (by omega);have aw:wr.cell? ⟨gf,a* 10+1,J⟩=E (F K k[a].f.c.rows):=e.T a d 1 (by omega);have ax:wr.cell? ⟨gf,a* 10+2,J⟩=E (F K k[a].f.c.y):=e.T a d 2 (by omega);have ay:wr.cell? ⟨gf,a* 10+3,J⟩=E (F K k[a].f.c.Z):=e.T a d 3 (by omega)
   have az:wr.cell? ⟨gf,a* 10+4,J⟩=E (F K k[a].f.c.af):=e.T a d 4 (by omega);have aA:wr.cell? ⟨gf,a* 10+5,J⟩=E (F K k[a].f.c.ag):=e.T a d 5 (by omega);have aC:wr.cell? ⟨gf,a* 10+6,J⟩=E (F K k[a].f.c.ai):=e.T a d 6 (by omega);have aD:wr.cell? ⟨gf,a* 10+7,J⟩=E (F K k[a].f.c.aj):=e.T a d 7 (by omega)
   have aE:wr.cell? ⟨gf,a* 10+8,J⟩=E (C (E ⟨k[a].g,0,J⟩) k[a].f.Y.length k[a].cap):=e.T a d 8 (by omega);have aF:wr.cell? ⟨gf,a* 10+9,J⟩=E (F K k[a].f.ep):=e.T a d 9 (by omega);obtain⟨W,os,wf⟩:=(b B).Y a d;have aK:k[a].f.Y.length<=120:=ju wf;have aH:=ur k[a].f.Y;have af:=zJ (k.take a) (λc y=>(b s) c (sM y));have ag:((k.take a).length:Int)<=20:=by rw[eO];omega
   have P:=Oc k a d;have R:jI k[a]=60+30* ((k[a].f.Y.length:Int) - (ew k[a].f.Y:Int)):=rfl;rw[R] at P;have Y:=W.mod (b n) (λc=>c);have r:=X.new wr (cg k[a]) 134;have M:=l ((b n).alloc (m (cg k[a]) 134));have Z:=Y.mod ((G.refl No wr).alloc (m (cg k[a]) 134)) (λc=>c)
   have H:=l λz=>wj wr.heap.size 0 k[a].g k[a].cap k[a].f.Y ((wr.alloc (m (cg k[a]) 134)).drewN z) (Z.mod ((G.refl No _).drewN z) (λc=>c)) (by omega) ((r.drewN z).T 8);have ad:=r.T;have ae:=r.lt;unfold cg at H M ad ae;generalize cO (k.take a)=wt at *;generalize S:cO (k.take (a+1))=ak at *;have ab:=l S;clear S;generalize aI:ew k[a].f.Y=o at *;generalize aL:k[a].f.Y.length=p at *
   have am:K.wrap (wt+60)=wt+60:=bh _ (by omega) (by omega);have ao:K.wrap ((p:Int) - (o:Int))=(p:Int) - (o:Int):=bh _ (by omega) (by omega);have ap:K.wrap (30* ((p:Int) - (o:Int)))=30* ((p:Int) - (o:Int)):=bh _ (by omega) (by omega);have ar:K.wrap (wt+60+30* ((p:Int) - (o:Int)))=ak:=by rw[bh _ (by omega) (by omega)];omega
   clear e W os wf Y Z r af ag P R B N s;go_wp2_with fail;go_quiet ((go_at_call 58;exact Calls.quiet_of_same ((b H) _)));go_wp2;exact⟨⟨a+1,rfl,by omega,by rw[b ab],(b M).drewN _⟩,by simp[intOf];omega⟩
  .have ah:¬(a:Int)<(k.length:Int):=by omega
   have x:a=k.length:=by omega
   subst x;rw[fN];go_wp2;go_ret;exact⟨rfl,b n⟩
theorem Ef(a:bB I j w N k v)(d:k=[]->N=C J 0 0):Calls h 31 #[g (E (u w 0 J))] I λb w'=>b=q (F K (cO k))/\G No I w':=by
 obtain⟨rfl,rfl⟩|⟨i,e,rfl,_,_⟩:=a.kL
 .exact Oe a.e
 .by_cases c:0<k.length
  .exact Of a c
  .have:=d (iC (by omega))
   cases this
theorem zK(a:bB I j w N k v):200<=cO k/\cO k<=100000:=by
 have d:=zJ k (λe b=>by
  obtain⟨c,hi,rfl⟩:=kB b
  exact ju (a.Y c hi).2.2)
 have:=a.fg;omega
end Go.Proofs.YthhibagcpjeihaaGreat
