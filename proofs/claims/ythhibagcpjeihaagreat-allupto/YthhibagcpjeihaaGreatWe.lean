import Derived.Test.YthhibagcpjeihaaGreatW8
import Derived.Test.YthhibagcpjeihaaGreatW9
open Go.Proofs.Tryz
open Go.Addr renaming mk->u
open Go.Value renaming int->F,pointer->g,agg->t,tuple->aq
open Go.IntKind renaming i64->K
open Option renaming none->J,some->E
open Go renaming World->U,Value->V
open Go.Proofs.Tryz renaming prog->h
open Go.Ending renaming returned->q
open Go.Obj renaming cells->m
set_option linter.unusedVariables false
set_option linter.unusedSimpArgs false
set_option maxRecDepth 100000
set_option maxHeartbeats 2000000
namespace Go.Proofs.YthhibagcpjeihaaGreat
open Go.RowKit
open Go.ChangeMaps (setBlock)
open M
attribute [local go_sem] rV rW rX rY
attribute [local go_sem ↓] vF vG
theorem Eg(x:Nat)(af Q T Z aa ab ad:Int)(ae:V)(A B H I M N O P r s v w d e i j S:Int)(a:U)(p:X a x (dZ af Q T Z aa ab ad ae A B H I M N O P r s v w d e i j S) 164):Calls h 60 #[g (E (u x 0 J))] a λR w'=>R=q (t #[F K (min d 9),F K (min e 9),F K (min i 9),F K (min j 9)])/\G No a w':=by
 have y:=p.T;have ah:=p.lt;unfold dZ at y;clear p;go_enter func60,ntmps60;go_wp2_with fail;clear y
 go_loopw [11] (λk wr=>Hid (G No a wr)/\Hid (X wr a.heap.size #[F K 0,F K 0,F K 0,F K 0] 37)/\
   ((k=F K 0/\Hid (X wr (a.heap.size+1) #[F K d,F K e,F K i,F K j] 37))\/
    (k=F K 1/\Hid (X wr (a.heap.size+1) #[F K (min d 9),F K e,F K i,F K j] 37))\/
    (k=F K 2/\Hid (X wr (a.heap.size+1) #[F K (min d 9),F K (min e 9),F K i,F K j] 37))\/
    (k=F K 3/\Hid (X wr (a.heap.size+1) #[F K (min d 9),F K (min e 9),F K (min i 9),F K j] 37))\/
    (k=F K 4/\Hid (X wr (a.heap.size+1) #[F K (min d 9),F K (min e 9),F K (min i 9),F K (min j 9)] 37)))) (λk _=>4 - (intOf k).toNat)
 case atStart=>
  refine⟨((G.refl No a).alloc _).alloc _,(X.new a _ _).alloc _,.inl ⟨rfl,l ?_⟩⟩;have:=X.new (a.alloc (m #[F K 0,F K 0,F K 0,F K 0] 37)) #[F K d,F K e,F K i,F K j] 37;simpa using this
 case round=>
  obtain⟨z,n,c⟩:=hrel;have ai:=(b n).aC;have o:=(b n).T;have ag:=(b n).lt;obtain⟨rfl,c⟩|⟨rfl,c⟩|⟨rfl,c⟩|⟨rfl,c⟩|⟨rfl,c⟩:=c
  case inr.inr.inr.inr=>
   have W:=(b c).T;have Y:=(b c).lt;have d0:wr.cell? (u a.heap.size 0 J)=E (F K 0):=o 0;have d1:wr.cell? (u a.heap.size 1 J)=E (F K 0):=o 1;have d2:wr.cell? (u a.heap.size 2 J)=E (F K 0):=o 2;have d3:wr.cell? (u a.heap.size 3 J)=E (F K 0):=o 3;go_wp2;refine cN (by simp[results,results60,go_sem,d0,d1,d2,d3];try rfl) rfl ?_
   exact⟨rfl,by repeat' (first|with_reducible exact b z|refine G.setCell ?_ (Or.inr (cz _)) _)⟩
  all_goals
   have W:=(b c).T;have Y:=(b c).lt;have aj:=(b c).aC;go_wp2;go_roundw
   .have r:=(b c).set 0 (F K (min d 9));have s:=(b c).set 1 (F K (min e 9));have v:=(b c).set 2 (F K (min i 9));have w:=(b c).set 3 (F K (min j 9));refine⟨(b z).setCell (.inr (Nat.le_succ _)) _,(b n).eJ (by simp) _,?_⟩
    first
     |(refine .inr (.inl ⟨rfl,?_⟩);exact r)
     |(refine .inr (.inr (.inl ⟨rfl,?_⟩));exact s)
     |(refine .inr (.inr (.inr (.inl ⟨rfl,?_⟩)));exact v)
     |(refine .inr (.inr (.inr (.inr ⟨rfl,?_⟩)));exact w)
   .simp[intOf]
theorem Og(j:Nat)(S w I N O P Q:Int)(R:V)(c d e i k l n o p r s v y z A B H:Int)(b:U)(a:X b j (dZ S w I N O P Q R c d e i k l n o p r s v y z A B H) 164):Calls h 62 #[g (E (u j 0 J))] b λx w'=>x=q (t #[F K c,F K d,F K e,F K i,F K k,F K l,F K n,F K o,F K p,F K r,F K s,F K v])/\G No b w':=by
 have M:=a.T;have T:=a.lt;unfold dZ at M;clear a;go_enter func62,ntmps62;go_wp2;go_returns;exact⟨rfl,(G.refl _ _).alloc _⟩
theorem Eh(d:Nat)(e j:Int)(c:U)(hF:Calls h 59 #[g (E (u d 0 J)),F K e] c λa w'=>a=q (g J)/\w'=c):Calls h 33 #[g (E (u d 0 J)),F K e,F K j] c λa w'=>a=q (aq #[F K 0,F K 2])/\G No c w':=by
 have i:=l hF;clear hF;go_enter func33,ntmps33;go_wp2_with fail;refine(b i).mono ?_;rintro a k ⟨rfl,rfl⟩;go_wp2;go_ret2;exact⟨rfl,G.refl _ _⟩
theorem Oh(j n:Nat)(k a:Int)(i:¬(0<=a/\a<4))(d:U)(hF:Calls h 59 #[g (E (u j 0 J)),F K k] d λc w'=>c=q (g (E (u n 0 J)))/\w'=d):Calls h 33 #[g (E (u j 0 J)),F K k,F K a] d λc w'=>c=q (aq #[F K 0,F K 6])/\G No d w':=by
 have e:=l hF;clear hF;obtain o|o:=sN a 0
 .clear i;go_enter func33,ntmps33;go_wp2_with fail;refine(b e).mono ?_;rintro c p ⟨rfl,rfl⟩;go_wp2;go_ret2;exact⟨rfl,G.refl _ _⟩
 .have r:¬a<0:=by omega
  have s:a>=4:=by omega
  clear i;go_enter func33,ntmps33;go_wp2_with fail;refine(b e).mono ?_;rintro c p ⟨rfl,rfl⟩;go_wp2;go_ret2;exact⟨rfl,G.refl _ _⟩
theorem Oi(p e:Nat)(r:Int)(a:Nat)(x:a<4)(i j k n:Int)(d:U)(hF:Calls h 59 #[g (E (u p 0 J)),F K r] d λc w'=>c=q (g (E (u e 0 J)))/\w'=d)(o:Calls h 60 #[g (E (u e 0 J))] d λc w'=>c=q (t #[F K i,F K j,F K k,F K n])/\G No d w'):Calls h 33 #[g (E (u p 0 J)),F K r,F K a] d λc w'=>c=q (aq #[F K (if a=0 then i else if a=1 then j else if a=2 then k else n),F K 0])/\G No d w':=by
 have v:=l hF;have s:=l o;clear hF o;have:a=0\/a=1\/a=2\/a=3:=by omega
 obtain rfl|rfl|rfl|rfl:=this
 all_goals
  go_enter func33,ntmps33;go_wp2_with fail;refine(b v).mono ?_;rintro c y ⟨rfl,rfl⟩;go_wp2_with fail;refine(b s).mono ?_;rintro c z ⟨rfl,w⟩;go_wp2;go_ret2;exact⟨rfl,w⟩
def dB:Array V:=#[F K 0,F K 0,F K 0,F K 0,F K 0,F K 0,F K 0,F K 0,F K 0,F K 0,F K 0,F K 0]
theorem Ei(i:Nat)(j:Int)(c:U)(hF:∀d,G No c d->Calls h 59 #[g (E (u i 0 J)),F K j] d λa w'=>a=q (g J)/\w'=d):Calls h 35 #[g (E (u i 0 J)),F K j] c λa w'=>a=q (aq #[t dB,F K 2])/\G No c w':=by
 have k:=l hF;have e:=l ((G.refl No c).alloc (m dB 91));unfold dB at *;clear hF;go_enter func35,ntmps35;go_wp2_with fail;refine((b k) _ (b e)).mono ?_;rintro a n ⟨rfl,rfl⟩;go_wp2;go_returns;exact⟨rfl,b e⟩
theorem Oj(a b c d e i j k l n o p r:V):(((((((((((((#[a,a,a,a,a,a,a,a,a,a,a,a]:Array V).setIfInBounds 0 b).setIfInBounds 1 c).setIfInBounds 2 d).setIfInBounds 3 e).setIfInBounds 4 i).setIfInBounds 5 j).setIfInBounds 6 k).setIfInBounds 7 l).setIfInBounds 8 n).setIfInBounds 9 o).setIfInBounds 10 p).setIfInBounds 11 r)=#[b,c,d,e,i,j,k,l,n,o,p,r]:=by
 simp
theorem Ok{c:Program}{d:Func}{post:Ending->U->Prop}{ex:Exit}{a:Act}{b:U}(R:U->Prop)(e:R b)(i:∀b,R b->bodyPost c d post ex a b):bodyPost c d post ex a b:=i b e
theorem Ol(S Q:Nat)(T:Int)(j k n o p r s v x y z A:Int)(a:U)(hF:∀e,G No a e->Calls h 59 #[g (E (u S 0 J)),F K T] e λi w'=>i=q (g (E (u Q 0 J)))/\w'=e)(R:∀e,G No a e->Calls h 62 #[g (E (u Q 0 J))] e λi w'=>i=q (t #[F K j,F K k,F K n,F K o,F K p,F K r,F K s,F K v,F K x,F K y,F K z,F K A])/\G No e w'):
  Calls h 35 #[g (E (u S 0 J)),F K T] a λi w'=>i=q (aq #[t #[F K j,F K k,F K n,F K o,F K p,F K r,F K s,F K v,F K x,F K y,F K z,F K A],F K 0])/\G No a w':=by
 have N:=l hF;have O:=l R;have B:=l ((G.refl No a).alloc (m dB 91));have M:=l (X.new a dB 91);unfold dB at *;clear hF R;go_enter func35,ntmps35;go_wp2_with fail;refine((b N) _ (b B)).mono ?_;rintro i ae ⟨rfl,rfl⟩;go_wp2_with fail;refine((b O) _ (b B)).mono ?_;rintro i af ⟨rfl,H⟩;have w:=H.e (b M) (λab=>ab);have Y:=w.T;have f2:=w.aC;have Z:=w.lt;have P:=l ((b B).trans H);clear H;go_wp2
 refine Ok (λe=>X e a.heap.size #[F K j,F K k,F K n,F K o,F K p,F K r,F K s,F K v,F K x,F K y,F K z,F K A] 91/\G No a e) ?_ ?_
 .have W:=(((((((((((w.set 0 (F K j)).set 1 (F K k)).set 2 (F K n)).set 3 (F K o)).set 4 (F K p)).set 5 (F K r)).set 6 (F K s)).set 7 (F K v)).set 8 (F K x)).set 9 (F K y)).set 10 (F K z)).set 11 (F K A);rw[Oj] at W;refine⟨W,?_⟩;have d:∀(I:Nat),No ((u a.heap.size I J):Addr).block\/a.heap.size<=((u a.heap.size I J):Addr).block:=λI=>.inr (cz _)
  exact((((((((((((b P).setCell (d 0) _).setCell (d 1) _).setCell (d 2) _).setCell (d 3) _).setCell (d 4) _).setCell (d 5) _).setCell (d 6) _).setCell (d 7) _).setCell (d 8) _).setCell (d 9) _).setCell (d 10) _).setCell (d 11) _
 .clear w Y f2 Z P;intro w3 ⟨c,aa⟩;have d0:w3.cell? (u a.heap.size 0 J)=E (F K j):=c.T 0;have d1:w3.cell? (u a.heap.size 1 J)=E (F K k):=c.T 1;have d2:w3.cell? (u a.heap.size 2 J)=E (F K n):=c.T 2;have d3:w3.cell? (u a.heap.size 3 J)=E (F K o):=c.T 3;have d4:w3.cell? (u a.heap.size 4 J)=E (F K p):=c.T 4;have d5:w3.cell? (u a.heap.size 5 J)=E (F K r):=c.T 5
  have d6:w3.cell? (u a.heap.size 6 J)=E (F K s):=c.T 6;have d7:w3.cell? (u a.heap.size 7 J)=E (F K v):=c.T 7;have d8:w3.cell? (u a.heap.size 8 J)=E (F K x):=c.T 8;have d9:w3.cell? (u a.heap.size 9 J)=E (F K y):=c.T 9;have d10:w3.cell? (u a.heap.size 10 J)=E (F K z):=c.T 10;have d11:w3.cell? (u a.heap.size 11 J)=E (F K A):=c.T 11;have ad:=c.lt;clear c;clear B M N O
  refine cN (by simp[results,results35,go_sem,d0,d1,d2,d3,d4,d5,d6,d7,d8,d9,d10,d11];try rfl) rfl ?_;exact⟨rfl,aa⟩
def aP(b:Int)(a:aK):aD:=
 ⟨a.aF,
  if a.kind=1 then 1 else if a.kind=8 then 6 else if a.kind=9 then 5 else if a.kind=2\/a.kind=3\/a.kind=6 then 2 else if a.kind=5 then 4 else 3,
  a.c,
  if a.kind=2 then⟨a.aA,a.ac,1,a.bJ,a.bF,a.time⟩ else if a.kind=3 then⟨a.aA,a.ac,2,a.bJ,a.bF,0⟩ else if a.kind=6 then⟨a.aA,a.ac,3,0,0,0⟩ else⟨a.aA,a.ac,0,0,0,0⟩,
  a.dd,a.de,b+a.time,[]⟩
variable {w Q:Int} {p:aK} {P:Nat->Option Nat} {S:Nat->Option (O×List z)} {o:Nat->Nat} {j:Nat} {k:bU} {I:List z}
theorem zL(a:p.kind=1):eH (aP w p)=kW p.c:=by
 unfold eH aP;simp only[a,iP]
theorem zM(a:p.kind=8):eH (aP w p)=pL (w+p.time):=by
 unfold eH aP;simp[a]
theorem zN(b:2<=p.kind/\p.kind<=9/\p.kind≠8):eH (aP w p)=ie p:=by
 unfold eH aP ie;have:p.kind=2\/p.kind=3\/p.kind=4\/p.kind=5\/p.kind=6\/p.kind=7\/p.kind=9:=by omega
 obtain a|a|a|a|a|a|a:=this<;>simp[a]
theorem Ej(c:p.kind=1)(i:1<=p.aF/\p.aF<=20)(d:p.c.aY=true)(e:p.c.bI=true):jG w (aP w p):=by
 have j:(aP w p).kind=1:=by unfold aP;simp[c]
 simp only[O.aY,eA] at d;simp only[O.bI,eA] at e;refine⟨by omega,λ_=>⟨by show 0<=p.aF;omega,by show p.aF<32;omega⟩,λ_=>⟨⟨by show 0<=p.c.rows;omega,by show p.c.rows<128;omega⟩,⟨by show 0<=p.c.y;omega,by show p.c.y<128;omega⟩,⟨by show 0<=p.c.Z;omega,by show p.c.Z<128;omega⟩,λb=>?_⟩,λa=>by omega,λa=>by omega,λa=>by omega,λa=>by omega,λa=>by omega⟩;show 0<=p.c.cD b/\p.c.cD b<16384
 match b with
 |0=>simp only[O.cD];omega
 |1=>simp only[O.cD];omega
 |2=>simp only[O.cD];omega
 |b+3=>simp only[O.cD];omega
theorem Ek(b:p.kind=8)(e:1<=p.time/\p.time<=100)(d:0<=w/\w<=4611686018427387000):jG w (aP w p):=by
 have c:(aP w p).kind=6:=by unfold aP;simp[b]
 exact⟨by omega,λa=>absurd c a,λa=>by omega,λa=>by omega,λa=>by omega,λa=>by omega,λa=>by omega,λ_=>⟨d.1,by show w<=w+p.time;omega,by show w+p.time<=4611686018427387904;omega⟩⟩
theorem El{p:O}(c:aJ p I)(a:p.e w Q=true):(1<=w/\w<=20)/\(1<=Q/\Q<=6):=by
 have b:=bV.wf.bounds c;simp only[O.e,eA] at a;simp only at b;omega
theorem Em{p:O}{a:aK}(M:2<=a.kind/\a.kind<=9/\a.kind≠8)(N:1<=a.aF/\a.aF<=20)(v:aJ p I)(P:0<=w/\w<=4611686018427387000)(i:bH p I a w=0):jG w (aP w a):=by
 have e:(aP w a).kind≠6->0<=(aP w a).fl/\(aP w a).fl<32:=λ_=>⟨by show 0<=a.aF;omega,by show a.aF<32;omega⟩;by_cases n:a.kind=9
 .have j:(aP w a).kind=5:=by unfold aP;simp[n]
  unfold bH at i;rw[D n] at i;by_cases s:a.c.aY=true/\¬(a.c.rows* a.c.y<(cG I:Int))
  case neg=>rw[f s] at i;exact absurd i (by omega)
  have y:=s.1;simp only[O.aY,eA] at y;exact⟨by omega,e,λb=>by omega,λb=>by omega,λb=>by omega,λb=>by omega,λ_=>⟨⟨by show 0<=a.c.rows;omega,by show a.c.rows<128;omega⟩,⟨by show 0<=a.c.y;omega,by show a.c.y<128;omega⟩,⟨by show 0<=a.c.Z;omega,by show a.c.Z<128;omega⟩⟩,λb=>by omega⟩
 obtain⟨_,G,B,r,A⟩:=uy i n;have d:=El v G;by_cases k:a.kind=2
 .have j:(aP w a).kind=2:=by unfold aP;simp[k]
  have c:(aP w a).dm=⟨a.aA,a.ac,1,a.bJ,a.bF,a.time⟩:=by unfold aP;simp[k]
  have H:=mE (r k).1;have Q:=r k;refine⟨by omega,e,λb=>by omega,λ_=>?_,λb=>by omega,λb=>by omega,λb=>by omega,λb=>by omega⟩;rw[c];exact⟨d.1,d.2,by simp,by simp only;omega,by simp only;omega,λ_=>by simp only;omega,by omega⟩
 by_cases l:a.kind=3
 .have j:(aP w a).kind=2:=by unfold aP;simp[l]
  have c:(aP w a).dm=⟨a.aA,a.ac,2,a.bJ,a.bF,0⟩:=by unfold aP;simp[l]
  have H:=mE (A l);refine⟨by omega,e,λb=>by omega,λ_=>?_,λb=>by omega,λb=>by omega,λb=>by omega,λb=>by omega⟩;rw[c];exact⟨d.1,d.2,by simp,by simp only;omega,by simp only;omega,λb=>by simp at b,by omega⟩
 by_cases o:a.kind=6
 .have j:(aP w a).kind=2:=by unfold aP;simp[o]
  have c:(aP w a).dm=⟨a.aA,a.ac,3,0,0,0⟩:=by unfold aP;simp[o]
  refine⟨by omega,e,λb=>by omega,λ_=>?_,λb=>by omega,λb=>by omega,λb=>by omega,λb=>by omega⟩;rw[c];exact⟨d.1,d.2,by simp,by simp,by simp,λb=>by simp at b,by omega⟩
 have c:(aP w a).dm=⟨a.aA,a.ac,0,0,0,0⟩:=by unfold aP;simp[k,l,o]
 by_cases x:a.kind=5
 .have j:(aP w a).kind=4:=by unfold aP;simp[x]
  have rt:=El v (B x).1;exact⟨by omega,e,λb=>by omega,λb=>by omega,λ_=>by rw[c];exact d,λ_=>rt,λb=>by omega,λb=>by omega⟩
 .have j:(aP w a).kind=3:=by
   have:a.kind=4\/a.kind=7:=by omega
   unfold aP;obtain b|b:=this<;>simp[b]
  exact⟨by omega,e,λb=>by omega,λb=>by omega,λ_=>by rw[c];exact d,λb=>by omega,λb=>by omega,λb=>by omega⟩
def fT(a:Int)(b:Nat->Option (O×List z))(d:bU)(c:aK):Int×Int×(Nat->Option (O×List z))×bU:=
 if (br a b c).1≠0 then((br a b c).1,a,b,d)
 else if (eg d (a9 a b) (aT a [aP a c])).1=0 then(0,(br a b c).2.1,(br a b c).2.2,(eg d (a9 a b) (aT a [aP a c])).2)
 else((eg d (a9 a b) (aT a [aP a c])).1,a,b,(eg d (a9 a b) (aT a [aP a c])).2)
structure jw (w w':U) (ow:Nat->Nat) (kb:Nat) (dS:Nat->Option Nat) (now:Int) (fl:Nat->Option (O×List z)) (K:bU):Prop where
 ex:∃ow' pt',dH w' ow' kb now pt' fl K/\(∀k,k<w.heap.size->ow' k=ow k)/\∀i,21<=i->i<29->pt' i=dS i
 mod:G (λk=>ow k≠0) w w'
theorem jw.same{a w':U}(c:dH a o j w P S k)(b:G No a w'):jw a w' o j P w S k:=
 ⟨⟨o,P,c.bC b,λ_ _=>rfl,λ_ _ _=>rfl⟩,b.mono (λ_ _ d=>d.elim)⟩
theorem jw.first{a c w':U}(d:jw c w' o j P w S k)(b:G No a c):jw a w' o j P w S k:=by
 obtain⟨⟨r,s,v,i,l⟩,p⟩:=d;exact⟨⟨r,s,v,λn e=>i n (bj e b.size),l⟩,(b.mono (λ_ _ x=>x.elim)).trans p⟩
theorem jw.Om{l w2 w':U}{n:Nat}{fl':Nat->Option (O×List z)}(hold:∀a,o a≠0->a<l.heap.size)(H:∃c i,dH w2 c n w i S k/\(∀a,a<l.heap.size->c a=o a)/\(∀j,j<29->i j=P j)/\oR w2 w' c n i Q fl')(r:G (λa=>o a≠0) l w2):jw l w' o n P Q fl' k:=by
 obtain⟨c,i,d,s,B,⟨⟨M,N,I,v,e⟩,m'⟩⟩:=H;have T:=r.size
 refine⟨⟨M,N,⟨I,?_,?_,?_,?_⟩,λa b=>by rw[v a (by omega),s a b],λx y A=>by rw[e x y,B x A]⟩,r.trans' m' (λa b p=>by
  have b:c a≠0/\c a<30:=b
  rw[s a p] at b
  exact b.1)⟩
 .rw[e 29 (by omega)];exact d.ptr
 .have:=d.file;unfold oM at this ⊢;rw[e 30 (by omega)];exact this
 .have:=d.torn;unfold nG at this ⊢;rw[e 31 (by omega)];exact this
 .refine(d.tape.mod m' (λa b R=>by omega)).narrow.wide (λa ⟨b,p⟩=>?_);have:=d.keep.bg a (by omega);rw[v a this];exact b
end Go.Proofs.YthhibagcpjeihaaGreat
