import Derived.Test.YthhibagcpjeihaaGreatWa
import Derived.Test.YthhibagcpjeihaaGreatW9
open Go.Proofs.Tryz
open Go.Addr renaming mk->u,add_mid->dE
open Go.Value renaming int->F,pointer->g,slice->C,bool->L,agg->t,tuple->aq,ownBlock->aV
open Go.IntKind renaming i64->K
open Option renaming none->J,some->E
open Go renaming World->U,Value->V
open Go.Proofs.Tryz renaming prog->h
open Go.Ending renaming returned->q
open Go.Obj renaming cells->m
open Go.Act renaming eval->aM,put->bN
set_option linter.unusedVariables false
set_option linter.unusedSimpArgs false
set_option maxRecDepth 100000
set_option maxHeartbeats 4000000
namespace Go.Proofs.YthhibagcpjeihaaGreat
open Go.RowKit
open M
variable {j k:Int} {w Q P p:Nat} {S o:List Int} {I:Option ((aD×Int)×List Int)} {v:U} {W:List (Int×V)} {N:Type} {B:Bool} {R:List aD} {i:V} {n:Option ((List aD×Int)×List Int)}
theorem xn(a: -9223372036854775808<=j/\j<=9223372036854775807):wrap64 j=j:=by unfold wrap64;omega
theorem xo(e:1<=j/\j<=20)(d:1<=k/\k<=6)(a:List Int):jY (gO j k++a)=E ((j,k),a):=by
 unfold jY gO;rw[j7 (by omega) (by omega)];show E ((wrap64 (((j - 1)* 6+k - 1).tdiv 6+1),wrap64 (((j - 1)* 6+k - 1).tmod 6+1)),a)=_;rw[wv (by omega),ux (by omega)];have b:((j - 1)* 6+k - 1) / 6+1=j:=by omega
 have c:((j - 1)* 6+k - 1) % 6+1=k:=by omega
 rw[b,c,xn (by omega),xn (by omega)]
theorem ED{p:O}(a:(0<=p.rows/\p.rows<9223372036854775808)/\(0<=p.y/\p.y<9223372036854775808)/\0<=p.Z/\p.Z<9223372036854775808)(b:List Int):pX (lG p++b)=E ((p.rows,p.y,p.Z),b):=by
 unfold pX lG;rw[cQ,cQ,j7 a.1.1 a.1.2];simp only[ba];rw[j7 a.2.1.1 a.2.1.2];simp only;rw[j7 a.2.2.1 a.2.2.2]
theorem EE{p:O}(i:(0<=p.rows/\p.rows<9223372036854775808)/\(0<=p.y/\p.y<9223372036854775808)/\0<=p.Z/\p.Z<9223372036854775808)(a:0<=p.af/\p.af<9223372036854775808)(b:0<=p.ag/\p.ag<9223372036854775808)(c:0<=p.ai/\p.ai<9223372036854775808)(d:0<=p.aj/\p.aj<9223372036854775808)(e:List Int):nL (jm p++e)=E ({ p with ep:=0 },e):=by
 unfold nL jm;rw[cQ,cQ,cQ,cQ,ED i];simp only[ba,pY];rw[j7 a.1 a.2];simp only;rw[j7 b.1 b.2];simp only;rw[j7 c.1 c.2];simp only;rw[j7 d.1 d.2];rfl
theorem EG{a:z}{p:Int}(b:a.pa=p)(c:a.un=j):(⟨a.row,a.ae,a.st,p,a.cl,j⟩:z)=a:=by
 subst b c;rfl
theorem EH{a:z}(o:lS j a)(b:a.wf)(c:List Int):iu j (iT j a++c)=E (a,c):=by
 obtain⟨p,r,x,y,A,s,B⟩:=o;have l:(a.st* 4+a.cl).tdiv 4=a.st:=by rw[wv (by omega)];omega
 have n:(a.st* 4+a.cl).tmod 4=a.cl:=by rw[ux (by omega)];omega
 unfold iu iT;rw[cQ,cQ,cQ,xo p r];simp only[ba];rw[j7 (by omega) (by omega)];simp only[l,n];by_cases i:a.st=3
 .have d:¬a.st=1:=by omega
  obtain⟨k,w,e⟩:=b.bare (.inr i);simp only[D i,f d,qJ];show E ((⟨a.row,a.ae,a.st,0,a.cl,0⟩:z),c)=E (a,c);rw[EG k e]
 .simp only[f i];rw[j7 (by omega) (by omega)];by_cases d:a.st=1
  .have:=s d;have:=b.un;simp only[D d];rw[j7 (by omega) (by omega)];simp only;rw[show j+(a.un - j)=a.un by omega,xn (by omega)]
  .have e:a.un=0:=by
    have:=b.ou;have:=b.s1;by_cases v:a.st=0
    .exact(b.bare (.inl v)).2.2
    .exact b.vu (by omega)
   simp only[f d,qJ];show E ((⟨a.row,a.ae,a.st,a.pa,a.cl,0⟩:z),c)=E (a,c);rw[EG rfl e]
def cM{i:Type}(p:List Int->Option (i×List Int)):Prop:=∀b e c,p b=E (e,c)->∃a,b=a++c/\∀d,p (a++d)=E (e,d)
theorem cM.bind{β:Type}{p:List Int->Option (N×List Int)}{d:N->List Int->Option (β×List Int)}(n:cM p)(o:∀x,cM (d x)):cM (λb=>ba (p b) d):=by
 intro b s r a;rcases c:p b with _|⟨x,e⟩
 .simp only[c,ba] at a
  cases a
 .simp only[c,ba] at a;obtain⟨i,rfl,k⟩:=n b x e c;obtain⟨j,rfl,l⟩:=o x e s r a;refine⟨i++j,by rw[cQ],λv=>?_⟩;simp only[cQ,k,ba,l]
theorem cM.ret(x:N):cM (λb=>E (x,b)):=λb j e a=>by
 injection a with a;injection a with c d;subst c d;exact⟨[],rfl,λi=>rfl⟩
theorem EI:∀(j:List Int) (d:Nat) (e:Int) {x:Int} {k:List Int},cH j d e=E (x,k)->∃b,j=b++k/\∀c,cH (b++c) d e=E (x,c)
 |[],_,_,_,_,a=>by simp[cH] at a
 |b::j,d,e,x,k,a=>by
  unfold cH at a;by_cases i:b<128
  .rw[D i] at a;injection a with a;injection a with o p;subst o p
   exact⟨[b],rfl,λc=>by
    show cH (b::c) d e=_
    unfold cH
    rw[D i]⟩
  .rw[f i] at a;obtain⟨l,rfl,n⟩:=EI j _ _ a
   exact⟨b::l,rfl,λc=>by
    show cH (b::(l++c)) d e=_
    unfold cH
    rw[f i]
    exact n c⟩
theorem ke:cM (λa=>cH a 0 0):=λa d c b=>EI a 0 0 b
theorem xp:cM jY:=ke.bind λa=>cM.ret _
theorem EJ:cM pX:=ke.bind λa=>ke.bind λb=>ke.bind λc=>cM.ret _
theorem EK:∀(c:Nat) (b:List Int),cM (pY c b)
 |0,b=>cM.ret b
 |c+1,b=>ke.bind λa=>EK c (b++[a])
theorem zU:cM nL:=EJ.bind λa=>(EK 4 []).bind λb=>cM.ret _
theorem cM.ite{c:Prop}[Decidable c]{p e:List Int->Option (N×List Int)}(k:cM p)(l:cM e):cM (λa=>if c then p a else e a):=by
 intro a j i b;by_cases d:c
 .simp only[D d] at b ⊢;exact k a j i b
 .simp only[f d] at b ⊢;exact l a j i b
theorem EM(a:Int):cM (iu a):=xp.bind λc=>ke.bind λb=>((cM.ret 0).ite ke).bind λd=>(ke.ite (cM.ret 0)).bind λe=>cM.ret _
theorem cM.torn{p:List Int->Option (N×List Int)}(z:cM p){x:N}(s:∀k,p (S++k)=E (x,k))(B:w<S.length){A:N}(r:p (S.take w++[j])=E (A,o)):o=[]:=by
 obtain⟨a,d,hd⟩:=z _ _ _ r;by_cases i:o=[]
 .exact i
 .exfalso;have y:=mu List.length d;simp only[bG,eO,eL,iR] at y;have G:0<o.length:=List.length_pos_iff.2 i;have v:a.length<=w:=by omega
  have n:a=S.take a.length:=by
   have c:=mu (List.take a.length) d;rw[zV (by simp;omega),BU,List.take_left] at c;rw[uc v] at c;exact c.symm
  have l:S=a++S.drop a.length:=by
   conv=>lhs;rw[<-EA a.length S]
   rw[<-n]
  have e:=hd (S.drop a.length);rw[<-l] at e;have b:=s [];rw[dG,e] at b;injection b with b;injection b with _ b;have:=mu List.length b;simp at this;omega
def uP(b:List Int):Option (Int×List Int):=match b with
 |[]=>J
 |a::c=>E (a,c)
def nY(c:Int):Nat->List z->List Int->Option (List z×List Int)
 |0,a,b=>E (a,b)
 |d+1,a,b=>ba (iu c b) λi e=>nY c d (a++[i]) e
def pk(e:Int)(c:List Int):Option ((O×List z)×List Int):=
 ba (nL c) λi a=>ba (cH a 0 0) λb a=>ba (cH a 0 0) λd a=>ba (nY e d.toNat [] a) λj a=>E ((i.at b,j),a)
def xq:O:=⟨0,0,0,0,0,0,0,0⟩
def sX(a:Int)(p:O):aD:=⟨a,1,p.at 0,kT,0,0,0,[]⟩
def uQ(a:Int)(b:z):aD:=⟨a,2,xq,b,0,0,0,[]⟩
def uR(b c a:Int):aD:=⟨b,3,xq,⟨c,a,0,0,0,0⟩,0,0,0,[]⟩
def uS(b c a e d:Int):aD:=⟨b,4,xq,⟨c,a,0,0,0,0⟩,e,d,0,[]⟩
def uT(d a b c:Int):aD:=⟨d,5,⟨a,b,c,0,0,0,0,0⟩,kT,0,0,0,[]⟩
def qd(a b:Int):aD:=⟨a,6,xq,kT,0,0,b,[]⟩
def qe(a:Int)(p:O)(b:List z):aD:=⟨a,7,p,kT,0,0,0,b⟩
def canon(a:aD):aD:=
 if a.kind=1 then sX a.fl a.c
 else if a.kind=2 then uQ a.fl a.dm
 else if a.kind=3 then uR a.fl a.dm.row a.dm.ae
 else if a.kind=4 then uS a.fl a.dm.row a.dm.ae a.dd a.de
 else if a.kind=5 then uT a.fl a.c.rows a.c.y a.c.Z
 else if a.kind=6 then qd 0 a.now
 else qe a.fl a.c a.Y
def dU(d:Int)(b:Int)(e:List Int):Option ((aD×Int)×List Int):=
 if b / 32=1 then ba (nL e) λc a=>E ((sX (b % 32) c,d),a)
 else if b / 32=2 then ba (iu d e) λl a=>E ((uQ (b % 32) l,d),a)
 else if b / 32=3 then ba (jY e) λc a=>E ((uR (b % 32) c.1 c.2,d),a)
 else if b / 32=4 then ba (jY e) λc a=>ba (jY a) λj a=>E ((uS (b % 32) c.1 c.2 j.1 j.2,d),a)
 else if b / 32=5 then ba (pX e) λc a=>E ((uT (b % 32) c.1 c.2.1 c.2.2,d),a)
 else if b / 32=6 then ba (cH e 0 0) λi a=>E ((qd (b % 32) (wrap64 (d+i)),wrap64 (d+i)),a)
 else if b / 32=7 then ba (pk d e) λk a=>E ((qe (b % 32) k.1 k.2,d),a)
 else J
def kg(c:Int)(b:List Int):Option ((aD×Int)×List Int):=ba (uP b) λa d=>dU c a d
def lX:Nat->Int->List aD->List Int->Option ((List aD×Int)×List Int)
 |0,c,a,b=>E ((a,c),b)
 |d+1,c,a,b=>ba (kg c b) λx e=>lX d x.2 (a++[x.1]) e
def ry(c:Int)(a:List Int):Option ((List aD×Int)×List Int):=ba (cH a 0 0) λb d=>lX b.toNat c [] d
def ix(d:Int)(c:List Int):Option ((List aD×Int)×List Int):=ba (ry d c) λe a=>ba (uP a) λb a=>if b=229 then E (e,a) else J
def jK:Nat->Int->List Int->List aD×Bool
 |0,_,a=>([],a.isEmpty)
 |b+1,i,a=>if a=[] then([],true) else match ix i a with
  |none=>([],false)
  |some ((e,c),d)=>(e++(jK b c d).1,(jK b c d).2)
theorem sY(a:Nat)(c:Int)(b:List Int):jK (a+1) c b=if b=[] then([],true) else match ix c b with
  |none=>([],false)
  |some ((i,d),e)=>(i++(jK a d e).1,(jK a d e).2):=rfl
structure pn (now:Int) (e:aD):Prop where
 k:1<=e.kind/\e.kind<=7
 c:e.kind≠7->jG now e
 s:e.kind=2->e.dm.wf
 fl:e.kind=7->0<=e.fl/\e.fl<32
 p:e.kind=7->(0<=e.c.rows/\e.c.rows<128)/\(0<=e.c.y/\e.c.y<128)/\(0<=e.c.Z/\e.c.Z<128)/\(∀k,0<=e.c.cD k/\e.c.cD k<16384)/\0<=e.c.ep/\e.c.ep<=4611686018427387904
 w:e.kind=7->e.Y.length<=120/\∀s∈e.Y,lS now s/\s.wf
def ij:Int->List aD->Int
 |now,[]=>now
 |now,a::b=>ij (ib now a) b
def eY:Int->List aD->Prop
 |_,[]=>True
 |now,a::b=>pn now a/\eY (ib now a) b
theorem EN:∀(a d:List z),(∀b∈a,lS j b/\b.wf)->∀c,nY j a.length d (il j a++c)=E (d++a,c)
 |[],d,_,c=>by simp[nY,il]
 |b::a,d,e,c=>by
  have i:=e b (by simp);show ba (iu j (iT j b++il j a++c)) _=_;rw[cQ,EH i.1 i.2];show nY j a.length (d++[b]) (il j a++c)=_;rw[EN a (d++[b]) (λl k=>e l (by simp[k])) c];simp
theorem OV{a:aD}(c:pn j a)(d:a.kind=7)(n:List Int):pk j (lH j a.c a.Y++n)=E ((a.c,a.Y),n):=by
 obtain⟨o,p,r,b,s,w⟩:=c.p d;obtain⟨x,v⟩:=c.w d;have e:=b 0;have i:=b 1;have k:=b 2;have l:=b 3;simp only[O.cD] at e i k l;unfold pk lH;rw[cQ,cQ,cQ,EE ⟨⟨o.1,by omega⟩,⟨p.1,by omega⟩,r.1,by omega⟩ ⟨e.1,by omega⟩ ⟨i.1,by omega⟩ ⟨k.1,by omega⟩ ⟨l.1,by omega⟩];simp only[ba];rw[j7 s (by omega)];simp only;rw[j7 (by omega) (by omega)];simp only
 rw[show((a.Y.length:Nat):Int).toNat=a.Y.length by omega,EN a.Y [] v];rfl
theorem iJ{c:Type}(x:N)(b:List Int)(a:N->List Int->Option (c×List Int)):ba (E (x,b)) a=a x b:=rfl
theorem OW{a:aD}(b:pn j a)(c:List Int):kg j (ia j a++c)=E ((canon a,ib j a),c):=by
 have G:=b.k;unfold ia canon ib;by_cases n:a.kind=1
 .obtain⟨r,s,v,w⟩:=(b.c (by omega)).start n;have l:=(b.c (by omega)).fl (by omega);have y:=w 0;have z:=w 1;have A:=w 2;have B:=w 3;simp only[O.cD] at y z A B;rw[D n,D n,f (by omega)];show dU j (32+a.fl) (jm a.c++c)=_;unfold dU;rw[D (by omega),EE ⟨⟨r.1,by omega⟩,⟨s.1,by omega⟩,v.1,by omega⟩ ⟨y.1,by omega⟩ ⟨z.1,by omega⟩ ⟨A.1,by omega⟩ ⟨B.1,by omega⟩,iJ,show(32+a.fl) % 32=a.fl by omega];rfl
 rw[f n,f n];by_cases e:a.kind=2
 .have l:=(b.c (by omega)).fl (by omega);rw[D e,D e,f (by omega)];show dU j (64+a.fl) (iT j a.dm++c)=_;unfold dU;rw[f (by omega),D (by omega),EH ((b.c (by omega)).fill e) (b.s e),iJ,show(64+a.fl) % 32=a.fl by omega]
 rw[f e,f e];by_cases o:a.kind=3
 .have l:=(b.c (by omega)).fl (by omega);have k:=(b.c (by omega)).at_ (.inl o);rw[D o,D o,f (by omega)];show dU j (96+a.fl) (gO a.dm.row a.dm.ae++c)=_;unfold dU;rw[f (by omega),f (by omega),D (by omega),xo k.1 k.2,iJ,show(96+a.fl) % 32=a.fl by omega]
 rw[f o,f o];by_cases i:a.kind=4
 .have l:=(b.c (by omega)).fl (by omega);have k:=(b.c (by omega)).at_ (.inr i);have hd:=(b.c (by omega)).dest i;rw[D i,D i,f (by omega)];show dU j (128+a.fl) (gO a.dm.row a.dm.ae++gO a.dd a.de++c)=_;unfold dU;rw[f (by omega),f (by omega),f (by omega),D (by omega),cQ,xo k.1 k.2,iJ,xo hd.1 hd.2,iJ,show(128+a.fl) % 32=a.fl by omega]
 rw[f i,f i];by_cases p:a.kind=5
 .have l:=(b.c (by omega)).fl (by omega);obtain⟨r,s,v⟩:=(b.c (by omega)).zr p;rw[D p,D p,f (by omega)];show dU j (160+a.fl) (lG a.c++c)=_;unfold dU;rw[f (by omega),f (by omega),f (by omega),f (by omega),D (by omega),ED ⟨⟨r.1,by omega⟩,⟨s.1,by omega⟩,v.1,by omega⟩,iJ,show(160+a.fl) % 32=a.fl by omega]
 rw[f p,f p];by_cases d:a.kind=6
 .obtain⟨r,s,v⟩:=(b.c (by omega)).pass d;rw[D d,D d,D d];show dU j 192 (bX (a.now - j)++c)=_;unfold dU;rw[f (by decide),f (by decide),f (by decide),f (by decide),f (by decide),D (by decide),j7 (by omega) (by omega),iJ,show j+(a.now - j)=a.now by omega,xn (by omega)];rfl
 rw[f d,f d,f d];have x:a.kind=7:=by omega
 have l:=b.fl x;show dU j (224+a.fl) (lH j a.c a.Y++c)=_;unfold dU;rw[f (by omega),f (by omega),f (by omega),f (by omega),f (by omega),f (by omega),D (by omega),OV b x,iJ,show(224+a.fl) % 32=a.fl by omega]
theorem EO:∀(b c:List aD) (a:Int),eY a b->∀d,lX b.length a c (ic a b++d)=E ((c++b.map canon,ij a b),d)
 |[],c,a,_,d=>by simp[lX,ic,ij]
 |e::b,c,a,i,d=>by
  show ba (kg a (ia a e++ic (ib a e) b++d)) _=_;rw[cQ,OW i.1,iJ];show lX b.length (ib a e) (c++[canon e]) _=_;rw[EO b _ _ i.2];simp[ij]
def nZ(b:Int)(a:List aD):List Int:=bX a.length++ic b a
theorem xr(b:Int)(a:List aD):aT b a=nZ b a++[229]:=rfl
theorem zW(b:eY j R)(c:R.length<9223372036854775808)(a:List Int):ry j (nZ j R++a)=E ((R.map canon,ij j R),a):=by
 unfold ry nZ;rw[cQ,j7 (by omega) (by omega),iJ,show((R.length:Nat):Int).toNat=R.length by omega,EO R [] j b];simp
theorem OX(b:eY j R)(c:R.length<9223372036854775808)(a:List Int):ix j (aT j R++a)=E ((R.map canon,ij j R),a):=by
 unfold ix;rw[xr,cQ,zW b c,iJ];show ba (E ((229:Int),a)) _=_;rw[iJ,D rfl]
theorem cM.none:cM (λ_=>(J:Option (N×List Int))):=λb d c a=>by cases a
theorem OY:cM uP:=λb k i a=>by
 cases b with
 |nil=>cases a
 |cons c b=>
  injection a with a;injection a with d e;subst d e;exact⟨[c],rfl,λj=>rfl⟩
theorem ES(c:Int):∀(b:Nat) (a:List z),cM (nY c b a)
 |0,a=>cM.ret a
 |b+1,a=>(EM c).bind λd=>ES c b (a++[d])
theorem OZ(a:Int):cM (pk a):=zU.bind λd=>ke.bind λc=>ke.bind λb=>(ES a b.toNat []).bind λe=>cM.ret _
theorem ET(a c:Int):cM (dU a c):=
 (zU.bind λb=>cM.ret _).ite (((EM a).bind λi=>cM.ret _).ite ((xp.bind λb=>cM.ret _).ite ((xp.bind λb=>xp.bind λe=>cM.ret _).ite ((EJ.bind λb=>cM.ret _).ite ((ke.bind λd=>cM.ret _).ite (((OZ a).bind λj=>cM.ret _).ite cM.none))))))
theorem O0(a:Int):cM (kg a):=OY.bind λb=>ET a b
theorem EU:∀(c:Nat) (b:Int) (a:List aD),cM (lX c b a)
 |0,b,a=>cM.ret (a,b)
 |c+1,b,a=>(O0 b).bind λx=>EU c x.2 (a++[x.1])
theorem EW(a:Int):cM (ry a):=ke.bind λb=>EU b.toNat a []
def EY(a:List Int)(b:Nat)(c:Int):List Int:=a.take b++[c]
theorem O1(b:eY j R)(c:R.length<9223372036854775808)(a:w<(nZ j R).length\/(w=(nZ j R).length/\k≠229)):ix j (EY (aT j R) w k)=J:=by
 unfold ix EY;rw[xr];obtain a|⟨a,e⟩:=a
 .rw[zV (by omega)];rcases d:ry j ((nZ j R).take w++[k]) with _|⟨l,i⟩
  .rfl
  .obtain rfl:=(EW j).torn (zW b c) a d;rfl
 .rw[zV (by omega),wk (by omega),zW b c,iJ];show ba (E (k,([]:List Int))) _=_;rw[iJ,f e]
def dN:Int->List (List aD)->List Int
 |_,[]=>[]
 |now,a::b=>aT now a++dN (ij now a) b
def lh:Int->List (List aD)->Prop
 |_,[]=>True
 |now,a::b=>(eY now a/\a.length<9223372036854775808)/\lh (ij now a) b
def kh:Int->List (List aD)->Int
 |now,[]=>now
 |now,a::b=>kh (ij now a) b
theorem EZ(b:Int)(a:List aD):2<=(aT b a).length:=by
 have:=(eM (a.length:Int)).1;unfold aT;simp only[bG,eL,iR];omega
theorem zX:∀(b:List (List aD)) (a:Int),b.length<=(dN a b).length
 |[],_=>by simp[dN]
 |c::b,a=>by
  have d:=EZ a c;have e:=zX b (ij a c);simp only[dN,bG,eL];omega
theorem sZ(b:Int)(a:Nat):jK a b []=([],true):=by
 cases a
 .rfl
 .unfold jK;rw[D rfl]
theorem zY:∀(a:List (List aD)) (b:Int),lh b a->∀(c:Nat) (e:List Int),jK (a.length+c) b (dN b a++e)=((a.map λd=>d.map canon).flatten++(jK c (kh b a) e).1,(jK c (kh b a) e).2)
 |[],b,_,c,e=>by simp[dN,kh]
 |d::a,b,j,c,e=>by
  have n:=zY a (ij b d) j.2 c e;rw[show(d::a).length+c=(a.length+c)+1 by simp;omega]
  rw[sY,f (by
   intro i
   have i:=mu List.length i
   have:=EZ b d
   simp only[dN,bG,iR] at i
   omega)]
  show(match ix b (aT b d++dN (ij b d) a++e) with
   |none=>([],false)
   |some ((l,k),d)=>(l++(jK (a.length+c) k d).1,(jK (a.length+c) k d).2))=_
  rw[cQ,OX j.1.1 j.1.2];simp only;rw[n];simp[kh]
theorem zZ{x:List aD×Int}(a:ix j S=E (x,o)):o.length<S.length:=by
 unfold ix at a;rcases b:ry j S with _|⟨d,c⟩
 .rw[b] at a;cases a
 .rw[b,iJ] at a;obtain⟨k,rfl,_⟩:=EW j S d c b
  cases c with
  |nil=>cases a
  |cons e i=>
   have a:(if e=229 then E (d,i) else J)=E (x,o):=a;split at a
   .injection a with a;injection a with _ a;subst a;simp;omega
   .cases a
theorem E':∀(c j:Nat) (b:Int) (a:List Int),a.length<=c->a.length<=j->jK c b a=jK j b a
 |0,j,b,a,e,_=>by
  obtain rfl:=iC (Nat.le_zero.1 e);rw[sZ,sZ]
 |c+1,0,b,a,_,e=>by
  obtain rfl:=iC (Nat.le_zero.1 e);rw[sZ,sZ]
 |c+1,j+1,b,a,o,p=>by
  rw[sY,sY];by_cases d:a=[]
  .rw[D d,D d]
  .rw[f d,f d];rcases i:ix b a with _|⟨⟨n,k⟩,l⟩
   .rfl
   .have:=zZ i;simp only;rw[E' c j k l (by omega) (by omega)]
def lY(a:List Int):List aD×Bool:=jK a.length 0 a
theorem z'{rs:List (List aD)}(b:lh 0 rs):lY (dN 0 rs)=((rs.map λc=>c.map canon).flatten,true):=by
 have a:=zY rs 0 b ((dN 0 rs).length - rs.length) [];have d:=zX rs 0;rw[dG,show rs.length+((dN 0 rs).length - rs.length)=(dN 0 rs).length by omega,sZ] at a;unfold lY;rw[a];simp
theorem Fa{rs:List (List aD)}(d:lh 0 rs)(b:S≠[])(i:ix (kh 0 rs) S=J):lY (dN 0 rs++S)=((rs.map λj=>j.map canon).flatten,false):=by
 have a:=zY rs 0 d ((dN 0 rs++S).length - rs.length) S;have k:=zX rs 0;have l:0<S.length:=List.length_pos_iff.2 b;rw[show rs.length+((dN 0 rs++S).length - rs.length)=(dN 0 rs++S).length by simp;omega] at a;obtain⟨c,e⟩:∃c,(dN 0 rs++S).length - rs.length=c+1:=⟨(dN 0 rs++S).length - rs.length - 1,by simp;omega⟩;rw[e] at a;unfold lY;rw[a,sY,f b,i];simp
structure gV {γ:Type} (w:U) (rb gb:Nat) (now:Int) (T:Option (γ×List Int)) (c:List Int->Option (γ×List Int)) (l:List Int) (t:Bool):Prop where
 rd:cd w rb gb l now t
 yes:t=false->T=c l
 no:t=true->T=J
theorem gV.next{l:Type}{w2:U}{n:Option (N×List Int)}{p:List Int->Option (l×List Int)}{d:l->List Int->Option (N×List Int)}{t:Bool}(i:gV v w Q j n (λb=>ba (p b) d) S t){k:l}(a:dM w2 w Q (p S) j t (λx=>x=k)):∃o t2,gV w2 w Q j n (λb=>d k b) o t2/\(t2=false->p S=E (k,o)/\t=false):=by
 cases t with
 |false=>
  cases e:p S with
  |none=>
   rw[e] at a;obtain⟨b,a⟩:=a;exact⟨b,true,⟨a,λc=>by simp at c,λ_=>by rw[i.yes rfl];show ba (p S) d=J;rw[e];rfl⟩,λc=>by simp at c⟩
  |some x=>
   obtain⟨x,b⟩:=x;rw[e] at a;obtain⟨rfl,a⟩:=a;exact⟨b,false,⟨a,λ_=>by rw[i.yes rfl];show ba (p S) d=d x b;rw[e];rfl,λc=>by simp at c⟩,λ_=>⟨rfl,rfl⟩⟩
 |true=>
  obtain⟨b,a⟩:=a.torn;exact⟨b,true,⟨a,λc=>by simp at c,λ_=>i.no rfl⟩,λc=>by simp at c⟩
theorem gV.fin{b:Option (N×List Int)}{y:N}{l:List Int}{t:Bool}(a:gV v w Q j b (λc=>E (y,c)) l t):dM v w Q b j false (λx=>x=y):=by
 cases t with
 |false=>rw[a.yes rfl];exact⟨rfl,a.rd⟩
 |true=>rw[a.no rfl];exact⟨l,a.rd⟩
theorem gV.mod{w w':U}{b:Option (N×List Int)}{c:List Int->Option (N×List Int)}{S:Nat->Prop}(a:gV w Q P j b c o B)(i:G S w w')(d:¬S Q)(e:¬S P):gV w' Q P j b c o B:=
 ⟨a.rd.mod i d e,a.yes,a.no⟩
theorem gV.bC{w':U}{b:Option (N×List Int)}{c:List Int->Option (N×List Int)}(d:gV v w Q j b c S B)(e:G No v w'):gV w' w Q j b c S B:=d.mod e (λa=>a) (λa=>a)
theorem cd.start{w:U}{now:Int}(b:cd w Q P S now false)(p:List Int->Option (N×List Int)):gV w Q P now (p S) p S false:=⟨b,λ_=>rfl,λa=>by simp at a⟩
theorem uU{x:Int}(a:cH S 0 0=E (x,o)):o.length<S.length:=(CO S 0 0 a).1
theorem O2{x:Int×Int}(a:jY S=E (x,o)):o.length<S.length:=by
 unfold jY at a;rcases b:cH S 0 0 with _|⟨c,d⟩
 .rw[b] at a;cases a
 .rw[b,iJ] at a;injection a with a;injection a with _ a;subst a;exact uU b
theorem cM.le{p:List Int->Option (N×List Int)}(b:cM p){x:N}(a:p S=E (x,o)):o.length<=S.length:=by
 obtain⟨c,rfl,_⟩:=b S x o a;simp
theorem O3{k:z}(b:iu j S=E (k,o)):o.length<S.length:=by
 unfold iu at b;rcases c:jY S with _|⟨d,p⟩
 .rw[c] at b;cases b
 .rw[c,iJ] at b;have l:=O2 c;have n:=cM.le (p:=λo=>ba (cH o 0 0) λa o=>ba (if a.tdiv 4=3 then E (0,o) else cH o 0 0) λe o=>ba (if a.tdiv 4=1 then cH o 0 0 else E (0,o)) λi o=>E ((⟨d.1,d.2,a.tdiv 4,e,a.tmod 4,if a.tdiv 4=1 then wrap64 (j+i) else 0⟩:z),o)) (ke.bind λa=>((cM.ret 0).ite ke).bind λe=>(ke.ite (cM.ret 0)).bind λi=>cM.ret _) b;omega
theorem Fb:(h.info? 202).map (λa=>(a.zero,a.size,a.bytes))=E (E (t #[F K 0,F K 0,F K 0,F K 0,F K 0,F K 0]),6,48):=by kernel_rfl
theorem Fc(b:U)(a:z):Reads (b.alloc (m #[F K a.row,F K a.ae,F K a.st,F K a.pa,F K a.cl,F K a.un] 202)) (C (E (u b.heap.size 0 J)) 1 1) 1 (eS a):=
 .inr ⟨(u b.heap.size 0 J),1,rfl,λd e hu=>by
  have c:=X.new b #[F K a.row,F K a.ae,F K a.st,F K a.pa,F K a.cl,F K a.un] 202
  rw[dE,bK,c.T,<-dy]
  exact hu⟩
def mM(p:O)(a:V):List V:=oV p++[a,F K p.ep]
structure qg (w wr:U) (rb gb cb:Nat) (p:O) (v:V) (acc:List z) (L k:Nat) (l:List Int) (t:Bool) (now:Int) (T:Option ((O×List z)×List Int)):Prop where
 box:X wr cb (mM p v).toArray 196
 res:X wr w.heap.size #[F K 0,F K 0,F K 0,F K 0,F K 0,F K 0,F K 0,C J 0 0,F K 0] 196
 row:wr.ownsRow 0 202 6 v acc.length (acc.flatMap eS)
 new:∀j,v.ownBlock=E j->w.heap.size<j/\j≠cb
 mod:G (· =rb) w wr
 at_:gV wr rb gb now T (λr=>ba (nY now k acc r) λss r=>E ((p,ss),r)) l t
 len:acc.length<=L+1/\(t=false->acc.length+l.length<=L)
theorem qg.still{wr n:U}{p:O}{k:List z}{d l:Nat}{e:Option ((O×List z)×List Int)}(a:qg v wr w Q P p i k d l S B j e)(c:G No wr n):qg v n w Q P p i k d l S B j e:=
 ⟨c.e a.box (λb=>b),c.e a.res (λb=>b),c.owns a.row (λ_ _ b=>b),a.new,a.mod.trans (c.mono λ_ _ b=>b.elim),a.at_.bC c,a.len⟩
def O9(k w':U)(e c:Nat)(d:List Int)(i:Bool)(b:Int)(j:V):Prop:=∃a,j=t #[F K a.row,F K a.ae,F K a.st,F K a.pa,F K a.cl,F K a.un]/\eE k w' e c (iu b d) b i (λl=>l=a)
theorem qg.next{wr l w6:U}{p:O}{v':V}{c:List z}{s o:Nat}{y:Option ((O×List z)×List Int)}(ad:qg v wr w Q P p i c s (o+1) S false j y)(ak:w<v.heap.size/\Q<v.heap.size/\v.heap.size<P){d:z}(Y:eE wr l w Q (iu j S) j false (λx=>x=d))(M:Obj)(aj:w6.ownsRow 0 202 6 v' (c.length+1) ((c.flatMap eS)++eS d))(ah:(l.alloc M).grownBy w6 i.ownBlock)(am:fm (l.alloc M) i v'):
  ∃H t2,qg v (w6.setCell (u P 7 J) v') w Q P p v' (c++[d]) s o H t2 j y:=by
 obtain⟨ap,ar,au⟩:=ak;obtain⟨R,ae,av,A,T,B,af⟩:=ad;have aw:=R.lt;have ay:=T.size;have r:=Y.1;have Z:G (λa=>i.ownBlock=E a) l w6:=((G.refl _ l).alloc M).grown ah (λa k=>.inl k);have I:G (λa=>i.ownBlock=E a\/a=P) l (w6.setCell (u P 7 J) v'):=(Z.mono (λ_ _ x=>.inl x)).setCell (p:=u P 7 J) (.inl (.inr rfl)) _;have n:∀a,a<=v.heap.size->¬(i.ownBlock=E a\/a=P):=λa k=>by
  rintro(b|b)
  .have:=(A a b).1;omega
  .omega
 have W:∀a,v'.ownBlock=E a->v.heap.size<a/\a≠P:=λa k=>by
  obtain N|N:=am a k
  .exact A a N
  .have:=r.size;rw[bW] at N;omega
 have ai:gV wr w Q j y (λe=>ba (iu j e) λd e=>ba (nY j o (c++[d]) e) λao e=>E ((p,ao),e)) S false:=⟨B.rd,λb=>by
  rw[B.yes b]
  show ba (ba (iu j S) λd e=>nY j o (c++[d]) e) _=_
  obtain _|⟨x,e⟩:=iu j S<;>rfl,B.no⟩
 obtain⟨H,t2,aa,ab⟩:=ai.next Y.2
 refine⟨H,t2,?_,?_,?_,W,(T.trans r).trans' I (λa k ax=>absurd k (n a (by omega))),aa.mod I (n w (by omega)) (n Q (by omega)),?_⟩
 .have ag:X w6 P (mM p i).toArray 196:=Z.e (r.e R (by show ¬P=w;omega)) (λb=>(A P b).2 rfl);exact ag.set 7 v'
 .exact I.e (r.e ae (by show ¬v.heap.size=w;omega)) (n _ (cz _))
 .have b:(c++[d]).flatMap eS=c.flatMap eS++eS d:=by rw[jW];simp
  rw[b,bG];exact jh aj (a:=u P 7 J) (λb=>(W P (by simpa using b)).2 rfl) _
 .have az:=af.2 rfl;have:c.length+1<=s+1:=by omega
  refine⟨by simp;omega,λb=>?_⟩;have:=O3 (ab b).1;simp;omega
theorem Pa{x0 x1 x2 x3 x4 x5 x6 x7 x8:V}(o:X v w #[F K 0,F K 0,F K 0,F K 0,F K 0,F K 0,F K 0,C J 0 0,F K 0] 196):G (λb=>b=w) v (((((((((v.setCell (u w 0 J) (x0)).setCell (u w 1 J) (x1)).setCell (u w 2 J) (x2)).setCell (u w 3 J) (x3)).setCell (u w 4 J) (x4)).setCell (u w 5 J) (x5)).setCell (u w 6 J) (x6)).setCell (u w 7 J) (x7)).setCell (u w 8 J) (x8))/\(((((((((v.setCell (u w 0 J) (x0)).setCell (u w 1 J) (x1)).setCell (u w 2 J) (x2)).setCell (u w 3 J) (x3)).setCell (u w 4 J) (x4)).setCell (u w 5 J) (x5)).setCell (u w 6 J) (x6)).setCell (u w 7 J) (x7)).setCell (u w 8 J) (x8)).cell? (u w 0 J)=E (x0)/\(((((((((v.setCell (u w 0 J) (x0)).setCell (u w 1 J) (x1)).setCell (u w 2 J) (x2)).setCell (u w 3 J) (x3)).setCell (u w 4 J) (x4)).setCell (u w 5 J) (x5)).setCell (u w 6 J) (x6)).setCell (u w 7 J) (x7)).setCell (u w 8 J) (x8)).cell? (u w 1 J)=E (x1)/\(((((((((v.setCell (u w 0 J) (x0)).setCell (u w 1 J) (x1)).setCell (u w 2 J) (x2)).setCell (u w 3 J) (x3)).setCell (u w 4 J) (x4)).setCell (u w 5 J) (x5)).setCell (u w 6 J) (x6)).setCell (u w 7 J) (x7)).setCell (u w 8 J) (x8)).cell? (u w 2 J)=E (x2)/\(((((((((v.setCell (u w 0 J) (x0)).setCell (u w 1 J) (x1)).setCell (u w 2 J) (x2)).setCell (u w 3 J) (x3)).setCell (u w 4 J) (x4)).setCell (u w 5 J) (x5)).setCell (u w 6 J) (x6)).setCell (u w 7 J) (x7)).setCell (u w 8 J) (x8)).cell? (u w 3 J)=E (x3)/\(((((((((v.setCell (u w 0 J) (x0)).setCell (u w 1 J) (x1)).setCell (u w 2 J) (x2)).setCell (u w 3 J) (x3)).setCell (u w 4 J) (x4)).setCell (u w 5 J) (x5)).setCell (u w 6 J) (x6)).setCell (u w 7 J) (x7)).setCell (u w 8 J) (x8)).cell? (u w 4 J)=E (x4)/\(((((((((v.setCell (u w 0 J) (x0)).setCell (u w 1 J) (x1)).setCell (u w 2 J) (x2)).setCell (u w 3 J) (x3)).setCell (u w 4 J) (x4)).setCell (u w 5 J) (x5)).setCell (u w 6 J) (x6)).setCell (u w 7 J) (x7)).setCell (u w 8 J) (x8)).cell? (u w 5 J)=E (x5)/\(((((((((v.setCell (u w 0 J) (x0)).setCell (u w 1 J) (x1)).setCell (u w 2 J) (x2)).setCell (u w 3 J) (x3)).setCell (u w 4 J) (x4)).setCell (u w 5 J) (x5)).setCell (u w 6 J) (x6)).setCell (u w 7 J) (x7)).setCell (u w 8 J) (x8)).cell? (u w 6 J)=E (x6)/\(((((((((v.setCell (u w 0 J) (x0)).setCell (u w 1 J) (x1)).setCell (u w 2 J) (x2)).setCell (u w 3 J) (x3)).setCell (u w 4 J) (x4)).setCell (u w 5 J) (x5)).setCell (u w 6 J) (x6)).setCell (u w 7 J) (x7)).setCell (u w 8 J) (x8)).cell? (u w 7 J)=E (x7)/\(((((((((v.setCell (u w 0 J) (x0)).setCell (u w 1 J) (x1)).setCell (u w 2 J) (x2)).setCell (u w 3 J) (x3)).setCell (u w 4 J) (x4)).setCell (u w 5 J) (x5)).setCell (u w 6 J) (x6)).setCell (u w 7 J) (x7)).setCell (u w 8 J) (x8)).cell? (u w 8 J)=E (x8):=by
 have c:X (v.setCell (u w 0 J) (x0)) w #[x0,F K 0,F K 0,F K 0,F K 0,F K 0,F K 0,C J 0 0,F K 0] 196:=o.set 0 (x0);have d:X ((v.setCell (u w 0 J) (x0)).setCell (u w 1 J) (x1)) w #[x0,x1,F K 0,F K 0,F K 0,F K 0,F K 0,C J 0 0,F K 0] 196:=c.set 1 (x1)
 have e:X (((v.setCell (u w 0 J) (x0)).setCell (u w 1 J) (x1)).setCell (u w 2 J) (x2)) w #[x0,x1,x2,F K 0,F K 0,F K 0,F K 0,C J 0 0,F K 0] 196:=d.set 2 (x2);have i:X ((((v.setCell (u w 0 J) (x0)).setCell (u w 1 J) (x1)).setCell (u w 2 J) (x2)).setCell (u w 3 J) (x3)) w #[x0,x1,x2,x3,F K 0,F K 0,F K 0,C J 0 0,F K 0] 196:=e.set 3 (x3)
 have j:X (((((v.setCell (u w 0 J) (x0)).setCell (u w 1 J) (x1)).setCell (u w 2 J) (x2)).setCell (u w 3 J) (x3)).setCell (u w 4 J) (x4)) w #[x0,x1,x2,x3,x4,F K 0,F K 0,C J 0 0,F K 0] 196:=i.set 4 (x4)
 have k:X ((((((v.setCell (u w 0 J) (x0)).setCell (u w 1 J) (x1)).setCell (u w 2 J) (x2)).setCell (u w 3 J) (x3)).setCell (u w 4 J) (x4)).setCell (u w 5 J) (x5)) w #[x0,x1,x2,x3,x4,x5,F K 0,C J 0 0,F K 0] 196:=j.set 5 (x5)
 have l:X (((((((v.setCell (u w 0 J) (x0)).setCell (u w 1 J) (x1)).setCell (u w 2 J) (x2)).setCell (u w 3 J) (x3)).setCell (u w 4 J) (x4)).setCell (u w 5 J) (x5)).setCell (u w 6 J) (x6)) w #[x0,x1,x2,x3,x4,x5,x6,C J 0 0,F K 0] 196:=k.set 6 (x6)
 have n:X ((((((((v.setCell (u w 0 J) (x0)).setCell (u w 1 J) (x1)).setCell (u w 2 J) (x2)).setCell (u w 3 J) (x3)).setCell (u w 4 J) (x4)).setCell (u w 5 J) (x5)).setCell (u w 6 J) (x6)).setCell (u w 7 J) (x7)) w #[x0,x1,x2,x3,x4,x5,x6,x7,F K 0] 196:=l.set 7 (x7)
 have a:X (((((((((v.setCell (u w 0 J) (x0)).setCell (u w 1 J) (x1)).setCell (u w 2 J) (x2)).setCell (u w 3 J) (x3)).setCell (u w 4 J) (x4)).setCell (u w 5 J) (x5)).setCell (u w 6 J) (x6)).setCell (u w 7 J) (x7)).setCell (u w 8 J) (x8)) w #[x0,x1,x2,x3,x4,x5,x6,x7,x8] 196:=n.set 8 (x8)
 refine⟨((((((((((G.refl (λb=>b=w) v).setCell (p:=u w 0 J) (.inl rfl) _).setCell (p:=u w 1 J) (.inl rfl) _).setCell (p:=u w 2 J) (.inl rfl) _).setCell (p:=u w 3 J) (.inl rfl) _).setCell (p:=u w 4 J) (.inl rfl) _).setCell (p:=u w 5 J) (.inl rfl) _).setCell (p:=u w 6 J) (.inl rfl) _).setCell (p:=u w 7 J) (.inl rfl) _).setCell (p:=u w 8 J) (.inl rfl) _),a.T 0,a.T 1,a.T 2,a.T 3,a.T 4,a.T 5,a.T 6,a.T 7,a.T 8⟩
theorem Pb(O:cd v w Q S k false):Calls h 142 #[g (E (u w 0 J))] v λc w'=>∃p B r,c=q (t (mM p r).toArray)/\w'.ownsRow 0 202 6 r B.length (B.flatMap eS)/\(∀j,r.ownBlock=E j->v.heap.size<=j)/\G (· =w) v w'/\dM w' w Q (pk k S) k false (λx=>x=(p,B)):=by
 have bx:=O.nJ;have bs:=O.lt;have b4:=O.len;have aC:v.heap.size≠w:=by omega
 have b1:v.heap.size≠Q:=by omega
 have aE:G No v (v.alloc (m #[F K 0,F K 0,F K 0,F K 0,F K 0,F K 0,F K 0,C J 0 0,F K 0] 196)):=(G.refl _ _).alloc _;have aX:gV (v.alloc (m #[F K 0,F K 0,F K 0,F K 0,F K 0,F K 0,F K 0,C J 0 0,F K 0] 196)) w Q k (pk k S) (λA=>ba (nL A) λp A=>ba (cH A 0 0) λy A=>ba (cH A 0 0) λI A=>ba (nY k I.toNat [] A) λB A=>E ((p.at y,B),A)) S false:=(O.start (pk k)).bC aE;have ar:=l aX;have aT:=l aE
 have aH:=l (X.new v #[F K 0,F K 0,F K 0,F K 0,F K 0,F K 0,F K 0,C J 0 0,F K 0] 196);have a6:v.heap.size+1<=(v.alloc (m #[F K 0,F K 0,F K 0,F K 0,F K 0,F K 0,F K 0,C J 0 0,F K 0] 196)).heap.size:=by simp
 have aP:=l a6;clear O aE aX a6;generalize a1:pk k S=ax at *;have bI:=l a1;clear a1;go_enter func142,ntmps142;go_wp2_with fail;refine(DP (b ar).rd).mono ?_;rintro c cm ⟨p,rfl,bl,W⟩;obtain⟨b7,t1,aY,az⟩:=(b ar).next W.2
 have au:=l aY;have aL:=l az;have aU:=l (((b aT).mono (S':=(· =w)) λ_ _ x=>x.elim).trans W.1);have aI:=l (W.1.e (b aH) aC);have aQ:=l (cC (b aP) W.1.size);clear W aY az ar aT aH bl aP;unfold oV;go_wp2_with fail;refine(lP (b au).rd).mono ?_;rintro c ap ⟨y,rfl,bk,R⟩;obtain⟨b8,t2,aZ,af⟩:=(b au).next R.2
 have ai:G No ap (ap.alloc (m #[F K p.rows,F K p.y,F K p.Z,F K p.af,F K p.ag,F K p.ai,F K p.aj,C J 0 0,F K y] 196)):=(G.refl _ _).alloc _;have av:=l (aZ.bC ai);have aN:=l af;have aW:=l (((b aU).trans R.1).trans (ai.mono (S':=(· =w)) λ_ _ x=>x.elim));have aJ:=l (ai.e (R.1.e (b aI) aC) (λx=>x));have aK:=l (X.new ap #[F K p.rows,F K p.y,F K p.Z,F K p.af,F K p.ag,F K p.ai,F K p.aj,C J 0 0,F K y] 196)
 have aS:=l (cC (b aQ) R.1.size);clear R aZ af au aU aI bk aQ ai;go_wp2_with fail;generalize b0:ap.heap.size=e at *;have bp:v.heap.size<e:=by have:=b aS;omega
 refine(lP (b av).rd).mono ?_;rintro c w3 ⟨I,rfl,fn,T⟩;obtain⟨bC,t3,a0,aA⟩:=(b av).next T.2
 have aa:qg v w3 w Q e (p.at y) (C J 0 0) [] S.length I.toNat bC t3 k ax:=by
  refine⟨T.1.e (b aK) (by show ¬e=w;omega),T.1.e (b aJ) aC,dx _ _ _ _,λj bt=>by simp[aV] at bt,(b aW).trans T.1,a0,by simp,λc=>?_⟩;have am:=aA c;have ak:=(b aN) am.2;have aF:=(b aL) ak.2;have ci:=uU am.1;have ch:=uU ak.1;have cg:=zU.le aF.1;simp;omega
 have aa:=l aa;clear T a0 aA av aW aJ aK aS aN aL;go_wp2_with fail;go_loopw [4] (λY wr=>∃(I:Int) (r:V) (d:List z) (ah:List Int) (H:Bool),Y=F K I/\I<=9223372036854775807/\Hid (qg v wr w Q e (p.at y) r d S.length I.toNat ah H k ax)) (λY _=>(intOf Y).toNat)
 case atStart=>exact⟨I,_,_,_,_,rfl,fn.2,aa⟩
 case round=>
  obtain⟨s,r,d,ah,H,rfl,b5,a⟩:=hrel;clear aa;obtain⟨bJ,bO,aD,bv,bw⟩:=(b a).at_.rd.e;have bX:wr.cell? (u w 2 J)=E (L H):=aD.T 2;have bV:=aD.lt;clear aD bv bw;by_cases ag:0<s/\H=false
  .obtain⟨bu,rfl⟩:=ag;have b2:s>0:=bu;obtain⟨i,a3⟩:∃i,s.toNat=i+1:=⟨s.toNat - 1,by omega⟩;rw[a3] at a;have a:=l (b a);have b6:K.wrap (s - 1)=s - 1:=by rw[lF];omega
   obtain⟨n,o,rfl⟩:=aR (b a).row;have bL:wr.cell? (u e 7 J)=E (C n d.length o):=(b a).box.T 7;have bM:=(b a).box.aC;have bh:=(b a).box.lt;have ab:=l ((b a).still (G.refl No wr).drew);have a9:=l (show Calls h 139 #[g (E (u w 0 J))] wr.drew λc w'=>∃r,c=q r/\O9 wr.drew w' w Q ah false k r from(DN (b ab).at_.rd).mono (λc w' ⟨Y,bm,bY,bn⟩=>⟨_,bm,Y,rfl,bn⟩))
   have bZ:d.length<=1099511627776:=by have:=(b a).len.2 rfl;omega
   have bb:=l (show w<v.heap.size/\Q<v.heap.size/\v.heap.size<e from⟨bx,bs,bp⟩);have aw:=l (λi (c:(C n d.length o).ownBlock=E i)=>(b a).new i c);have bq:¬e=w:=by omega
   have a4:∀i,(C n d.length o).ownBlock=E i->¬i=w:=λi c af=>by have:=((b a).new i c).1;omega
   have ad:=l a4;have bc:=l (show E e≠(C n d.length o).ownBlock from λc=>((b a).new e c.symm).2 rfl);obtain⟨bB,bF,aF,ak,am⟩:=fq Fb;clear a a4;go_upto_region 5 with fail
   go_region_law (first
    |(refine oT rfl 139 _ _ rfl #[g (E (u w 0 J))] (by simp[aM,bN]) (λM=>by kernel_rfl) _ (b a9) ?_;intro cl Z bo;obtain⟨aG,rfl,ao⟩:=bo;have bf:=l ao;have ae:=l (ao.1.e (b ab).box bq);have bd:=l (ao.1.owns (b ab).row (b ad));have b9:Z.cell? (u e 7 J)=E (C n d.length o):=(b ae).T 7;have cb:=(b ae).aC;have ce:=(b ae).lt;clear ao)
    |(refine tR rfl (.tmp 24) (.tmp 27) 194 rfl 202 bB _ 6 48 underlying194 bF aF ak am rfl (by decide) (C n d.length o) d.length _ (by simp[aM,bN]) (by exact(((G.refl No Z).alloc _).owns (b bd) (λ_ _ x=>x))) (C (E (u Z.heap.size 0 J)) 1 1) 1 (eS aG) (by simp[aM,bN]) (by exact Fc Z aG) rfl (by intro cj hu;simp[eS] at hu;obtain rfl|rfl|rfl|rfl|rfl|rfl:=hu<;>rfl) (by unfold maxLen;omega) (by omega) ?_;intro ck bH a5 a2 bz;obtain⟨bg,bi,rfl⟩:=aR a5;have ay:=l (X.grown (((G.refl No Z).alloc _).e (b ae) (λx=>x)) a2 (b bc));have ca:bH.cell? (u e 7 J)=E (C n d.length o):=(b ay).T 7;have cc:=(b ay).aC;have cf:=(b ay).lt))
   all_goals go_wp2_with fail
   all_goals
    obtain⟨bE,t9,bA⟩:=(b ab).next (b bb) (b bf) _ a5 a2 bz
    refine⟨⟨s - 1,C bg (d.length+1) bi,d++[aG],bE,t9,rfl,by omega,l ?_⟩,by simp[intOf];omega⟩;rw[show(s - 1).toNat=i by omega];exact bA
  .obtain⟨n,o,rfl⟩:=aR (b a).row;have bP:wr.cell? (u e 0 J)=E (F K p.rows):=(b a).box.T 0;have az:wr.cell? (u e 1 J)=E (F K p.y):=(b a).box.T 1;have af:wr.cell? (u e 2 J)=E (F K p.Z):=(b a).box.T 2;have aA:wr.cell? (u e 3 J)=E (F K p.af):=(b a).box.T 3;have bQ:wr.cell? (u e 4 J)=E (F K p.ag):=(b a).box.T 4;have bR:wr.cell? (u e 5 J)=E (F K p.ai):=(b a).box.T 5
   have bS:wr.cell? (u e 6 J)=E (F K p.aj):=(b a).box.T 6;have bT:wr.cell? (u e 7 J)=E (C n d.length o):=(b a).box.T 7;have bU:wr.cell? (u e 8 J)=E (F K y):=(b a).box.T 8;have cn:wr.cell? (u v.heap.size 0 J)=E (F K 0):=(b a).res.T 0;have co:wr.cell? (u v.heap.size 1 J)=E (F K 0):=(b a).res.T 1;have cp:wr.cell? (u v.heap.size 2 J)=E (F K 0):=(b a).res.T 2
   have cq:wr.cell? (u v.heap.size 3 J)=E (F K 0):=(b a).res.T 3;have cr:wr.cell? (u v.heap.size 4 J)=E (F K 0):=(b a).res.T 4;have cs:wr.cell? (u v.heap.size 5 J)=E (F K 0):=(b a).res.T 5;have ct:wr.cell? (u v.heap.size 6 J)=E (F K 0):=(b a).res.T 6;have cu:wr.cell? (u v.heap.size 7 J)=E (C J 0 0):=(b a).res.T 7;have cv:wr.cell? (u v.heap.size 8 J)=E (F K 0):=(b a).res.T 8
   have cw:=(b a).res.aC;have cx:=(b a).res.lt;have bh:=(b a).box.lt;have aO:=l (Pa (x0:=F K p.rows) (x1:=F K p.y) (x2:=F K p.Z) (x3:=F K p.af) (x4:=F K p.ag) (x5:=F K p.ai) (x6:=F K p.aj) (x7:=C n d.length o) (x8:=F K y) (b a).res);have ad:=l (show ¬w=v.heap.size/\¬Q=v.heap.size from⟨by omega,by omega⟩)
   have a8:=l (show s.toNat=0\/H=true from by
    cases H with
    |true=>exact .inr rfl
    |false=>exact .inl (by have:=ag;simp at this;omega))
   have aw:=l (λi (c:(C n d.length o).ownBlock=E i)=>(b a).new i c);have br:¬s>0\/(s>0/\H=true):=by
    by_cases P:s>0
    .refine .inr ⟨P,?_⟩
     cases H with
     |true=>rfl
     |false=>exact absurd ⟨P,rfl⟩ ag
    .exact .inl P
   clear ag
   have a7:=l (show ∀M,M=(((((((((wr.setCell (u v.heap.size 0 J) (F K p.rows)).setCell (u v.heap.size 1 J) (F K p.y)).setCell (u v.heap.size 2 J) (F K p.Z)).setCell (u v.heap.size 3 J) (F K p.af)).setCell (u v.heap.size 4 J) (F K p.ag)).setCell (u v.heap.size 5 J) (F K p.ai)).setCell (u v.heap.size 6 J) (F K p.aj)).setCell (u v.heap.size 7 J) (C n d.length o)).setCell (u v.heap.size 8 J) (F K y))->∃N B r,q (t #[F K p.rows,F K p.y,F K p.Z,F K p.af,F K p.ag,F K p.ai,F K p.aj,C n d.length o,F K y])=q (t (mM N r).toArray)/\M.ownsRow 0 202 6 r B.length (B.flatMap eS)/\(∀j,r.ownBlock=E j->v.heap.size<=j)/\G (· =w) v M/\dM M w Q ax k false (λx=>x=(N,B)) from by
    rintro M rfl
    have aj:=(b aO).1
    refine⟨p.at y,d,C n d.length o,rfl,aj.owns (b a).row (λi c=>by have:=(b aw) i c;omega),λi c=>by have:=(b aw) i c;omega,(b a).mod.trans' aj (λi a3 b3=>by omega),?_⟩
    have aB:=(b a).at_.mod aj (b ad).1 (b ad).2
    refine gV.fin (l:=ah) (t:=H) ⟨aB.rd,λc=>?_,aB.no⟩
    obtain N|N:=b a8
    .have:=aB.yes c
     rw[N] at this
     exact this
    .rw[N] at c;simp at c)
   obtain P|⟨P,rfl⟩:=br
   all_goals
    go_wp2_with fail;obtain⟨aj,d0,d1,d2,d3,d4,d5,d6,d7,d8⟩:=b aO;refine cN (by simp[results,results142,go_sem,d0,d1,d2,d3,d4,d5,d6,d7,d8];try rfl) rfl ?_;exact(b a7) _ rfl
def dV(j:U)(i:Nat)(e:V)(a:aD):Prop:=
 if a.kind=7 then ∃b c,e=.iface 196 (t (mM a.c (C b a.Y.length c)).toArray)/\j.ownsRow 0 202 6 (C b a.Y.length c) a.Y.length (a.Y.flatMap eS)/\∀d,(C b a.Y.length c).ownBlock=E d->i<=d
 else e=eH a
theorem dV.mod{w w':U}{d:aD}{S:Nat->Prop}(a:dV w Q i d)(p:G S w w')(r:∀b,Q<=b->¬S b):dV w' Q i d:=by
 unfold dV at a ⊢;split
 .rename_i c;rw[D c] at a;obtain⟨j,k,l,n,e⟩:=a;exact⟨j,k,l,p.owns n (λb o=>r b (e b o)),e⟩
 .rename_i c;rw[f c] at a;exact a
theorem dV.low{c:aD}(a:dV v w i c)(o:Q<=w):dV v Q i c:=by
 unfold dV at a ⊢;split
 .rename_i b;rw[D b] at a;obtain⟨d,e,j,k,l⟩:=a;exact⟨d,e,j,k,λp n=>cC o (l p n)⟩
 .rename_i b;rw[f b] at a;exact a
def mN(w':U)(e d j:Nat)(k:Option ((aD×Int)×List Int))(i:Int)(l:V):Prop:=match k with
 |some ((c,a),b)=>i=c.fl/\dV w' j l c/\cd w' e d b a false
 |none=>∃b a,cd w' e d b a true
theorem mN.mod{w w':U}{S:Nat->Prop}(a:mN w Q P p I j i)(b:G S w w')(l:∀e,p<=e->¬S e)(c:¬S Q)(d:¬S P):mN w' Q P p I j i:=by
 obtain _|⟨⟨o,r⟩,k⟩:=I
 .obtain⟨k,n,a⟩:=a;exact⟨k,n,a.mod b c d⟩
 .exact⟨a.1,a.2.1.mod b l,a.2.2.mod b c d⟩
theorem mN.low(a:mN v w Q P I j i)(b:p<=P):mN v w Q p I j i:=by
 obtain _|⟨⟨c,d⟩,e⟩:=I
 .exact a
 .exact⟨a.1,a.2.1.low b,a.2.2⟩
theorem dM.td{w':U}{b:aD}(a:dM w' w Q I j false (λx=>x=(b,j)))(d:k=b.fl)(e:dV w' P i b):mN w' w Q P I k i:=by
 obtain _|⟨x,c⟩:=I
 .obtain⟨c,a⟩:=a;exact⟨c,j,a⟩
 .obtain⟨rfl,a⟩:=a;exact⟨d,e,a⟩
theorem gV.cont{b:Option (N×List Int)}{c c':List Int->Option (N×List Int)}(a:gV v w Q j b c S B)(d:c S=c' S):gV v w Q j b c' S B:=⟨a.rd,λe=>(a.yes e).trans d,a.no⟩
structure lj (w wr:U) (rb gb sb xb:Nat) (f:Int):Prop where
 box:X wr xb #[F K f,.nilIface] 125
 res:X wr sb #[F K 0,.nilIface] 125
 mod:G (· =rb) w wr
 ord:rb<sb/\gb<sb/\sb=w.heap.size/\sb<xb
theorem lj.step{wr c:U}(a:lj v wr w Q P p j)(b:G (· =w) wr c):lj v c w Q P p j:=
 ⟨b.e a.box (by have:=a.ord;show ¬p=w;omega),b.e a.res (by have:=a.ord;show ¬P=w;omega),a.mod.trans b,a.ord⟩
theorem lj.still{wr a:U}(b:lj v wr w Q P p j)(c:G No wr a):lj v a w Q P p j:=b.step (c.mono λ_ _ d=>d.elim)
def xt(c w':U)(a i:Nat)(d:Option ((aD×Int)×List Int))(e:Int)(b:V):Prop:=b.oneCell'=true/\G (· =a) c w'/\mN w' a i c.heap.size d e b
theorem lj.fin{l b:U}{v:V}(d:lj l b w Q P p j)(n:v.oneCell'=true)(r:mN b w Q (p+1) I j v):(((b.setCell (u p 1 J) v).setCell (u P 0 J) (F K j)).setCell (u P 1 J) v).cell? (u P 0 J)=E (F K j)/\(((b.setCell (u p 1 J) v).setCell (u P 0 J) (F K j)).setCell (u P 1 J) v).cell? (u P 1 J)=E v/\
  xt l (((b.setCell (u p 1 J) v).setCell (u P 0 J) (F K j)).setCell (u P 1 J) v) w Q I j v:=by
 obtain⟨x,y,z,A⟩:=d.ord;have k:G (λc=>c=p\/c=P) b (((b.setCell (u p 1 J) v).setCell (u P 0 J) (F K j)).setCell (u P 1 J) v):=(((G.refl _ b).setCell (p:=u p 1 J) (.inl (.inl rfl)) _).setCell (p:=u P 0 J) (.inl (.inr rfl)) _).setCell (p:=u P 1 J) (.inl (.inr rfl)) _;have o:X (b.setCell (u p 1 J) v) P #[F K 0,.nilIface] 125:=d.res.eJ (a:=u p 1 J) (by show P≠p;omega) v
 have e:=(o.set 0 (F K j)).set 1 v;refine⟨e.T 0,e.T 1,n,d.mod.trans' k (λc i s=>by obtain a|a:=i<;>omega),(r.mod k (λc i a=>by obtain a|a:=a<;>omega) (λa=>by obtain a|a:=a<;>omega) (λa=>by obtain a|a:=a<;>omega)).low (by omega)⟩
theorem cd.Aa(a:cd v w Q S j B):v.cell? (u w 1 J)=E (F K j):=by
 obtain⟨_,_,b,_⟩:=a.e;exact b.T 1
theorem cd.rz(b:cd v w Q S j B):(∀c,v.frozen? (u w c J)=false)/\w<v.heap.size:=by
 obtain⟨_,_,a,_⟩:=b.e;exact⟨a.aC,a.lt⟩
theorem cd.yP(a:cd v w Q S j B)(l:Fit k):cd (v.setCell (u w 1 J) (F K k)) w Q S k B:=by
 obtain⟨c,d,s,x,y⟩:=a.e;have b:G (· =w) v (v.setCell (u w 1 J) (F K k)):=(G.refl (λp=>p=w) v).setCell (p:=u w 1 J) (.inl rfl) _;refine⟨⟨c,d,s.set 1 _,x,λo z n=>?_⟩,a.ne,bj a.lt b.size,l,a.len,a.tY⟩;obtain⟨r,e,i⟩:=y o z n;exact⟨r,e,tZ b i a.ne⟩
theorem cd.Ab(a:cd v w Q S j B):cd (v.setCell (u w 2 J) (L true)) w Q S j true/\G (· =w) v (v.setCell (u w 2 J) (L true)):=by
 obtain⟨c,d,p,r,s⟩:=a.e;have b:G (· =w) v (v.setCell (u w 2 J) (L true)):=(G.refl (λn=>n=w) v).setCell (p:=u w 2 J) (.inl rfl) _;refine⟨⟨⟨c,d,p.set 2 _,r,λl x k=>?_⟩,a.ne,bj a.lt b.size,a.fit,a.len,a.tY⟩,b⟩;obtain⟨o,e,i⟩:=s l x k;exact⟨o,e,tZ b i a.ne⟩
theorem cd.te(a:cd v w Q S j B):v.cell? (u w 2 J)=E (L B):=by
 obtain⟨_,_,b,_⟩:=a.e;exact b.T 2
theorem lj.Pc{a:U}{T:Option ((aD×Int)×List Int)}(c:lj v a w Q P p j)(l:mN a w Q (p+1) T j .nilIface):((a.setCell (u P 0 J) (F K j)).setCell (u P 1 J) .nilIface).cell? (u P 0 J)=E (F K j)/\((a.setCell (u P 0 J) (F K j)).setCell (u P 1 J) .nilIface).cell? (u P 1 J)=E .nilIface/\xt v ((a.setCell (u P 0 J) (F K j)).setCell (u P 1 J) .nilIface) w Q T j .nilIface:=by
 obtain⟨o,r,s,x⟩:=c.ord;have i:G (λb=>b=P) a ((a.setCell (u P 0 J) (F K j)).setCell (u P 1 J) .nilIface):=((G.refl (λb=>b=P) a).setCell (p:=u P 0 J) (.inl rfl) _).setCell (p:=u P 1 J) (.inl rfl) _;have d:=(c.res.set 0 (F K j)).set 1 .nilIface;exact⟨d.T 0,d.T 1,rfl,c.mod.trans' i (λb k n=>by omega),(l.mod i (λb k e=>by omega) (λe=>by omega) (λe=>by omega)).low (by omega)⟩
structure Fe (w wx:U) (rb gb xb:Nat) (f now n:Int) (T:Option ((aD×Int)×List Int)):Prop where
 Pd:lj w wx rb gb w.heap.size xb f
 qM:mN wx rb gb (xb+1) T f (.iface 159 (t #[F K (wrap64 (now+n))]))
 now:wx.cell? (u rb 1 J)=E (F K (wrap64 (now+n)))
 lt:rb<wx.heap.size
theorem Pe{i:U}(s:gV i w Q k I (λe=>ba (cH e 0 0) λp e=>E ((qd j (wrap64 (k+p)),wrap64 (k+p)),e)) S B)(y:lj v i w Q v.heap.size P j)(l:U)(o:G No i l):Calls h 131 #[g (E (u w 0 J))] l λn a=>∃b,n=q (F K b)/\a.cell? (u w 1 J)=E (F K k)/\((∀N,a.frozen? (u w N J)=false)/\w<a.heap.size)/\Hid (∀x,x=wrap64 (k+b)->Fe v (a.setCell (u w 1 J) (F K x)) w Q P j k b I):=by
 have hA:=s.bC o;refine(lP hA.rd).mono ?_;rintro n a ⟨b,rfl,O,hu⟩;obtain⟨H,t2,c, -⟩:=hA.next hu.2
 refine⟨b,rfl,c.rd.Aa,c.rd.rz,λx z=>?_⟩;subst z;have r:Fit (wrap64 (k+b)):=by unfold wrap64;omega
 have d:=c.rd.yP r;have M:G (· =w) a (a.setCell (u w 1 J) (F K (wrap64 (k+b)))):=(G.refl (λA=>A=w) a).setCell (p:=u w 1 J) (.inl rfl) _;refine⟨((y.still o).step hu.1).step M,?_,d.Aa,d.rz.2⟩
 cases t2 with
 |false=>rw[c.yes rfl];exact⟨rfl,rfl,d⟩
 |true=>rw[c.no rfl];exact⟨H,_,d⟩
theorem Pf(ap:cd v w Q S j false):Calls h 132 #[g (E (u w 0 J))] v λx w'=>∃e ax,x=q (t #[F K e,ax])/\xt v w' w Q (kg j S) e ax:=by
 have a7:=ap.nJ;have a4:=ap.lt;have aP:G No v (v.alloc (m #[F K 0,.nilIface] 125)):=(G.refl _ _).alloc _;have aC:=l (show gV (v.alloc (m #[F K 0,.nilIface] 125)) w Q j (kg j S) (λc=>ba (uP c) λap c=>dU j ap c) S false from(ap.start (kg j)).bC aP);have aW:=l (X.new v #[F K 0,.nilIface] 125);have aY:=l aP;have aX:=l (show v.heap.size+1<=(v.alloc (m #[F K 0,.nilIface] 125)).heap.size by simp)
 clear ap aP;generalize kg j S=aE at *;go_enter func132,ntmps132;go_wp2_with fail;refine(yy (b aC).rd).mono ?_;rintro x T ⟨p,rfl,bt⟩;obtain⟨bb,aF,bc⟩:=bt;obtain⟨N,t1,a0,a8⟩:∃N t1,gV T w Q j aE (λc=>dU j p c) N t1/\(p≠0->t1=false):=by
  obtain⟨rfl,x,r⟩|⟨c,rfl,r⟩:=bc
  .exact⟨[],true,⟨r,λx=>by simp at x,λ_=>(b aC).yes rfl⟩,λa2=>absurd x a2⟩
  .exact⟨c,false,⟨r,λ_=>(b aC).yes rfl,λx=>by simp at x⟩,λ_=>rfl⟩
 have hand:bits .and K p 31=p % 32:=bits_mask K 63 (by decide) vQ 5 (by decide) p bb.1 (by omega);have bd:lj v (T.alloc (m #[F K (p % 32),.nilIface] 125)) w Q v.heap.size T.heap.size (p % 32):=by
  have bQ:=aF.size;have a2:=b aX;refine⟨X.new _ _ _,(aF.e (b aW) (by show ¬v.heap.size=w;omega)).alloc _,((((b aY).mono (S':=(· =w)) λ_ _ p=>p.elim).trans aF).alloc _),a7,a4,rfl,by omega⟩
 have o:=l bd;clear bd;have s:=l (a0.bC ((G.refl No T).alloc (m #[F K (p % 32),.nilIface] 125)));have O:=l a8;clear bc a0 aF aC aW aY aX a8;go_upto_region 5 with fail;have bs:T.heap.size+1<=(T.alloc (m #[F K (p % 32),.nilIface] 125)).heap.size:=by simp
 generalize T.alloc (m #[F K (p % 32),.nilIface] 125)=af at *;generalize T.heap.size=k at *;clear hand a7 a4;obtain⟨e,aK⟩:∃e,p % 32=e:=⟨_,rfl⟩;obtain⟨M,aL⟩:∃M,p / 32=M:=⟨_,rfl⟩;have bL:0<=M/\M<=7:=by omega
 have P:=l aL;have aa:=l aK;have O:=l (show 1<=M->t1=false from λaJ=>(b O) (by rintro rfl;omega));rw[aK] at o ⊢;rw[aL];clear aL aK bb;by_cases bw:M=1
 .subst bw;obtain rfl:=(b O) (by omega);have n:=l ((b s).cont (c':=λc=>ba (nL c) λi c=>E ((sX e i,j),c)) (by show dU j p N=_;unfold dU;rw[b P,b aa];rw[D rfl];try rfl));clear s;go_wp2_with fail;refine(DP (b n).rd).mono ?_;rintro x d ⟨i,rfl,ab,A⟩;obtain⟨av,t2,y, -⟩:=(b n).next A.2
  have I:=l y.fin;have z:=l ((b o).step A.1);unfold oV;clear A y n ab o;have a:=b z;have ah:d.cell? (u k 0 J)=E (F K e):=a.box.T 0;have W:d.cell? (u k 1 J)=E .nilIface:=a.box.T 1;have Y:=a.box.aC;have Z:=a.box.lt;have ai:d.cell? (u v.heap.size 0 J)=E (F K 0):=a.res.T 0;have aj:d.cell? (u v.heap.size 1 J)=E .nilIface:=a.res.T 1;have ak:=a.res.aC;have am:=a.res.lt
  have au:¬v.heap.size=k:=by have:=a.ord;omega
  have B:=l (a.fin (v:=.iface 189 (t #[F K i.rows,F K i.y,F K i.Z,F K i.af,F K i.ag,F K i.ai,F K i.aj])) rfl ((b I).td rfl rfl));clear a;go_wp2_with fail;obtain⟨d0,d1,r⟩:=b B;refine cN (by simp[results,results132,go_sem,d0,d1];try rfl) rfl ?_;exact⟨e,_,rfl,r⟩
 by_cases bx:M=2
 .subst bx;obtain rfl:=(b O) (by omega);have n:=l ((b s).cont (c':=λc=>ba (iu j c) λR c=>E ((uQ e R,j),c)) (by show dU j p N=_;unfold dU;rw[b P,b aa];rw[f (by decide)];rw[D rfl];try rfl));clear s;go_wp2_with fail;refine(DN (b n).rd).mono ?_;rintro x d ⟨R,rfl,fs,aO⟩;obtain⟨av,t2,y, -⟩:=(b n).next aO.2
  have I:=l y.fin;have z:=l ((b o).step aO.1);unfold eS;clear aO y n fs o;have a:=b z;have ah:d.cell? (u k 0 J)=E (F K e):=a.box.T 0;have W:d.cell? (u k 1 J)=E .nilIface:=a.box.T 1;have Y:=a.box.aC;have Z:=a.box.lt;have ai:d.cell? (u v.heap.size 0 J)=E (F K 0):=a.res.T 0;have aj:d.cell? (u v.heap.size 1 J)=E .nilIface:=a.res.T 1;have ak:=a.res.aC;have am:=a.res.lt
  have au:¬v.heap.size=k:=by have:=a.ord;omega
  have B:=l (a.fin (v:=.iface 202 (t #[F K R.row,F K R.ae,F K R.st,F K R.pa,F K R.cl,F K R.un])) rfl ((b I).td rfl rfl));clear a;go_wp2_with fail;obtain⟨d0,d1,r⟩:=b B;refine cN (by simp[results,results132,go_sem,d0,d1];try rfl) rfl ?_;exact⟨e,_,rfl,r⟩
 by_cases bz:M=3
 .subst bz;obtain rfl:=(b O) (by omega);have n:=l ((b s).cont (c':=λc=>ba (jY c) λi c=>E ((uR e i.1 i.2,j),c)) (by show dU j p N=_;unfold dU;rw[b P,b aa];rw[f (by decide)];rw[f (by decide)];rw[D rfl];try rfl));clear s;go_wp2_with fail;refine(wP (b n).rd).mono ?_;rintro x d ⟨c,H,rfl,ab,A⟩;obtain⟨av,t2,y, -⟩:=(b n).next A.2
  have I:=l y.fin;have z:=l ((b o).step A.1);clear A y n ab o;have a:=b z;have ah:d.cell? (u k 0 J)=E (F K e):=a.box.T 0;have W:d.cell? (u k 1 J)=E .nilIface:=a.box.T 1;have Y:=a.box.aC;have Z:=a.box.lt;have ai:d.cell? (u v.heap.size 0 J)=E (F K 0):=a.res.T 0;have aj:d.cell? (u v.heap.size 1 J)=E .nilIface:=a.res.T 1;have ak:=a.res.aC;have am:=a.res.lt
  have au:¬v.heap.size=k:=by have:=a.ord;omega
  have B:=l (a.fin (v:=.iface 214 (t #[F K c,F K H])) rfl ((b I).td rfl rfl));clear a;go_wp2_with fail;obtain⟨d0,d1,r⟩:=b B;refine cN (by simp[results,results132,go_sem,d0,d1];try rfl) rfl ?_;exact⟨e,_,rfl,r⟩
 by_cases bA:M=4
 .subst bA;obtain rfl:=(b O) (by omega);have n:=l ((b s).cont (c':=λc=>ba (jY c) λi c=>ba (jY c) λr c=>E ((uS e i.1 i.2 r.1 r.2,j),c)) (by show dU j p N=_;unfold dU;rw[b P,b aa];rw[f (by decide)];rw[f (by decide)];rw[f (by decide)];rw[D rfl];try rfl));clear s;go_wp2_with fail;refine(wP (b n).rd).mono ?_;rintro x d ⟨c,H,rfl,ab,A⟩;obtain⟨av,t2,y, -⟩:=(b n).next A.2
  have aQ:G No d (d.alloc (m #[F K c,F K H] 36)):=(G.refl _ _).alloc _;have aT:=l (y.bC aQ);have az:=l (((b o).step A.1).still aQ);have ay:=l (X.new d #[F K c,F K H] 36)
  have aZ:=l (show ¬d.heap.size=w/\¬d.heap.size=k from by
   have aJ:=(b o).ord
   have bo:=A.1.size
   have a3:=(b o).box.lt
   exact⟨by omega,by omega⟩)
  clear A y n ab o aQ;go_upto_region 13 with fail;generalize d.alloc (m #[F K c,F K H] 36)=ag at *;generalize d.heap.size=aB at *;have bT:ag.cell? (u aB 0 J)=E (F K c):=(b ay).T 0;have bV:ag.cell? (u aB 1 J)=E (F K H):=(b ay).T 1;have bY:=(b ay).lt;have W:ag.cell? (u k 1 J)=E .nilIface:=(b az).box.T 1;have Y:=(b az).box.aC;have Z:=(b az).box.lt;have bR:¬k=aB:=λx=>(b aZ).2 x.symm
  have aU:=l ((b aT).bC (G.refl No ag).drew);have bm:=l ((b az).still (G.refl No ag).drew);have bg:=l (b ay).drew;have bk:=l (show Calls h 140 #[g (E (u w 0 J))] ag.drew λx w'=>∃ax,x=q ax/\∃aw ao,ax=t #[F K aw,F K ao]/\eE ag.drew w' w Q (jY av) j t2 (λp=>p=(aw,ao)) from(wP (b aU).rd).mono (λx w' ⟨aw,ao,aJ,bo,a3⟩=>⟨_,aJ,aw,ao,rfl,a3⟩));clear aT az ay
  go_region_law (refine oT rfl 140 _ _ rfl #[g (E (u w 0 J))] (by simp[aM,bN]) (λaH=>by kernel_rfl) _ (b bk) ?_;intro b2 ae ar;obtain⟨aw,ao,rfl,ar⟩:=ar;obtain⟨bS,t4,a1, -⟩:=(b aU).next ar.2;have I:=l a1.fin;have z:=l ((b bm).step ar.1);have aD:=ar.1.e (b bg) (b aZ).1;have bU:ae.cell? (u aB 0 J)=E (F K c):=aD.T 0;have bX:ae.cell? (u aB 1 J)=E (F K H):=aD.T 1;have bZ:=aD.lt;have b4:ae.cell? (u k 1 J)=E .nilIface:=(b z).box.T 1;have b5:=(b z).box.aC;have b6:=(b z).box.lt;clear ar a1 aD)
  all_goals
   have a:=b z;have ah:ae.cell? (u k 0 J)=E (F K e):=a.box.T 0;have W:ae.cell? (u k 1 J)=E .nilIface:=a.box.T 1;have Y:=a.box.aC;have Z:=a.box.lt;have ai:ae.cell? (u v.heap.size 0 J)=E (F K 0):=a.res.T 0;have aj:ae.cell? (u v.heap.size 1 J)=E .nilIface:=a.res.T 1;have ak:=a.res.aC;have am:=a.res.lt;have au:¬v.heap.size=k:=by have:=a.ord;omega
   have B:=l (a.fin (v:=.iface 216 (t #[F K c,F K H,F K aw,F K ao])) rfl ((b I).td rfl rfl));clear a;go_wp2_with fail;obtain⟨d0,d1,r⟩:=b B;refine cN (by simp[results,results132,go_sem,d0,d1];try rfl) rfl ?_;exact⟨e,_,rfl,r⟩
 by_cases bB:M=5
 .subst bB;obtain rfl:=(b O) (by omega);have n:=l ((b s).cont (c':=λc=>ba (pX c) λi c=>E ((uT e i.1 i.2.1 i.2.2,j),c)) (by show dU j p N=_;unfold dU;rw[b P,b aa];rw[f (by decide)];rw[f (by decide)];rw[f (by decide)];rw[f (by decide)];rw[D rfl];try rfl));clear s;go_wp2_with fail;refine(DM (b n).rd).mono ?_;rintro x d ⟨c,H,bn,rfl,ab,A⟩;obtain⟨av,t2,y, -⟩:=(b n).next A.2
  have I:=l y.fin;have z:=l ((b o).step A.1);clear A y n ab o;have a:=b z;have ah:d.cell? (u k 0 J)=E (F K e):=a.box.T 0;have W:d.cell? (u k 1 J)=E .nilIface:=a.box.T 1;have Y:=a.box.aC;have Z:=a.box.lt;have ai:d.cell? (u v.heap.size 0 J)=E (F K 0):=a.res.T 0;have aj:d.cell? (u v.heap.size 1 J)=E .nilIface:=a.res.T 1;have ak:=a.res.aC;have am:=a.res.lt
  have au:¬v.heap.size=k:=by have:=a.ord;omega
  have B:=l (a.fin (v:=.iface 212 (t #[F K c,F K H,F K bn])) rfl ((b I).td rfl rfl));clear a;go_wp2_with fail;obtain⟨d0,d1,r⟩:=b B;refine cN (by simp[results,results132,go_sem,d0,d1];try rfl) rfl ?_;exact⟨e,_,rfl,r⟩
 by_cases bC:M=6
 .subst bC;obtain rfl:=(b O) (by omega);have n:=l ((b s).cont (c':=λc=>ba (cH c 0 0) λad c=>E ((qd e (wrap64 (j+ad)),wrap64 (j+ad)),c)) (by show dU j p N=_;unfold dU;rw[b P,b aa];rw[f (by decide)];rw[f (by decide)];rw[f (by decide)];rw[f (by decide)];rw[f (by decide)];rw[D rfl];try rfl));clear s;have bl:=l (λ(aH:U) (bq:G No af aH)=>Pe (b n) (b o) aH bq)
  have rn:af.cell? (u w 1 J)=E (F K j):=(b n).rd.Aa;have bf:=(b n).rd.rz;clear n;go_upto_region 18 with fail;go_cut [] from 66 to 74 (λbH=>Hid (∃ad,Fe v bH w Q k e j ad aE))
  case first=>
   go_region_with (go_at_call 131;refine((b bl) _ ?_).mono ?_;(first|exact G.refl _ _|exact(G.refl _ _).drew|exact(G.refl _ _).drewN _|exact((G.refl _ _).drewN _).drew);rintro x b3 ⟨bF,rfl,bM,⟨bI,bJ⟩,bp⟩)
   all_goals (go_wp2_with fail;go_meet;exact⟨bF,(b bp) _ (by rw[lF];unfold wrap64;rfl)⟩)
  case rest=>
   obtain⟨ad,aA⟩:=b hcut;have z:=l aA.Pd;have I:=l aA.qM;have b1:wc.cell? (u w 1 J)=E (F K (wrap64 (j+ad))):=aA.now;have b0:=aA.lt;clear hcut aA o rn bf;have a:=b z;have ah:wc.cell? (u k 0 J)=E (F K e):=a.box.T 0;have W:wc.cell? (u k 1 J)=E .nilIface:=a.box.T 1;have Y:=a.box.aC;have Z:=a.box.lt;have ai:wc.cell? (u v.heap.size 0 J)=E (F K 0):=a.res.T 0
   have aj:wc.cell? (u v.heap.size 1 J)=E .nilIface:=a.res.T 1;have ak:=a.res.aC;have am:=a.res.lt;have au:¬v.heap.size=k:=by have:=a.ord;omega
   have B:=l (a.fin (v:=.iface 159 (t #[F K (wrap64 (j+ad))])) rfl (b I));clear a;go_wp2_with fail;obtain⟨d0,d1,r⟩:=b B;refine cN (by simp[results,results132,go_sem,d0,d1];try rfl) rfl ?_;exact⟨e,_,rfl,r⟩
 by_cases bE:M=7
 .subst bE;obtain rfl:=(b O) (by omega);have n:=l ((b s).cont (c':=λc=>ba (pk j c) λp c=>E ((qe e p.1 p.2,j),c)) (by show dU j p N=_;unfold dU;rw[b P,b aa];rw[f (by decide)];rw[f (by decide)];rw[f (by decide)];rw[f (by decide)];rw[f (by decide)];rw[f (by decide)];rw[D rfl];try rfl));clear s;go_wp2_with fail;refine(Pb (b n).rd).mono ?_;rintro x d ⟨i,aS,ax,rfl,aN,a9,a5,a6⟩
  obtain⟨av,t2,y, -⟩:=(b n).next a6
  have I:=l y.fin;have z:=l ((b o).step a5);obtain⟨aI,H,rfl⟩:=aR aN;have bh:=l (show dV d (k+1) (.iface 196 (t (mM i (C aI aS.length H)).toArray)) (qe e i aS) from⟨aI,H,rfl,aN,λbu br=>cC bs (a9 bu br)⟩);clear a6 y n aN a9 a5 o;unfold mM oV at *;have a:=b z;have ah:d.cell? (u k 0 J)=E (F K e):=a.box.T 0;have W:d.cell? (u k 1 J)=E .nilIface:=a.box.T 1;have Y:=a.box.aC;have Z:=a.box.lt
  have ai:d.cell? (u v.heap.size 0 J)=E (F K 0):=a.res.T 0;have aj:d.cell? (u v.heap.size 1 J)=E .nilIface:=a.res.T 1;have ak:=a.res.aC;have am:=a.res.lt;have au:¬v.heap.size=k:=by have:=a.ord;omega
  have B:=l (a.fin (v:=.iface 196 (t #[F K i.rows,F K i.y,F K i.Z,F K i.af,F K i.ag,F K i.ai,F K i.aj,C aI aS.length H,F K i.ep])) rfl ((b I).td rfl (b bh)));clear a;go_wp2_with fail;obtain⟨d0,d1,r⟩:=b B;refine cN (by simp[results,results132,go_sem,d0,d1];try rfl) rfl ?_;exact⟨e,_,rfl,r⟩
 have bv:M=0:=by omega
 subst bv
 have bi:=l (show aE=J from by
  cases t1 with
  |true=>exact(b s).no rfl
  |false=>
   rw[(b s).yes rfl]
   show dU j p N=J
   unfold dU
   rw[b P]
   rfl)
 have rn:af.cell? (u w 2 J)=E (L t1):=(b s).rd.te;have bf:=(b s).rd.rz;have aG:=l (b s).rd.Ab;have a:=(b o).step (b aG).2;have ai:af.cell? (u v.heap.size 0 J)=E (F K 0):=(b o).res.T 0;have aj:af.cell? (u v.heap.size 1 J)=E .nilIface:=(b o).res.T 1;have ak:=(b o).res.aC;have am:=(b o).res.lt;have ah:af.cell? (u k 0 J)=E (F K e):=(b o).box.T 0;have W:af.cell? (u k 1 J)=E .nilIface:=(b o).box.T 1
 have Y:=(b o).box.aC;have Z:=(b o).box.lt;have bO:¬v.heap.size=w:=by have:=a.ord;omega
 have bP:¬k=w:=by have:=a.ord;omega
 have B:=l (a.Pc (T:=aE) (by rw[b bi];exact⟨N,j,(b aG).1⟩));clear a s o aG;go_wp2_with fail;obtain⟨d0,d1,r⟩:=b B;refine cN (by simp[results,results132,go_sem,d0,d1];try rfl) rfl ?_;exact⟨e,_,rfl,r⟩
def gz(x:Int×V):List V:=[F K x.1,x.2]
structure gW (w:U) (lo:Nat) (v:V) (L:List (Int×V)):Prop where
 row:w.ownsRow 0 125 2 v L.length (L.flatMap gz)
 own:∀j,v.ownBlock=E j->lo<=j
 one:∀x∈L,x.2.oneCell'=true
theorem gW.mod{w w':U}{S:Nat->Prop}(b:gW w Q i W)(d:G S w w')(e:∀a,Q<=a->¬S a):gW w' Q i W:=⟨d.owns b.row (λa c=>e a (b.own a c)),b.own,b.one⟩
theorem gW.low(a:gW v w i W)(c:Q<=w):gW v Q i W:=⟨a.row,λd b=>cC c (a.own d b),a.one⟩
def cV(c:U)(b:Nat):List (Int×V)->List aD->Prop
 |[],[]=>True
 |x::d,a::e=>(x.1=a.fl/\dV c b x.2 a)/\cV c b d e
 |[],_::_=>False
 |_::_,[]=>False
theorem cV.mod{w w':U}{S:Nat->Prop}(d:G S w w')(e:∀i,Q<=i->¬S i):∀ {b:List (Int×V)} {c:List aD},cV w Q b c->cV w' Q b c
 |[],[],_=>trivial
 |x::b,j::c,a=>⟨⟨a.1.1,a.1.2.mod d e⟩,cV.mod d e a.2⟩
 |[],_::_,a=>a.elim
 |_::_,[],a=>a.elim
theorem cV.low(d:Q<=w):∀ {b:List (Int×V)} {c:List aD},cV v w b c->cV v Q b c
 |[],[],_=>trivial
 |x::b,e::c,a=>⟨⟨a.1.1,a.1.2.low d⟩,cV.low d a.2⟩
 |[],_::_,a=>a.elim
 |_::_,[],a=>a.elim
theorem cV.append{L':List (Int×V)}{es':List aD}(d:cV v w L' es'):∀ {b:List (Int×V)} {c:List aD},cV v w b c->cV v w (b++L') (c++es')
 |[],[],_=>d
 |x::b,e::c,a=>⟨a.1,cV.append d a.2⟩
 |[],_::_,a=>a.elim
 |_::_,[],a=>a.elim
theorem cV.len:∀ {b:List (Int×V)} {c:List aD},cV v w b c->b.length=c.length
 |[],[],_=>rfl
 |x::b,d::c,a=>by simp[cV.len a.2]
 |[],_::_,a=>a.elim
 |_::_,[],a=>a.elim
theorem Pg{e i:Type}(a:Option (N×List Int))(b:N->List Int->Option (e×List Int))(c:e->List Int->Option (i×List Int)):ba (ba a b) c=ba a (λx d=>ba (b x d) c):=by
 obtain _|⟨x,d⟩:=a<;>rfl
def tg(x:List aD×Int)(a:List Int):Option ((List aD×Int)×List Int):=ba (uP a) λb a=>if b=229 then E (x,a) else J
theorem Ff(b:Int)(a:List Int):ix b a=ba (cH a 0 0) λc d=>ba (lX c.toNat b [] d) tg:=by
 unfold ix ry;rw[Pg];rfl
theorem Fg{x:aD×Int}(a:kg j S=E (x,o)):o.length<S.length:=by
 unfold kg at a
 cases S with
 |nil=>cases a
 |cons b S=>
  have a:dU j b S=E (x,o):=a;have:=(ET j b).le a;simp;omega
theorem Fh:∀(k:Nat) (i:Int) (e:List aD) (d:List Int) {x:List aD×Int} {j:List Int},lX k i e d=E (x,j)->x.1.length+j.length<=e.length+d.length
 |0,i,e,d,x,j,b=>by
  injection b with b;injection b with c n;subst c n;exact cz _
 |k+1,i,e,d,x,j,b=>by
  unfold lX at b;rcases c:kg i d with _|⟨p,o⟩
  .rw[c] at b;cases b
  .rw[c,iJ] at b;have a:=Fg c;have l:=Fh k _ _ _ b;simp at l;omega
theorem Fi{x:List aD×Int}(a:ix j S=E (x,o)):x.1.length+o.length+1<=S.length:=by
 rw[Ff] at a;rcases b:cH S 0 0 with _|⟨l,n⟩
 .rw[b] at a;cases a
 .rw[b,iJ] at a;have v:=uU b;rcases c:lX l.toNat j [] n with _|⟨s,p⟩
  .rw[c] at a;cases a
  .rw[c,iJ] at a;have d:=Fh _ _ _ _ c
   cases p with
   |nil=>cases a
   |cons e r=>
    have a:(if e=229 then E (s,r) else J)=E (x,o):=a;split at a
    .injection a with a;injection a with i k;subst i k;simp at d;omega
    .cases a
theorem Ac:(h.info? 125).map (λa=>(a.zero,a.size,a.bytes))=E (E (t #[F K 0,.nilIface]),2,24):=by kernel_rfl
theorem Fj(a:U)(x:Int×V):Reads (a.alloc (m #[F K x.1,x.2] 125)) (C (E (u a.heap.size 0 J)) 1 1) 1 (gz x):=
 .inr ⟨(u a.heap.size 0 J),1,rfl,λc d hu=>by
  have b:=X.new a #[F K x.1,x.2] 125
  rw[dE,bK,b.T,<-dy]
  exact hu⟩
theorem dV.app{w':U}{o:V}{a:aD}{B:List V}(c:dV v w i a)(A:v.ownsRow 0 125 2 o Q B)(z:G (λj=>o.ownBlock=E j) v w'):dV w' w i a:=by
 unfold dV at c ⊢;split
 .rename_i e;rw[D e] at c;obtain⟨p,r,s,n,x⟩:=c;refine⟨p,r,s,z.owns n (λR d a=>?_),x⟩;obtain⟨_,k|⟨O,H,M,k,_,y,_⟩⟩:=A
  .rw[k.1] at a;simp[aV] at a
  .obtain⟨_,l|⟨P,I,N,l,_,b,_⟩⟩:=n
   .rw[l.1] at d;simp[aV] at d
   .rw[k] at a;rw[l] at d;simp[aV] at a d;subst a;subst d;rw[y] at b;injection b with b;injection b with _ b _;exact absurd b (by decide)
 .rename_i e;rw[f e] at c;exact c
theorem cV.app{w':U}{k:List V}(e:v.ownsRow 0 125 2 i Q k)(d:G (λj=>i.ownBlock=E j) v w'):∀ {b:List (Int×V)} {c:List aD},cV v w b c->cV w' w b c
 |[],[],_=>trivial
 |x::b,l::c,a=>⟨⟨a.1.1,a.1.2.app e d⟩,cV.app e d a.2⟩
 |[],_::_,a=>a.elim
 |_::_,[],a=>a.elim
structure th (w wr:U) (rb gb:Nat) (v:V) (L:List (Int×V)) (acc:List aD) (N k:Nat) (l:List Int) (t:Bool) (now:Int) (T:Option ((List aD×Int)×List Int)):Prop where
 row:gW wr w.heap.size v L
 qh:t=false->cV wr w.heap.size L acc
 mod:G (· =rb) w wr
 at_:gV wr rb gb now T (λr=>ba (lX k now acc r) tg) l t
 len:L.length<=N+1/\(t=false->L.length+l.length<=N)
theorem th.next{wr e w6:U}{v':V}(ab:th v wr w Q i W R P (p+1) S false j n)(ak:w<v.heap.size/\Q<v.heap.size){f:Int}{u:V}(aj:xt wr e w Q (kg j S) f u)(A:Obj)(ai:w6.ownsRow 0 125 2 v' (W.length+1) ((W.flatMap gz)++gz (f,u)))(af:(e.alloc A).grownBy w6 i.ownBlock)(am:fm (e.alloc A) i v'):
  ∃aa ar t2 z,th v w6 w Q v' (W++[(f,u)]) aa P p ar t2 z n:=by
 obtain⟨aA,aB⟩:=ak;obtain⟨l,ad,H,I,ae⟩:=ab;obtain⟨ay,x,k⟩:=aj;have ao:=H.size;have s:G (λb=>i.ownBlock=E b) e w6:=((G.refl _ e).alloc A).grown af (λb c=>.inl c);have r:∀b,i.ownBlock=E b->v.heap.size<=b/\b<wr.heap.size:=λb c=>⟨l.own b c,(l.row.lt b c).2⟩;have ah:∀b,v'.ownBlock=E b->v.heap.size<=b:=λb c=>by
  obtain d|d:=am b c
  .exact l.own b d
  .have:=x.size;rw[bW] at d;omega
 have T:gW w6 v.heap.size v' (W++[(f,u)]):=by
  refine⟨?_,ah,λaz ap=>?_⟩
  .have a:(W++[(f,u)]).flatMap gz=W.flatMap gz++gz (f,u):=by rw[jW];simp
   rw[a,bG];exact ai
  .obtain d|d:=jR.1 ap
   .exact l.one az d
   .simp at d;subst d;exact ay
 have M:G (· =w) v w6:=(H.trans x).trans' s (λb c aC=>by have:=(r b c).1;omega);have O:¬(i.ownBlock=E w):=λa=>by have:=(r w a).1;omega
 have N:¬(i.ownBlock=E Q):=λa=>by have:=(r Q a).1;omega
 have aE:=ae.2 rfl;rcases o:kg j S with _|⟨⟨a,z⟩,B⟩
 .rw[o] at k;obtain⟨B,au,k⟩:=k;refine⟨R,B,true,au,T,λa=>by simp at a,M,⟨k.mod s O N,λa=>by simp at a,λ_=>?_⟩,by simp;omega,λa=>by simp at a⟩;rw[I.yes rfl];show ba (ba (kg j S) _) tg=J;rw[o];rfl
 .rw[o] at k;obtain⟨av,aw,ax⟩:=k;have aF:=Fg o;refine⟨R++[a],B,false,z,T,λ_=>?_,M,⟨ax.mod s O N,λ_=>?_,λa=>by simp at a⟩,by simp;omega,λ_=>by simp;omega⟩
  .have ag:G (· =w) wr e:=x;have X:cV e v.heap.size W R:=(ad rfl).mod ag (λp y a=>by omega);have Y:dV w6 wr.heap.size u a:=aw.mod s (λp y a=>by have:=(r p a).2;omega);have Z:cV w6 v.heap.size W R:=cV.app (x.owns l.row (λp y a=>by have:=(r p y).1;omega)) s X;exact cV.append (L':=[(f,u)]) (es':=[a]) ⟨⟨av,Y.low ao⟩,trivial⟩ Z
  .rw[I.yes rfl];show ba (ba (kg j S) _) tg=_;rw[o];rfl
def Ad(k w':U)(d c:Nat)(i:Option ((List aD×Int)×List Int))(e:List (Int×V)):Prop:=match i with
 |some ((j,a),b)=>cd w' d c b a false/\cV w' k.heap.size e j
 |none=>∃b a,cd w' d c b a true
theorem Ph{wr a:U}{x:Int}(d:th v wr w Q i W R P p S B j n)(l:B=false->p=0)(M:w<v.heap.size)(k:ua wr a w Q S j B x):(x=229->gW a v.heap.size i W/\G (· =w) v a/\Ad v a w Q n W)/\(x≠229->gW (a.setCell (u w 2 J) (L true)) v.heap.size i W/\G (· =w) v (a.setCell (u w 2 J) (L true))/\Ad v (a.setCell (u w 2 J) (L true)) w Q n W):=by
 obtain⟨N,o,k⟩:=k;have y:gW a v.heap.size i W:=d.row.mod o (λp l c=>by omega);have s:B=false->n=tg (R,j) S:=λc=>by
  rw[d.at_.yes c,l c];rfl
 constructor
 .intro r;refine⟨y,d.mod.trans o,?_⟩;obtain⟨_,c,_⟩|⟨b,rfl,e⟩:=k
  .omega
  .cases B with
   |false=>
    rw[s rfl,r];exact⟨e,(d.qh rfl).mod o (λp l c=>by omega)⟩
   |true=>rw[d.at_.no rfl];exact⟨b,j,e⟩
 .intro r;have H:∃b,cd (a.setCell (u w 2 J) (L true)) w Q b j true/\G (· =w) a (a.setCell (u w 2 J) (L true)):=by
   obtain⟨_,c,e⟩|⟨b,rfl,e⟩:=k
   .exact⟨_,e.Ab⟩
   .exact⟨b,e.Ab⟩
  obtain⟨b,I,z⟩:=H;refine⟨y.mod z (λp l c=>by omega),(d.mod.trans o).trans z,?_⟩;have A:n=J:=by
   cases B with
   |true=>exact d.at_.no rfl
   |false=>
    rw[s rfl];obtain⟨rfl,_,_⟩|⟨b,rfl,_⟩:=k
    .rfl
    .show(if x=229 then E ((R,j),b) else J)=J;rw[f r]
  rw[A];exact⟨b,j,I⟩
theorem Pj(x:cd v w Q S j false):Calls h 117 #[g (E (u w 0 J))] v λe w'=>∃r a,e=q r/\gW w' v.heap.size r a/\G (· =w) v w'/\Ad v w' w Q (ix j S) a:=by
 have aI:=x.nJ;have aC:=x.lt;have a3:=x.len;have O:=l ((x.start (ix j)).cont (c':=λM=>ba (cH M 0 0) λk M=>ba (lX k.toNat j [] M) tg) (Ff j S));clear x;generalize ix j S=ab at *;go_enter func117,ntmps117;go_wp2_with fail;refine(lP (b O).rd).mono ?_;rintro e aU ⟨k,rfl,fn,W⟩;obtain⟨aN,t1,ae,ah⟩:=(b O).next W.2
 have B:th v aU w Q (C J 0 0) [] [] S.length k.toNat aN t1 j ab:=
  ⟨⟨dx _ _ _ _,λa7 aE=>by simp[aV] at aE,λn I=>by simp at I⟩,λ_=>trivial,W.1,ae,by simp,λe=>by have:=uU (ah e).1;simp;omega⟩
 have B:=l B;have P:=l (show w<v.heap.size/\Q<v.heap.size from⟨aI,aC⟩);clear W ae ah O;go_wp2_with fail;go_loopw [3,4] (λX aT wr=>∃(k:Int) (r:V) (a:List (Int×V)) (af:List aD) (am:List Int) (o:Bool) (ao:Int),X=r/\aT=F K k/\k<=9223372036854775807/\Hid (th v wr w Q r a af S.length k.toNat am o ao ab)) (λ_ X _=>(intOf X).toNat)
 case atStart=>exact⟨k,_,_,_,_,_,_,rfl,rfl,fn.2,B⟩
 case round=>
  obtain⟨c,r,a,af,am,o,ao,rfl,rfl,a4,d⟩:=hrel;clear B;have a0:wr.cell? (u w 2 J)=E (L o):=(b d).at_.rd.te;have aZ:=(b d).at_.rd.rz;by_cases H:0<c/\o=false
  .obtain⟨aG,rfl⟩:=H;have a2:c>0:=aG;obtain⟨i,aF⟩:∃i,c.toNat=i+1:=⟨c.toNat - 1,by omega⟩;rw[aF] at d;have a6:K.wrap (c - 1)=c - 1:=by rw[lF];omega
   obtain⟨ad,ag,rfl⟩:=aR (b d).row.row;have a1:a.length<=1099511627776:=by have:=(b d).len.2 rfl;omega
   obtain⟨aL,aS,ap,ar,au⟩:=fq Ac;go_wp2_with fail;refine(Pf (b d).at_.rd).mono ?_;rintro e p ⟨s,A,rfl,N⟩;have aj:∀i,(C ad a.length ag).ownBlock=E i->¬i=w:=λi e aY=>by have:=(b d).row.own i e;have:=(b P).1;omega
   have aw:=l (((G.refl No p).alloc (m #[F K s,A] 125)).owns (N.2.1.owns (b d).row.row aj) (λ_ _ n=>n));have ax:=l N;have ai:=N.1
   have Z:=l (λn (I:n∈gz (s,A))=>(show n.oneCell'=true from by
    simp[gz] at I
    obtain rfl|rfl:=I
    .rfl
    .exact ai))
   have aa:=l (Fj p (s,A));unfold gz at aa Z;clear N aj ai
   go_wp2_with (at_builtin;refine fJ rfl (.tmp 18) (.tmp 21) 111 rfl 125 aL _ 2 24 underlying111 aS ap ar au rfl (by decide) (C ad a.length ag) a.length _ (by simp[aM]) (by exact b aw) (C (E (u p.heap.size 0 J)) 1 1) 1 [F K s,A] (by simp[aM]) (by exact b aa) rfl (b Z) (by unfold maxLen;omega) (by omega) ?_;intro a8 a9 ak aB aJ;obtain⟨aW,aX,rfl⟩:=aR ak)
   obtain⟨ay,aO,t9,aP,aK⟩:=(b d).next (b P) (b ax) _ ak aB aJ
   refine⟨⟨c - 1,_,a++[(s,A)],ay,aO,t9,aP,rfl,rfl,by omega,l ?_⟩,by simp[intOf];omega⟩;rw[show(c - 1).toNat=i by omega];exact aK
  .have av:=l (show o=false->c.toNat=0 from λe=>by
    have:=H
    rw[e] at this
    simp at this
    omega)
   have aA:¬c>0\/(c>0/\o=true):=by
    by_cases y:c>0
    .refine .inr ⟨y,?_⟩
     cases o with
     |true=>rfl
     |false=>exact absurd ⟨y,rfl⟩ H
    .exact .inl y
   clear H;obtain y|⟨y,rfl⟩:=aA
   all_goals
    go_wp2_with fail;refine(yy (b d).at_.rd).mono ?_;rintro e p ⟨n,rfl,T⟩;have Y:=l (Ph (b d) (b av) (b P).1 T);have aH:(∃az,p.cell? (u w 2 J)=E (L az))/\(∀aQ,p.frozen? (u w aQ J)=false)/\w<p.heap.size:=by
     obtain⟨_,_,z⟩|⟨M,_,z⟩:=T.2.2
     .exact⟨⟨_,z.te⟩,z.rz⟩
     .exact⟨⟨_,z.te⟩,z.rz⟩
    obtain⟨⟨tb,ap⟩,ar,au⟩:=aH;clear T;by_cases R:n=229
    .subst R;go_wp2_with fail;go_ret;exact⟨_,a,rfl,(b Y).1 (by trivial)⟩
    .have a5:(n !=229)=true:=by simpa using R
     go_wp2_with fail;go_ret;exact⟨_,a,rfl,(b Y).2 R⟩
structure po (w wr:U) (rb gb:Nat) (v:V) (L:List (Int×V)) (acc:List aD) (N:Nat) (l:List Int) (now:Int) (T:List aD×Bool):Prop where
 row:gW wr (rb+1) v L
 qh:cV wr (rb+1) L acc
 mod:G No w wr
 rd:cd wr rb gb l now false
 ge:rb=w.heap.size/\gb<w.heap.size
 eq:T=(acc++(jK l.length now l).1,(jK l.length now l).2)
 len:L.length+l.length<=N
theorem po.next{wr c w6:U}{v':V}{e:List (Int×V)}{H:List aD×Bool}(X:po v wr w Q i W R P S j H){ak:V}(ai:gW c wr.heap.size ak e)(s:G (· =w) wr c){r:List aD}(z:ix j S=E ((r,k),o))(B:cd c w Q o k false)(M:cV c wr.heap.size e r)(ah:w6.ownsRow 0 125 2 v' (W.length+e.length) ((W.flatMap gz)++e.flatMap gz))(ad:c.grownBy w6 i.ownBlock)(aj:fm c i v'):
  po v w6 w Q v' (W++e) (R++r) P o k H:=by
 obtain⟨n,Y,I,Z,aa,ab,am⟩:=X;have au:=I.size;have ap:=Z.nJ;have y:G (λa=>i.ownBlock=E a) c w6:=(G.refl _ c).grown ad (λa b=>.inl b);have p:∀a,i.ownBlock=E a->w+1<=a/\a<wr.heap.size:=λa b=>⟨n.own a b,(n.row.lt a b).2⟩;have ag:∀a,v'.ownBlock=E a->w+1<=a:=λa b=>by
  obtain l|l:=aj a b
  .exact n.own a l
  .have:=s.size;omega
 have ao:e.length=r.length:=M.len;have ae:=Fi z;have ar:=zZ z;refine⟨⟨?_,ag,λN B=>?_⟩,?_,(I.trans' s (λa b af=>by omega)).trans' y (λa b af=>by have:=(p a b).1;omega),B.mod y (λd=>by have:=(p w d).1;omega) (λd=>by have:=(p Q d).1;omega),aa,?_,?_⟩
 .rw[jW,bG];exact ah
 .obtain l|l:=jR.1 B
  .exact n.one N l
  .exact ai.one N l
 .have O:cV c (w+1) W R:=Y.mod s (λx A d=>by omega);have T:cV w6 (w+1) W R:=cV.app (s.owns n.row (λx A d=>by have:=(p x A).1;omega)) y O;exact cV.append ((M.mod y (λx A d=>by have:=(p x d).2;omega)).low (by omega)) T
 .obtain⟨a,b⟩:∃a,S.length=a+1:=⟨S.length - 1,by omega⟩;rw[ab,b,sY,f (by rintro rfl;simp at b),z];simp only;rw[E' a o.length k o (by omega) (cz _)];simp
 .simp;simp at ae;omega
def Ae(a w':U)(d:V)(b:List (Int×V))(c:List aD):Prop:=gW w' a.heap.size d b/\cV w' a.heap.size b c/\G No a w'
theorem po.stop{wr o:U}{b:List aD×Bool}(a:po v wr w Q i W R P S j b)(s:0<S.length)(c:G (· =w) wr o)(r:ix j S=J):b.2=false/\Ae v o i W b.1:=by
 have x:=a.ge;obtain⟨l,e⟩:∃l,S.length=l+1:=⟨S.length - 1,by omega⟩;have d:=a.eq;rw[e,sY,f (by rintro rfl;simp at e),r] at d;simp only[dG] at d;rw[d];exact⟨rfl,(a.row.mod c (λn k p=>by omega)).low (by omega),(a.qh.mod c (λn k p=>by omega)).low (by omega),a.mod.trans' c (λn k s=>by omega)⟩
theorem po.done{wr:U}{b:List aD×Bool}(a:po v wr w Q i W R P S j b)(d:S.length=0):b.2=true/\Ae v wr i W b.1:=by
 have e:=a.ge;obtain rfl:=iC d;have c:=a.eq;rw[sZ] at c;simp only[dG] at c;rw[c];exact⟨rfl,a.row.low (by omega),a.qh.low (by omega),a.mod⟩
theorem Pk{a:Option Addr}(Q:v.ownsRow 0 5 1 (C a S.length w) S.length (dt S))(aT:S.length<=1099511627776)(ae:∀x∈S,0<=x/\x<256)(a1:0<v.heap.size):Calls h 94 #[C a S.length w] v λB w'=>∃a' c' d,B=q (aq #[C a' d.length c',L (lY S).2])/\Ae v w' (C a' d.length c') d (lY S).1:=by
 have T:G No v (v.alloc (m #[C a S.length w,F K 0,L false] 208)):=(G.refl _ _).alloc _;have o:∃i,po v (v.alloc (m #[C a S.length w,F K 0,L false] 208)) v.heap.size i (C J 0 0) [] [] S.length S 0 (lY S):=by
  obtain⟨i,aP,aj⟩:∃i,i<v.heap.size/\(S.length<=w/\∀(r:Nat) (x:Int),S[r]? =E x->∃am,a=E (u i am J)/\(v.alloc (m #[C a S.length w,F K 0,L false] 208)).cell? ⟨i,am+r,J⟩=E (.int .u8 x)):=by
   have af:=Q;obtain⟨_,⟨bg,aL⟩|⟨P,bb,bc,a0,_,bi,aW,_⟩⟩:=Q
   .refine⟨0,a1,by omega,λr x n=>?_⟩;obtain rfl:=iC aL;simp at n
   .injection a0 with aJ N O;subst aJ O;refine⟨P,(af.lt P rfl).2,aW,λr x n=>⟨0,rfl,?_⟩⟩;have:=af.cells (g:=P) rfl r (.int .u8 x) (by unfold dt;rw[qC,n];rfl);rw[dE] at this;exact tZ T this (λx=>x)
  refine⟨i,⟨dx _ _ _ _,λr aS=>by simp[aV] at aS,λx n=>by simp at n⟩,trivial,T,⟨⟨a,w,X.new _ _ _,aj.1,aj.2⟩,by omega,by simp;omega,by omega,aT,ae⟩,⟨rfl,aP⟩,by unfold lY;simp,by simp⟩
 obtain⟨i,o⟩:=o;have o:=l o;clear Q T ae;generalize lY S=aE at *;go_enter func94,ntmps94;go_wp2_with fail;go_loopw [2] (λa8 wr=>∃(Z:V) (d:List (Int×V)) (M:List aD) (j:List Int) (W:Int),a8=Z/\Hid (po v wr v.heap.size i Z d M S.length j W aE)) (λ_ wr=>oP wr v.heap.size)
 case atStart=>exact⟨_,_,_,_,_,rfl,o⟩
 case round=>
  obtain⟨Z,d,M,j,W,rfl,c⟩:=hrel;clear o;obtain⟨aG,aI,R,aY, -⟩:=(b c).rd.e;have bd:wr.cell? (u v.heap.size 0 J)=E (C aG j.length aI):=R.T 0;have bf:=R.lt;have bk:j.length<=1099511627776:=by have:=(b c).len;omega
  have av:=l (b c).rd.oP;clear R aY;by_cases aX:0<j.length
  .have aQ:(j.length:Int)>0:=by omega
   go_wp2_with fail;refine(Pj (b c).rd).mono ?_;rintro B ar ⟨bm,p,rfl,s,A,e⟩;obtain⟨y,z,rfl⟩:=aR (b c).row.row;rcases k:ix W j with _|⟨⟨ad,a3⟩,ao⟩
   .rw[k] at e;obtain⟨ao,bl,e⟩:=e;have N:ar.cell? (u v.heap.size 2 J)=E (L true):=e.te;have O:=e.nJ;have I:=l ((b c).stop aX A k);clear c e A s k;go_wp2_with fail;go_ret2;obtain⟨f1,f2⟩:=b I;exact⟨y,z,d,(by rw[f1];rfl),f2⟩
   .rw[k] at e;obtain⟨e,Y⟩:=e;have N:ar.cell? (u v.heap.size 2 J)=E (L false):=e.te;have O:=e.nJ;obtain⟨aF,aH,rfl⟩:=aR s.row;have aN:=(b c).len;have ak:=zZ k;have ag:=Fi k;have aU:p.length=ad.length:=Y.len;have ah:∀H,(C y d.length z).ownBlock=E H->¬H=v.heap.size:=λH B N=>by have:=(b c).row.own H B;omega
    have az:=l (A.owns (b c).row.row ah);have aC:=l (pB s.row)
    have au:=l (show ∀ap∈p.flatMap gz,ap.oneCell'=true from λap hu=>by
     obtain⟨x,n,hu⟩:=List.mem_flatMap.1 hu
     simp[gz] at hu
     obtain rfl|rfl:=hu
     .rfl
     .exact s.one x n)
    obtain⟨a2,a4,a5,a6,a7⟩:=fq Ac;have ab:=l s;have ay:=l A;have aw:=l k;have aA:=l e;have aB:=l Y;have bh:d.length+p.length<=1099511627776:=by simp at ag;omega
    have ax:=l ak;clear ah s A k e Y aN ag aU ak;go_wp2_with (at_builtin;refine fJ rfl (.tmp 16) (.tmp 17) 111 rfl 125 a2 _ 2 24 underlying111 a4 a5 a6 a7 rfl (by decide) (C y d.length z) d.length _ (by simp[aM]) (by exact b az) (C aF p.length aH) p.length _ (by simp[aM]) (by exact b aC) (b ab).row.1 (b au) (by unfold maxLen;omega) (by omega) ?_;intro bn bo ai aO aZ;obtain⟨a9,ba,rfl⟩:=aR ai)
    have aa:=(b c).next (b ab) (b ay) (b aw) (b aA) (b aB) ai aO aZ
    refine⟨⟨_,d++p,M++ad,ao,a3,rfl,l aa⟩,?_⟩;rw[aa.rd.oP,b av];exact b ax
  .have aK:j.length=0:=by omega
   have aQ:¬(j.length:Int)>0:=by omega
   obtain⟨y,z,rfl⟩:=aR (b c).row.row;have I:=l ((b c).done aK);clear c;go_wp2_with fail;go_ret2;obtain⟨f1,f2⟩:=b I;exact⟨y,z,d,(by rw[f1];rfl),f2⟩
end Go.Proofs.YthhibagcpjeihaaGreat
