import Derived.Test.YthhibagcpjeihaaGreatWd
import Derived.Test.YthhibagcpjeihaaGreatW8
import Derived.Test.YthhibagcpjeihaaGreatWa
import Derived.ChangeSlices
open Go.Proofs.Tryz
open Go.Addr renaming mk->u,add_mid->dE
open Go.Value renaming int->F,pointer->g,slice->C,agg->t,ownBlock->aV
open Go.IntKind renaming i64->K
open Option renaming none->J,some->E
open Go renaming World->U,Value->V
open Go.Proofs.Tryz renaming prog->h
open Go.Ending renaming returned->q
open Go.Obj renaming cells->m
open Go.Instr renaming lookup->ji
set_option linter.unusedVariables false
set_option linter.unusedSimpArgs false
set_option maxRecDepth 100000
set_option maxHeartbeats 8000000
namespace Go.Proofs.YthhibagcpjeihaaGreat
open Go.RowKit
open M
def nX(a:aK)(b:Int)(x:aB):aB:=
 ⟨⟨x.f.num,x.f.c,dT x.f.c x.f.Y a b,if bH x.f.c x.f.Y a b=0 then K.wrap (x.f.ep+1) else x.f.ep⟩,x.g,x.cap⟩
theorem OD(p:O)(b:List z)(a:aK)(c:a.kind≠9)(d:Int):(dT p b a d).length=b.length:=by
 unfold dT eD;rw[f c]
 repeat' split
 all_goals simp
theorem OE{p:O}{d:List z}(c:aJ p d)(b:aK)(i:b.kind≠9)(a:Int)(j:0<=a/\a<=4611686018427387000):aJ p (dT p d b a):=by
 unfold dT;split
 .rename_i e;exact zm c j e i
 .exact c
variable {Q P:Nat} {S:List aB} {p:Nat->Option (O×List z)} {o:V} {j:List V}
theorem OH{w:U}{y:Nat->Nat}{gf:Nat}{i:Int}(A:bB w y Q (C (E (u gf 0 J)) S.length P) S i)(d e j ac p o n k time:Int)(c:O)(ap:2<=d/\d<=7)(aK:1<=e/\e<=20)(aN: -9223372036854775808<=time/\time<=9223372036854775807)(ar:0<=i/\i<=4611686018427387000)(a:Nat)(hi:a<S.length)(ao:dF S e=a):
  Calls h 27 #[g (E (u Q 0 J)),t #[F K d,F K e,F K j,F K ac,F K p,F K o,F K n,F K k,F K time,F K c.rows,F K c.y,F K c.Z,F K c.af,F K c.ag,F K c.ai,F K c.aj]] w λs w'=>s=q (F K (bH S[a].f.c S[a].f.Y ⟨d,e,j,ac,p,o,n,k,time,c⟩ i))/\bB w' y Q (C (E (u gf 0 J)) S.length P) (S.set a (nX ⟨d,e,j,ac,p,o,n,k,time,c⟩ i S[a])) i/\G (λv=>y v≠0) w w':=by
 have aA:=l λr (x:G No w r)=>(show Calls h 52 #[g (E (u Q 0 J)),F K e] r λs w'=>s=q (F K (a:Nat))/\w'=r from by
  have:=(A.mod x (λ_ _ z=>z)).find e
  rw[ao] at this
  exact this)
 obtain⟨af,ag⟩:=A.parts rfl (by omega);obtain⟨aR,os,wf⟩:=A.Y a hi
 have aC:=l λr (x:G No w r)=>(show Calls h 55 #[g (E (u Q 0 J)),g (E ⟨gf,a* 10,J⟩),t #[F K d,F K e,F K j,F K ac,F K p,F K o,F K n,F K k,F K time,F K c.rows,F K c.y,F K c.Z,F K c.af,F K c.ag,F K c.ai,F K c.aj]] r λs w'=>
   s=q (F K (bH S[a].f.c S[a].f.Y ⟨d,e,j,ac,p,o,n,k,time,c⟩ i))/\cw r w' gf (a* 10) S[a].g S[a].cap S[a].f.c S[a].f.Y (dT S[a].f.c S[a].f.Y ⟨d,e,j,ac,p,o,n,k,time,c⟩ i) from
  NQ ((A.mod x (λ_ _ z=>z)).fl a hi) wf ⟨d,e,j,ac,p,o,n,k,time,c⟩ ap aN i ar ((A.mod x (λ_ _ z=>z)).e.T 1))
 have aG:=l (OD S[a].f.c S[a].f.Y ⟨d,e,j,ac,p,o,n,k,time,c⟩ (by simp only;omega) i);have aH:=l (OE wf ⟨d,e,j,ac,p,o,n,k,time,c⟩ (by simp only;omega) i ar);have au:nX ⟨d,e,j,ac,p,o,n,k,time,c⟩ i S[a]=⟨⟨S[a].f.num,S[a].f.c,dT S[a].f.c S[a].f.Y ⟨d,e,j,ac,p,o,n,k,time,c⟩ i,if bH S[a].f.c S[a].f.Y ⟨d,e,j,ac,p,o,n,k,time,c⟩ i=0 then K.wrap (S[a].f.ep+1) else S[a].f.ep⟩,S[a].g,S[a].cap⟩:=rfl
 generalize aL:nX ⟨d,e,j,ac,p,o,n,k,time,c⟩ i S[a]=ax at *;generalize bH S[a].f.c S[a].f.Y ⟨d,e,j,ac,p,o,n,k,time,c⟩ i=ak at *;generalize dT S[a].f.c S[a].f.Y ⟨d,e,j,ac,p,o,n,k,time,c⟩ i=ae at *;have ai:=l au;have H:=l A;have aa:¬gf=S[a].g:=λs=>by rw[s,os] at af;omega
 have aj:w.cell? ⟨gf,a* 10+9,J⟩=E (F K S[a].f.ep):=ag.T a hi 9 (by omega);have ay:=l λr (x:G (λv=>v=S[a].g) w r)=>fZ x aj aa;have az:=l λr (x:G (λv=>v=S[a].g) w r)=>(ag.mod x aa);have aE:=l af;have aF:=l os;have aI:=l λr (x:G No w r)=>(show r.cell? (u Q 0 J)=E (C (E (u gf 0 J)) S.length P) from fZ x (A.e.T 0) (λz=>z))
 have N:=l ((G.refl No w).alloc (m #[F K d,F K e,F K j,F K ac,F K p,F K o,F K n,F K k,F K time,F K c.rows,F K c.y,F K c.Z,F K c.af,F K c.ag,F K c.ai,F K c.aj] 41));have ah:=l (X.new w #[F K d,F K e,F K j,F K ac,F K p,F K o,F K n,F K k,F K time,F K c.rows,F K c.y,F K c.Z,F K c.af,F K c.ag,F K c.ai,F K c.aj] 41);have a0:¬d<1:=by omega
 have a1:¬d>9:=by omega
 have a2:(d==8)=false:=by simp;omega
 have a3:(d==1)=false:=by simp;omega
 have a4:(d==9)=false:=by simp;omega
 have f1:¬e<1:=by omega
 have f2:¬e>20:=by omega
 have aX:¬(a:Int)<0:=by omega
 have aY:(a:Int)<(S.length:Int):=by omega
 have aZ:(0:Int)<=a:=by omega
 have a5:¬d=8:=by omega
 have a6:¬d=1:=by omega
 have a7:¬d=9:=by omega
 clear A au aL ao ag aR os wf af aj aa aK ap;go_enter func27,ntmps27;go_wp2_with fail;refine((b aA) _ (b N)).mono ?_;rintro s a9 ⟨rfl,rfl⟩;have aS:=(b aI) _ (b N);have aJ:=(b ah).T;have a8:=(b ah).lt;go_wp2_with fail;refine((b aC) _ (b N)).mono ?_;rintro s B ⟨rfl,aw,av⟩;have M:G (λv=>v=S[a].g) w B:=((b N).mono (λ_ _ z=>z.elim)).trans av;have aU:=(b ay) _ M
 have aW:∀aO,B.frozen? (u gf aO J)=false:=by
  obtain⟨aT,aQ,_⟩:=((b az) _ M).cur;exact aQ.aC
 have R:=l ((b H).D8 a hi ae (b aG) (b aH) aw M);have W:=l (show G (λv=>y v≠0) w B from M.mono (λv _ (s:v=S[a].g)=>by show y v≠0;rw[s,b aF];omega));clear aw av M aJ aS;by_cases I:ak=0
 .have ad:(S.set a ⟨⟨S[a].f.num,S[a].f.c,ae,S[a].f.ep⟩,S[a].g,S[a].cap⟩).length=S.length:=by rw[kH]
  have Y:bB (B.setCell ⟨gf,a* 10+9,J⟩ (F K (K.wrap (S[a].f.ep+1)))) y Q (C (E (u gf 0 J)) S.length P) (S.set a ax) i:=by
   have am:=b R;have s:(C (E (u gf 0 J)) S.length P)=C (E (u gf 0 J)) (S.set a ⟨⟨S[a].f.num,S[a].f.c,ae,S[a].f.ep⟩,S[a].g,S[a].cap⟩).length P:=by rw[ad]
   rw[s] at am;have ab:=am.zC a (by rw[ad];exact hi) (K.wrap (S[a].f.ep+1));rw[<-s] at ab;simp only[ph,uL] at ab;rw[b ai,D I];exact ab
  have aP:y gf≠0:=by rw[b aE];omega
  have T:G (λv=>y v≠0) w (B.setCell ⟨gf,a* 10+9,J⟩ (F K (K.wrap (S[a].f.ep+1)))):=(b W).setCell (p:=⟨gf,a* 10+9,J⟩) (.inl aP) _;rw[show K.wrap (S[a].f.ep+1)=wrap64 (S[a].f.ep+1) from(by unfold wrap64;exact lF _)] at Y T;have Z:=l Y;have aD:=l T;clear Y T R W ad;subst I;go_wp2;go_ret;exact⟨rfl,b Z,b aD⟩
 .have hd:(ak==0)=false:=by simpa using I
  have Z:=l (show bB B y Q (C (E (u gf 0 J)) S.length P) (S.set a ax) i from by rw[b ai,f I];exact b R);clear R I;go_wp2;go_ret;exact⟨rfl,b Z,b W⟩
def fh(c:List aB):Nat->Option (O×List z):=λb=>(c.find? (λa=>a.f.num==(b:Int))).map λa=>(a.f.c.at a.f.ep,a.f.Y)
theorem OI(a:Int)(x:aB):((iI a x).f.c.at (iI a x).f.ep,(iI a x).f.Y)=jV a (x.f.c.at x.f.ep,x.f.Y):=by
 unfold jV iI nz oJ;simp only
 cases x.f.Y.any (due a)<;>rfl
theorem OJ(a:List aB)(c:Int)(b:Nat):fh (a.map (iI c)) b=(fh a b).map (jV c):=by
 unfold fh
 induction a with
 |nil=>rfl
 |cons d a i=>
  simp only[oC,mi];have e:(iI c d).f.num=d.f.num:=rfl;rw[e]
  cases j:(d.f.num==(b:Int)) with
  |true=>
   simp only[uN];rw[OI]
  |false=>exact i
theorem xk(b:List aB)(c:Int):dF b c= -1\/∃a,∃hi:a<b.length,dF b c=a/\b[a].f.num=c:=by
 unfold dF
 cases d:b.findIdx? (λi=>i.f.num==c) with
 |none=>exact .inl rfl
 |some a=>
  obtain⟨hi,e,_⟩:=jC.1 d;exact .inr ⟨a,hi,rfl,by simpa using e⟩
theorem zR(e:List aB)(c:Nat)(a:dF e c= -1):fh e c=J:=by
 unfold dF at a
 cases b:e.findIdx? (λd=>d.f.num==(c:Int)) with
 |none=>
  rw[nd] at b;unfold fh;rw[List.find?_eq_none.2 (λd i=>by have:=b d i;simpa using this)];rfl
 |some j=>rw[b] at a;simp only at a;omega
theorem Ey(a:List aB)(d b:Nat)(hi:b<a.length)(c:dF a d=b):fh a d=E (a[b].f.c.at a[b].f.ep,a[b].f.Y):=by
 unfold dF at c
 cases e:a.findIdx? (λj=>j.f.num==(d:Int)) with
 |none=>rw[e] at c;simp only at c;omega
 |some i=>
  rw[e] at c;have k:i=b:=by simp only at c;omega
  subst k;obtain⟨_,l,n⟩:=jC.1 e;unfold fh;have o:a.find? (λj=>j.f.num==(d:Int))=E a[i]:=List.find?_eq_some_iff_getElem.2 ⟨l,i,hi,rfl,λr p=>by simpa using n r p⟩;rw[o];rfl
theorem OK(c:List aB)(b e:Nat)(hi:e<c.length)(l:dF c b=e)(x:aB)(I:x.f.num=c[e].f.num)(j:Nat):fh (c.set e x) j=if j=b then E (x.f.c.at x.f.ep,x.f.Y) else fh c j:=by
 have y:c[e].f.num=(b:Int):=by
  obtain n|⟨a,o,n,d⟩:=xk c b
  .omega
  .have:a=e:=by omega
   subst this;exact d
 have N:∀(ys:List aB) (a:Nat) (o:a<ys.length),ys[a].f.num=(b:Int)->(∀i,∀v:i<ys.length,i<a->ys[i].f.num≠(b:Int))->x.f.num=(b:Int)->fh (ys.set a x) j=if j=b then E (x.f.c.at x.f.ep,x.f.Y) else fh ys j:=by
  intro ys
  induction ys with
  |nil=>intro a o;exact absurd o (fK _)
  |cons A ys M=>
   intro a o n d s
   cases a with
   |zero=>
    simp only[Ex] at n;unfold fh;simp only[nN,mi];by_cases k:j=b
    .subst k;simp[s]
    .have B:(x.f.num==(j:Int))=false:=by rw[s];simp;omega
     have r:(A.f.num==(j:Int))=false:=by rw[n];simp;omega
     rw[B,r,f k]
   |succ a=>
    have p:=d 0 (by simp) (by omega);simp only[Ex] at p;have z:=M a (by simpa using o) (by simpa using n) (λi v O=>by have:=d (i+1) (by simpa using v) (by omega);simpa using this) s;unfold fh at z ⊢;simp only[nO,mi]
    cases hy:(A.f.num==(j:Int)) with
    |true=>
     have:j≠b:=λk=>by subst k;exact p (by simpa using hy)
     simp[this]
    |false=>exact z
 refine N c e hi y (λi v G k=>?_) (by rw[I];exact y);unfold dF at l
 cases d:c.findIdx? (λx=>x.f.num==(b:Int)) with
 |none=>rw[d] at l;simp only at l;omega
 |some a=>
  rw[d] at l;have r:a=e:=by simp only at l;omega
  subst r;obtain⟨_,_,p⟩:=jC.1 d;have:=p i G;simp[k] at this
structure dC (xs:List aB) (fl:Nat->Option (O×List z)):Prop where
 sort:xs.Pairwise (λx y=>x.f.num<y.f.num)
 iw:∀x∈xs,1<=x.f.num/\x.f.num<=20
 eq:∀n,n<21->fl n=fh xs n
theorem Ez:∀(b:List aB) (a:Int),b.Pairwise (λx d=>x.f.num<d.f.num)->(∀x∈b,a<x.f.num/\x.f.num<=20)->a<=20->(b.length:Int)<=20 - a
 |[],a,_,_,i=>by simp;omega
 |x::b,a,c,e,i=>by
  have c:=rU.1 c;have j:=e x (by simp);have:=Ez b x.f.num c.2 (λd hy=>⟨c.1 d hy,(e d (by simp[hy])).2⟩) j.2;simp only[eL];omega
theorem dC.find(d:dC S p)(a:Int)(j:1<=a/\a<=20):(dF S a= -1/\p a.toNat=J)\/∃b,∃hi:b<S.length,dF S a=b/\S[b].f.num=a/\p a.toNat=E (S[b].f.c.at S[b].f.ep,S[b].f.Y):=by
 have e:((a.toNat:Nat):Int)=a:=by omega
 obtain c|⟨b,hi,c,i⟩:=xk S a
 .refine .inl ⟨c,?_⟩;rw[d.eq _ (by omega)];exact zR S _ (by rw[e];exact c)
 .refine .inr ⟨b,hi,c,i,?_⟩;rw[d.eq _ (by omega)];exact Ey S _ b hi (by rw[e];exact c)
theorem dC.tick(a:dC S p)(c:Int):dC (S.map (iI c)) (λb=>(p b).map (jV c)):=by
 refine⟨List.pairwise_map.2 a.sort,λj e=>?_,λb d=>?_⟩
 .obtain⟨i,hy,rfl⟩:=kA.1 e;exact a.iw i hy
 .rw[OJ];exact mu (Option.map (jV c)) (a.eq b d)
theorem dC.set(e:dC S p)(a:Int)(N:1<=a/\a<=20)(b:Nat)(hi:b<S.length)(B:dF S a=b)(x:aB)(i:x.f.num=S[b].f.num)(o:O×List z)(hy:(x.f.c.at x.f.ep,x.f.Y)=o):dC (S.set b x) (λj=>if j=a.toNat then E o else p j):=by
 have G:((a.toNat:Nat):Int)=a:=by omega
 refine⟨?_,λP M=>?_,λl I=>?_⟩
 .rw[mh];intro c n k y v;have ha':c<S.length:=by simpa using k
  have A:n<S.length:=by simpa using y
  have:=(mh.1 e.sort) c n ha' A v;rw[pK,pK];split
  .rename_i r;subst r;rw[f (by omega),i];exact this
  .split
   .rename_i s;subst s;rw[i];exact this
   .exact this
 .obtain⟨c,k,rfl⟩:=kB M;have ha':c<S.length:=by simpa using k
  rw[pK];split
  .rw[i];exact e.iw _ (eK hi)
  .exact e.iw _ (eK ha')
 .rw[OK S a.toNat b hi (by rw[G];exact B) x i l,hy];by_cases d:l=a.toNat
  .rw[D d,D d]
  .rw[f d,f d,e.eq l I]
theorem OM(b:List aB)(x:aB)(c:Nat)(d:Nat)(i:x.f.num=(d:Int))(n:∀a∈b,a.f.num≠(d:Int))(j:Nat):fh (b.take c++x::b.drop c) j=if j=d then E (x.f.c.at x.f.ep,x.f.Y) else fh b j:=by
 unfold fh;rw[yn,mi];by_cases e:j=d
 .subst e;rw[D rfl];have l:(b.take c).find? (λa=>a.f.num==(j:Int))=J:=List.find?_eq_none.2 (λa hy=>by have:=n a (sM hy);simpa using this);rw[l];simp[i]
 .rw[f e];have k:(x.f.num==(j:Int))=false:=by rw[i];simp;omega
  rw[k];have:b.find? (λa=>a.f.num==(j:Int))=((b.take c).find? (λa=>a.f.num==(j:Int))).or ((b.drop c).find? (λa=>a.f.num==(j:Int))):=by
   rw[<-yn,EA]
  rw[this]
theorem OO{a:Int}(b:dF S a= -1):∀d∈S,d.f.num≠a:=by
 intro d hy e;unfold dF at b
 cases c:S.findIdx? (λi=>i.f.num==a) with
 |none=>
  rw[nd] at c;have:=c d hy;simp[e] at this
 |some j=>rw[c] at b;simp only at b;omega
theorem dC.insert(n:dC S p)(b:Int)(P:1<=b/\b<=20)(Q:dF S b= -1)(a:Nat)(Y:a<=S.length)(T:∀j (k:j<S.length),j<a->S[j].f.num<b)(R:∀k:a<S.length,¬S[a].f.num<b)(x:aB)(v:x.f.num=b)(y:O×List z)(hy:(x.f.c.at x.f.ep,x.f.Y)=y):dC (S.take a++x::S.drop a) (λj=>if j=b.toNat then E y else p j)/\S.length<20:=by
 have I:=OO Q;have B:((b.toNat:Nat):Int)=b:=by omega
 have M:(S.take a++x::S.drop a).Pairwise (λx y=>x.f.num<y.f.num):=by
  have N:∀o∈S.take a,o.f.num<b:=λo r=>by
   obtain⟨j,k,rfl⟩:=kB r;have s:j<a/\j<S.length:=by rw[eO] at k;omega
   rw[rm];exact T j s.2 s.1
  have G:∀l∈S.drop a,b<l.f.num:=λl i=>by
   obtain⟨j,k,rfl⟩:=kB i;have s:a+j<S.length:=by rw[oZ] at k;omega
   rw[uI];have W:=R (by omega);have X:=I _ (eK (show a<S.length by omega));obtain e|e:=Nat.eq_zero_or_pos j
   .subst e;simp only[tP];omega
   .have:=(mh.1 n.sort) a (a+j) (by omega) s (by omega);omega
  refine List.pairwise_append.2 ⟨n.sort.sublist (List.take_sublist a S),rU.2 ⟨λl i=>by rw[v];exact G l i,n.sort.sublist (List.drop_sublist a S)⟩,λo r l i=>?_⟩;obtain rfl|i:=List.mem_cons.1 i
  .rw[v];exact N o r
  .have:=N o r;have:=G l i;omega
 have A:∀d∈S.take a++x::S.drop a,1<=d.f.num/\d.f.num<=20:=λd c=>by
  obtain c|c:=jR.1 c
  .exact n.iw d (sM c)
  .obtain rfl|c:=List.mem_cons.1 c
   .rw[v];exact P
   .exact n.iw d (List.mem_of_mem_drop c)
 refine⟨⟨M,A,λj k=>?_⟩,?_⟩
 .rw[OM S x a b.toNat (by rw[B];exact v) (by rw[B];exact I) j,hy];by_cases e:j=b.toNat
  .rw[D e,D e]
  .rw[f e,f e,n.eq j k]
 .have:=Ez _ 0 M (λd c=>⟨by have:=A d c;omega,(A d c).2⟩) (by omega);simp at this;omega
open Go.ChangeMaps (setBlock)
attribute [local go_sem] rV rW rX rY
theorem xm{w w':U}(c:G No w w'){a:Addr}(b:w.cell? a=E o):w'.cell? a=E o:=by
 have d:=jk w _ b;rw[oB (w:=w) (c.block _ d (λe=>e))];exact b
theorem jJ{S:Nat->Prop}{w w':U}(c:G S w w'){a:List aX}(b:w.heap[Q]? =E (gU a P))(d:¬S Q):w'.heap[Q]? =E (gU a P):=by
 rw[c.block Q (Array.getElem?_eq_some_iff.1 b).1 d];exact b
def tb(b:List aX)(c a:Int):Int:=(jH b c a).getD (-1)
theorem OP(B I s a A:Nat)(c:List aX)(w:U)(aj:a<=20)(M:w.cell? (u B I J)=E (.map (E s)))(e:w.heap[s]? =E (gU c A))(Y:ir c):Calls h 116 #[g (E (u B I J)),F K a] w λS w'=>S=q (t #[F K (tb c a 0),F K (tb c a 1),F K (tb c a 2),F K (tb c a 3)])/\G No w w':=by
 have k:=l λ(n:U) (T:G No w n) (j:Int) (ah:0<=j/\j<4)=>(show(ji 116 (.map (E s)) (t #[F K a,F K j]) true).run h n=.ok (uF (jH c a j)) n from Na n s c A (jJ T e (λaf=>af)) Y a j (by omega) (by omega));have N:=l M;clear M e;go_enter func116,ntmps116;go_wp2_with fail
 go_loopw [9] (λi wr=>Hid (G No w wr)/\Hid (X wr w.heap.size #[F K 0,F K 0,F K 0,F K 0] 37)/\
   ((i=F K 0/\Hid (X wr (w.heap.size+1) #[F K 0,F K 0,F K 0,F K 0] 37))\/
    (i=F K 1/\Hid (X wr (w.heap.size+1) #[F K (tb c a 0),F K 0,F K 0,F K 0] 37))\/
    (i=F K 2/\Hid (X wr (w.heap.size+1) #[F K (tb c a 0),F K (tb c a 1),F K 0,F K 0] 37))\/
    (i=F K 3/\Hid (X wr (w.heap.size+1) #[F K (tb c a 0),F K (tb c a 1),F K (tb c a 2),F K 0] 37))\/
    (i=F K 4/\Hid (X wr (w.heap.size+1) #[F K (tb c a 0),F K (tb c a 1),F K (tb c a 2),F K (tb c a 3)] 37)))) (λi _=>4 - (intOf i).toNat)
 case atStart=>
  refine⟨((G.refl No w).alloc _).alloc _,(X.new w _ _).alloc _,.inl ⟨rfl,l ?_⟩⟩;have:=X.new (w.alloc (m #[F K 0,F K 0,F K 0,F K 0] 37)) #[F K 0,F K 0,F K 0,F K 0] 37;simpa using this
 case round=>
  obtain⟨e,o,d⟩:=hrel;have ak:=(b o).aC;have p:=(b o).T;have ai:=(b o).lt;have ag:=xm (b e) (b N);have O:=(b k) wr (b e) 0 (by omega);have P:=(b k) wr (b e) 1 (by omega);have Q:=(b k) wr (b e) 2 (by omega);have R:=(b k) wr (b e) 3 (by omega);have v:tb c a 0=(jH c a 0).getD (-1):=rfl;have x:tb c a 1=(jH c a 1).getD (-1):=rfl;have y:tb c a 2=(jH c a 2).getD (-1):=rfl
  have z:tb c a 3=(jH c a 3).getD (-1):=rfl;generalize tb c a 0=t0 at *;generalize tb c a 1=t1 at *;generalize tb c a 2=t2 at *;generalize tb c a 3=t3 at *;obtain⟨rfl,d⟩|⟨rfl,d⟩|⟨rfl,d⟩|⟨rfl,d⟩|⟨rfl,d⟩:=d
  case inr.inr.inr.inr=>
   have W:=(b d).T;have Z:=(b d).lt;have d0:wr.cell? (u w.heap.size 0 J)=E (F K 0):=p 0;have d1:wr.cell? (u w.heap.size 1 J)=E (F K 0):=p 1;have d2:wr.cell? (u w.heap.size 2 J)=E (F K 0):=p 2;have d3:wr.cell? (u w.heap.size 3 J)=E (F K 0):=p 3;go_wp2;refine cN (by simp[results,results116,go_sem,d0,d1,d2,d3];try rfl) rfl ?_
   exact⟨rfl,by repeat' (first|with_reducible exact b e|refine G.setCell ?_ (Or.inr (cz _)) _)⟩
  case' inl=>cases r:jH c a 0
  case' inr.inl=>cases r:jH c a 1
  case' inr.inr.inl=>cases r:jH c a 2
  case' inr.inr.inr.inl=>cases r:jH c a 3
  all_goals
   have W:=(b d).T;have Z:=(b d).lt;have am:=(b d).aC;simp only[r,uF,Option.getD_none,Option.getD_some] at O P Q R v x y z;go_wp2;go_roundw
   .have aa:=(b d).set 0 (F K t0);have ab:=(b d).set 1 (F K t1);have ad:=(b d).set 2 (F K t2);have ae:=(b d).set 3 (F K t3);refine⟨(b e).setCell (.inr (Nat.le_succ _)) _,(b o).eJ (by simp) _,?_⟩
    first
     |(refine .inr (.inl ⟨rfl,?_⟩);rw[<-v];exact aa)
     |(refine .inr (.inr (.inl ⟨rfl,?_⟩));rw[<-x];exact ab)
     |(refine .inr (.inr (.inr (.inl ⟨rfl,?_⟩)));rw[<-y];exact ad)
     |(refine .inr (.inr (.inr (.inr ⟨rfl,?_⟩)));rw[<-z];exact ae)
   .simp[intOf]
open Go.ChangeShapes Go.WideShapes Go.ChangeAt
structure rv (w:U) (S:Array V):Prop where
 ex:∃(sp:Int) (keep:List Int) (ka:Option Addr) (kc:Nat),S[23]? =E (C ka keep.length kc)/\S[24]? =E (.int .u8 sp)/\keep.length<=9223372036854775807/\
  Reads w (C ka keep.length kc) keep.length (keep.map (F K))/\(0<keep.length->∀k,(C ka keep.length kc).ownBlock=E k->k<w.heap.size)
section
variable {H:Type} {enc:TypeId×V->H} {w:U} {base:Nat} {spare:Nat->Bool} {held:Bool}
theorem zS(a:(j.drop Q).take 1=[o]):j[Q]? =E o:=by
 have:((j.drop Q).take 1)[0]? =E o:=by rw[a];rfl
 rw[oD,D (by omega),zi] at this;simpa using this
theorem EB{w:U}{a:Addr}(b:w.cell? a=E o):a.block<w.heap.size:=by
 unfold World.cell? at b
 cases c:w.heap[a.block]? with
 |none=>
  exfalso;simp only[c] at b
  cases b
 |some d=>exact(Array.getElem?_eq_some_iff.1 c).1
theorem OQ{fuel:Nat}{x:DataW H×List MemPlace}(a:DataW.trod enc h w base spare held fuel 45 j=E x):rv w j.toArray:=by
 obtain⟨n,z,_,_,Q,N,s⟩:=zh underlying45 a;have W:n.length=8:=N;have A:h.cellsOf 3=1:=by kernel_rfl
 have o:h.cellsOf 25=1:=by kernel_rfl
 have B:h.cellsOf 5=1:=by kernel_rfl
 have f3:DataW.trod enc h w base spare held z 25 ((j.drop 23).take (h.cellsOf 25))=n[6]? :=s 6 _ rfl;have f4:DataW.trod enc h w base spare held z 5 ((j.drop 24).take (h.cellsOf 5))=n[7]? :=s 7 _ rfl;rw[du (by omega)] at f3 f4;obtain⟨sp,e,_,Y⟩:=CS underlying5 f4;rw[B] at e;have e:=zS e;obtain⟨c,_⟩|⟨i,d,p,l,c,P,R,M,O,_,r,T⟩:=open_ints Tryz.underlying25 Tryz.underlying3 A f3
 .rw[o] at c;exact⟨sp,[],J,0,by simpa using zS c,by simpa using e,by simp,.inl ⟨rfl,rfl⟩,λa=>by simp at a⟩
 .rw[o] at c;have S:d<=l.length:=by rw[O];split<;>omega
  have k:(l.take d).length=d:=by rw[eO];omega
  refine⟨sp,l.take d,E i,p,?_,by simpa using e,?_,?_,?_⟩
  .rw[k];simpa using zS c
  .rw[k];unfold maxLen at M;omega
  .refine .inr ⟨i,p,rfl,λy Z hu=>?_⟩;rw[qC] at hu
   cases b:(l.take d)[y]? with
   |none=>rw[b] at hu;cases hu
   |some aa=>
    rw[b] at hu;have v:=(List.getElem?_eq_some_iff.1 b).1;rw[k] at v;rw[oD,D v] at b;rw[r y (by omega),qR,b];exact hu
  .intro a X I;rw[k] at a;have:=EB (r 0 (by omega));have G:(i.add 0).block=i.block:=by unfold Addr.add;split<;>rfl
   rw[G] at this;simp[aV] at I;omega
end
theorem rv.mod{w w':U}{S:Array V}(b:rv w S)(c:G No w w'):rv w' S:=by
 obtain⟨sp,x,s,v,j,l,n,a,k⟩:=b;refine⟨sp,x,s,v,j,l,n,?_,λb r o=>bj (k b r o) c.size⟩;obtain a|⟨d,e,i,a⟩:=a
 .exact .inl a
 .exact .inr ⟨d,e,i,λp y hu=>eG c (a p y hu)⟩
def uO(w:U)(a:Option Addr)(e:Nat):Prop:=∀d,d<e->∃(c off:Nat) (b:Array V),a=E (u c off J)/\mH b/\w.rangeAt c (off+d* 25) b.toList/\rv w b/\c<w.heap.size
theorem uO.mod{w w':U}{a:Option Addr}(e:uO w a Q)(b:G No w w'):uO w' a Q:=λo hi=>by
 obtain⟨d,off,c,i,j,k,l,n⟩:=e o hi;exact⟨d,off,c,i,j,uB b k,l.mod b,bj n b.size⟩
section
variable {H:Type} {enc:TypeId×V->H} {w:U} {spare:Nat->Bool} {held:Bool}
theorem OT{k:DataW H}{ps:List MemPlace}(B:∃a s d,o=C a s d)(l:DataW.Trod enc h w 0 spare held 22 o k ps):∃a e d,o=C a e d/\uO w a e/\(k=.nil/\e=0\/∃x sp,k=.slice x sp/\x.length=e):=by
 obtain⟨fuel,l⟩:=l;obtain⟨c,r⟩|⟨a,s,d,elems,rest,e,_,c,r,ab,ae,ag,W,z,ai,ah⟩:=Me Tryz.underlying22 l
 .refine⟨J,0,0,?_,λG hi=>absurd hi (fK _),.inl ⟨mu Prod.fst r,rfl⟩⟩;exact Df c B
 .refine⟨E a,s,d,Df c B,λG hi=>?_,.inr ⟨_,_,mu Prod.fst r,by simpa using W⟩⟩;have I:=z G hi;rw[du (by omega),zp] at I;obtain⟨v,P,n⟩:=Option.bind_eq_some_iff.1 I;obtain⟨_,af,y⟩:=OU P;obtain⟨Q,R⟩:=Mc n;obtain⟨S,T⟩:=Md n;have X:=OQ n;obtain⟨j,off,sp⟩:=a;have Y:sp=J:=by
   have M:=z 0 (by omega);rw[du (by omega),zp] at M;obtain⟨aa,Z,aj⟩:=Option.bind_eq_some_iff.1 M;obtain⟨_,ak,N⟩:=OU Z;have b:=N 0 (by omega);rw[du (by omega)] at b;have O:((⟨j,off,sp⟩:Addr).add (0* 25)).add 0=⟨j,off,sp⟩:=by simp[Addr.add]
   rw[O] at b;unfold World.cell? at b
   cases sp with
   |none=>rfl
   |some am=>
    exfalso;simp at b;split at b<;>simp at b
  subst Y;refine⟨j,off,v.toArray,rfl,⟨by simpa using Q,λi p o c=>R i p o (by simpa using c),λo c=>S o (by simpa using c),λo c=>T o (by simpa using c)⟩,λi o p=>?_,X,?_⟩
  case refine_2=>
   have b:=y 0 (by omega);rw[du (by omega)] at b;have:=EB b;rw[dE,dE] at this;exact this
  have A:v[i]? =E o:=by simpa using p
  have ad:=(List.getElem?_eq_some_iff.1 A).1;have:=y i (by omega);rw[dE,dE,A] at this;exact this
end
end Go.Proofs.YthhibagcpjeihaaGreat
