import Derived.Test.YthhibagcpjeihaaGreatW6
import Derived.OwnWalk
import Derived.Deep.CutRange
import Derived.Deep.CutBlock
open Go.Proofs.Tryz
open Go.Addr renaming mk->u
open Go.Value renaming int->F,pointer->g,slice->C,bool->L,agg->t,tuple->aq
open Go.IntKind renaming i64->K,signed->oz
open Option renaming none->J,some->E
open Go renaming World->U,Value->V
open Go.Proofs.Tryz renaming prog->h
open Go.Ending renaming returned->q
open Go.Obj renaming cells->m
open Go.Instr renaming lookup->ji
open And renaming intro->gE
set_option linter.unusedVariables false
set_option linter.unusedSimpArgs false
set_option maxRecDepth 100000
set_option maxHeartbeats 8000000
namespace Go.Proofs.YthhibagcpjeihaaGreat
open Go.RowKit Go.WideMaps
open Go.ChangeMaps (setBlock)
theorem wM:KeyLaw h 206:=deep_law_laid laidOut (m:=2) (by omega) (rP (by kernel_rfl)) (by kernel_rfl) (by rw[underlying206])
theorem wN(b a:Int)(p:0<=b/\b<=1000)(o:0<=a/\a<=1000):∃k,keyOf h 206 (iB b a)=E k:=by
 have l:(Lit.int K b).wf=true:=by simp[Lit.wf,IntKind.min,IntKind.max,oz,IntKind.bits];omega
 have n:(Lit.int K a).wf=true:=by simp[Lit.wf,IntKind.min,IntKind.max,oz,IntKind.bits];omega
 have i:h.keyType 206=true:=by kernel_rfl
 have e:h.cellsOf 206=2:=by kernel_rfl
 have d:h.cellsOf 3=1:=by kernel_rfl
 have ts:∃c,h.types.size+1=c+2:=⟨h.types.size - 1,by have:0<h.types.size:=rP (by kernel_rfl);omega⟩;obtain⟨c,j⟩:=ts;apply Option.isSome_iff_exists.1;unfold keyOf;rw[underlying206,j];simp[i,iB,Value.formed,underlying206,e,d,Program.keyLits,underlying3,l,n,Value.cells,ug]
structure aX where
 born:Nat
 r:Int
 c:Int
 n:Int
def aX.obj(a:aX):MapEntry:=⟨iB a.r a.c,F K a.n,a.born⟩
def gU(b:List aX)(a:Nat):Obj:=.map (b.map aX.obj).toArray a
def aX.is(c b:Int)(a:aX):Bool:=a.r==c&&a.c==b
structure ir (l:List aX):Prop where
 keys:∀e∈l,0<=e.r/\e.r<=1000/\0<=e.c/\e.c<=1000
 apart:l.Pairwise λa b=>¬(a.r=b.r/\a.c=b.c)
variable {S o j:Int} {w Q P p:Nat} {k I v:List Int} {W N:U} {B R:Type} {i:Bool}
theorem wO{a:aX}:aX.is S o a=false↔¬(a.r=S/\a.c=o):=by
 simp only[aX.is,vy,tM];by_cases b:a.r=S
 .simp[b]
 .simp[b]
theorem MY{a:aX}:aX.is S o a=true↔(a.r=S/\a.c=o):=by
 simp[aX.is]
variable {n:List aX}
theorem DE(k:n.Pairwise λa c=>¬(a.r=c.r/\a.c=c.c)){j:Nat}(d:j<n.length)(b:n[j].r=S/\n[j].c=o):n.findIdx? (aX.is S o)=E j:=by
 rw[jC];refine⟨d,by simp[aX.is,b.1,b.2],λl hi=>?_⟩;have:=(mh.1 k) l j (by omega) d hi;simp only[aX.is,mX,lD];rintro⟨e,i⟩;exact this ⟨by rw[e,b.1],by rw[i,b.2]⟩
theorem DG(n:U)(c:List aX)(s:ir c)(a b:Int)(I:0<=a/\a<=1000)(A:0<=b/\b<=1000):(Instr.findKey 206 (iB a b) (c.map aX.obj)).run h n=.ok ((c.findIdx? (aX.is a b)).map λj=>(j,(c[j]?.map λd=>F K d.n).getD undef)) n:=by
 obtain⟨N,M⟩:=wN a b I A
 obtain⟨i,H⟩|⟨j,d,i,p,B⟩:=wM.find n M (c.map aX.obj) (λd k=>by
  obtain⟨e,l,rfl⟩:=kA.1 k
  obtain⟨v,w,x,y⟩:=s.keys e l
  exact wN e.r e.c ⟨v,w⟩ ⟨x,y⟩)
 .rw[i];have:c.findIdx? (aX.is a b)=J:=by
   rw[nd];intro d k;have:=H _ (Ir k);simp only[aX.is,vy,tM,ne_eq];by_cases o:d.r=a
   .right;intro z;exact this (vw.2 ⟨o,z⟩)
   .left;exact o
  rw[this];rfl
 .rw[i];rw[qC] at p;obtain⟨e,l,rfl⟩:=Option.map_eq_some_iff.1 p;obtain⟨r,rfl⟩:=List.getElem?_eq_some_iff.1 l;have G:=vw.1 B;rw[DE s.apart r G];simp[r,aX.obj]
def jH(b:List aX)(c a:Int):Option Int:=(b.find? (aX.is c a)).map aX.n
theorem DH(a:List aX)(p:aX->Bool):a.find? p=(a.findIdx? p).bind λj=>a[j]? :=by
 induction a with
 |nil=>rfl
 |cons b a c=>
  simp only[mi,Iu]
  cases p b
  .simp only[mg,jQ,c]
   cases a.findIdx? p<;>simp
  .simp
theorem DI(a:U):(zeroValue 3).run h a=.ok (F K 0) a:=by kernel_rfl
def uF:Option Int->V
 |none=>aq #[F K 0,L false]
 |some a=>aq #[F K a,L true]
theorem Na(c:U)(j:Nat)(d:List aX)(k:Nat)(r:c.heap[j]? =E (gU d k))(w:ir d)(b a:Int)(s:0<=b/\b<=1000)(n:0<=a/\a<=1000):(ji 116 (.map (E j)) (iB b a) true).run h c=.ok (uF (jH d b a)) c:=by
 obtain⟨z,x⟩:=wN b a s n;have l:=λv=>wM.check c v x;have e:=DG c d w b a s n;unfold gU at r;have o:(getObj j).run h c=.ok (.map (d.map aX.obj).toArray k) c:=by simp[getObj,Sem.run,r]
 rw[jH,DH]
 cases i:d.findIdx? (aX.is b a) with
 |none=>
  rw[i] at e;simp[ji,jj underlying116,o,l,e,DI,uF]
 |some y=>
  have p:=(jC.1 i).1;rw[i] at e;simp[p] at e;simp[ji,jj underlying116,o,l,e,DI,p,uF]
def kI(c:List aX)(a:Nat)(i d e:Int):List aX×Nat:=
 match c.findIdx? (aX.is i d) with
 |some j=>(c.modify j λb=>⟨b.born,b.r,b.c,e⟩,a)
 |none=>(c++[⟨a,i,d,e⟩],a+1)
theorem zv{b:Int}{j:Nat}(c:n.findIdx? (aX.is S o)=E j):kI n w S o b=(n.modify j λa=>⟨a.born,a.r,a.c,b⟩,w):=by
 unfold kI;rw[c]
theorem zw(a:n.findIdx? (aX.is S o)=J):kI n w S o j=(n++[⟨w,S,o,j⟩],w+1):=by
 unfold kI;rw[a]
theorem DJ(b:MapEntry->MapEntry)(c:aX->aX):∀(a:List aX) (j:Nat) (e:j<a.length),b a[j].obj=(c a[j]).obj->(a.map aX.obj).modify j b=(a.modify j c).map aX.obj
 |i::a,0,_,d=>by simpa using d
 |i::a,j+1,e,d=>by
  have:=DJ b c a j (by simpa using e) (by simpa using d);simp[this]
theorem Nb(a:U)(e:Nat)(c:List aX)(l:Nat)(r:a.heap[e]? =E (gU c l))(M:ir c)(d b n:Int)(y:0<=d/\d<=1000)(w:0<=b/\b<=1000):(Instr.mapUpdate 116 (.map (E e)) (iB d b) (F K n)).run h a=.ok () (setBlock a e (gU (kI c l d b n).1 (kI c l d b n).2)):=by
 obtain⟨N,A⟩:=wN d b y w;have v:=λG=>wM.check a G A;have i:=DG a c M d b y w;have H:=wM.stays a A;unfold gU at r;have x:(getObj e).run h a=.ok (.map (c.map aX.obj).toArray l) a:=by simp[getObj,Sem.run,r]
 have z:∀s,(setObj e s).run h a=.ok () (setBlock a e s):=λs=>by simp[setObj,Sem.run,r,setBlock]
 cases j:c.findIdx? (aX.is d b) with
 |none=>
  rw[j] at i;rw[zw j];simp[Instr.mapUpdate,jj underlying116,x,z,v,i,gU,aX.obj]
 |some B=>
  have k:=(jC.1 j);obtain⟨k,p,_⟩:=k;simp[aX.is] at p;rw[j] at i;simp[k] at i;have I:(c[B]).obj.key=iB d b:=by simp[aX.obj,p]
  rw[zv j];simp[Instr.mapUpdate,jj underlying116,x,z,v,i,gU,k,I,H];rw[DJ _ (λo=>⟨o.born,o.r,o.c,n⟩) c B k (by simp[aX.obj,p])]
theorem ir.nil:ir []:=⟨λ_ a=>by simp at a,List.Pairwise.nil⟩
theorem ir.put(v:Nat)(c:ir n)(i d s:Int)(r:0<=i/\i<=1000)(p:0<=d/\d<=1000):ir (kI n v i d s).1:=by
 cases e:n.findIdx? (aX.is i d) with
 |some y=>
  rw[zv e];refine⟨λb a=>?_,rT (g:=λb:aX=>⟨b.born,b.r,b.c,s⟩) (λj l k=>k) (λj l k=>k) c.apart⟩;obtain a|⟨x,hy,rfl⟩:=mem_modify a
  .exact c.keys b a
  .exact c.keys x hy
 |none=>
  rw[zw e];rw[nd] at e;refine⟨λb a=>?_,?_⟩
  .obtain a|a:=jR.1 a
   .exact c.keys b a
   .simp at a;subst a;exact⟨r.1,r.2,p.1,p.2⟩
  .refine List.pairwise_append.2 ⟨c.apart,by simp,λj w l o=>?_⟩;simp at o;subst o;exact wO.1 (e j w)
theorem DK(d:aX->aX)(b:aX->Bool):∀(a:List aX) (j:Nat),(∀c:j<a.length,b a[j]=false/\b (d a[j])=false)->(a.modify j d).find? b=a.find? b
 |[],_,_=>by simp
 |e::a,0,c=>by
  have:=c (by simp);simp at this;simp[this.1,this.2]
 |e::a,j+1,c=>by
  simp only[Bh,mi];rw[DK d b a j (λi=>by have:=c (by simpa using i);rwa [vB] at this)]
theorem DL(s:Nat)(w:ir n)(e d k i c':Int):jH (kI n s e d k).1 i c'=if i=e/\c'=d then E k else jH n i c':=by
 cases j:n.findIdx? (aX.is e d) with
 |none=>
  rw[zw j];rw[nd] at j;unfold jH;simp only[yn];by_cases b:i=e/\c'=d
  .rw[D b,b.1,b.2];rw[List.find?_eq_none.2 (λa x=>by rw[j a x];simp)];simp[aX.is]
  .rw[f b];have:aX.is i c' ⟨s,e,d,k⟩=false:=wO.2 (λa=>b ⟨a.1.symm,a.2.symm⟩);simp[this]
 |some p=>
  rw[zv j];obtain⟨v,c,_⟩:=jC.1 j;have c:=MY.1 c;have y:(n.modify p λa=>(⟨a.born,a.r,a.c,k⟩:aX)).Pairwise λl o=>¬(l.r=o.r/\l.c=o.c):=rT (g:=λa:aX=>⟨a.born,a.r,a.c,k⟩) (λl o r=>r) (λl o r=>r) w.apart;by_cases b:i=e/\c'=d
  .rw[D b,b.1,b.2];unfold jH;rw[DH,DE y (j:=p) (by simpa using v) (by simpa using c)];simp[v]
  .rw[f b];unfold jH;rw[DK _ _ n p (λ_=>⟨wO.2 (λa=>b ⟨by rw[<-a.1,c.1],by rw[<-a.2,c.2]⟩),wO.2 (λa=>b ⟨by rw[<-a.1];exact c.1,by rw[<-a.2];exact c.2⟩)⟩)]
open Go.RowKit
open M
def ba{a b:Type}(p:Option (a×List Int))(c:a->List Int->Option (b×List Int)):Option (b×List Int):=match p with
 |some (e,d)=>c e d
 |none=>J
theorem cd.alloc{w:U}(b:cd w Q P k S i)(c:Obj):cd (w.alloc c) Q P k S i:=b.mod (S:=No) ((G.refl _ _).alloc _) (λa=>a) (λa=>a)
theorem eE.torn{w':U}{c:Option (B×List Int)}{d:B->Prop}(a:eE W w' w Q c S true d):∃b,cd w' w Q b S true:=by
 obtain⟨_,a⟩:=a;obtain _|⟨e,b⟩:=c
 .exact a
 .exact⟨b,a.2⟩
theorem eE.bind{β:Type}{p:Option (B×List Int)}{l:B}(a:eE W N w Q p S i (λx=>x=l)):∃k t1,cd N w Q k S t1/\∀(d:B->List Int->Option (β×List Int)) (w2:U) (c:β->Prop),eE N w2 w Q (d l k) S t1 c->eE W w2 w Q (ba p d) S i c:=by
 obtain⟨j,a⟩:=a;obtain _|⟨x,e⟩:=p
 .obtain⟨e,a⟩:=a;exact⟨e,true,a,λd w2 c b=>⟨j.trans b.1,b.torn⟩⟩
 .obtain⟨rfl,a⟩:=a;exact⟨e,i,a,λd w2 c b=>⟨j.trans b.1,b.2⟩⟩
theorem eE.ret{p:Option (B×List Int)}{n:B}{y:B->R}{g:R->Prop}(a:eE W N w Q p S i (λx=>x=n))(d:g (y n)):eE W N w Q (ba p λx c=>E (y x,c)) S i g:=by
 obtain⟨b,a⟩:=a;obtain _|⟨x,c⟩:=p
 .exact⟨b,a⟩
 .obtain⟨rfl,a⟩:=a;exact⟨b,d,a⟩
theorem eE.beside{d:U}{c:Option (B×List Int)}{a:B->Prop}(b:eE N d w Q c S i a)(e:G No W N):eE W d w Q c S i a:=
 ⟨(e.mono λ_ _ j=>j.elim).trans b.1,b.2⟩
theorem eE.fresh{p w2:U}{d:Option (B×List Int)}{k:B->Prop}(l:eE N p w Q d S i k)(s:G No W N)(c:G (λn=>n=P) p w2)(v:P≠w)(x:P≠Q)(A:W.heap.size<=P):eE W w2 w Q d S i k:=by
 have e:¬w=P:=λb=>v b.symm;have j:¬Q=P:=λb=>x b.symm;refine⟨((s.mono (S':=(· =w)) λ_ _ r=>r.elim).trans l.1).trans' c (λn y z=>by omega),?_⟩;have a:=l.2;obtain _|⟨r,o⟩:=d
 .obtain⟨o,a⟩:=a;exact⟨o,a.mod c e j⟩
 .exact⟨a.1,a.2.mod c e j⟩
def jY(b:List Int):Option ((Int×Int)×List Int):=ba (cH b 0 0) λa c=>E ((wrap64 (a.tdiv 6+1),wrap64 (a.tmod 6+1)),c)
def pX(e:List Int):Option ((Int×Int×Int)×List Int):=ba (cH e 0 0) λb a=>ba (cH a 0 0) λc a=>ba (cH a 0 0) λd a=>E ((b,c,d),a)
abbrev Fit(a:Int):Prop:= -9223372036854775808<=a/\a<=9223372036854775807
theorem DM(A:cd W w Q k S i):Calls h 141 #[g (E (u w 0 J))] W λe w'=>∃a c d,e=q (aq #[F K a,F K c,F K d])/\(Fit a/\Fit c/\Fit d)/\eE W w' w Q (pX k) S i (λx=>x=(a,c,d)):=by
 have n:=l A;clear A;go_enter func141,ntmps141;go_wp2_with fail;refine(lP (b n)).mono ?_;rintro e Z ⟨a,rfl,v,B⟩;obtain⟨X,t1,N,I⟩:=B.bind (β:=Int×Int×Int);have r:=l N;have o:=l I;have P:=l v;clear B N I v n;go_wp2_with fail;refine(lP (b r)).mono ?_;rintro e aa ⟨c,rfl,y,G⟩;obtain⟨Y,t2,O,M⟩:=G.bind (β:=Int×Int×Int);have s:=l O;have p:=l M;have R:=l y;clear G O M y r;go_wp2_with fail
 refine(lP (b s)).mono ?_;rintro e w3 ⟨d,rfl,z,H⟩;have j:eE W w3 w Q (pX k) S i (λx=>x=(a,c,d)):=(b o) _ _ _ ((b p) _ _ _ (H.ret rfl));have j:=l j;have T:=l z;clear H z s o p;go_wp2;go_ret3;exact⟨a,c,d,rfl,⟨b P,b R,b T⟩,b j⟩
theorem wP(n:cd W w Q k S i):Calls h 140 #[g (E (u w 0 J))] W λB w'=>∃y j,B=q (t #[F K y,F K j])/\(Fit y/\Fit j)/\eE W w' w Q (jY k) S i (λx=>x=(y,j)):=by
 have p:G No W (W.alloc (m #[F K 0,F K 0] 36)):=(G.refl _ _).alloc _;have A:=l (n.alloc (m #[F K 0,F K 0] 36));have e:=X.new W #[F K 0,F K 0] 36;have e:=l e;have H:W.heap.size≠w:=by
  obtain⟨T,j,R,_⟩:=n.e;have:=R.lt;omega
 have O:W.heap.size≠Q:=by have:=n.lt;omega
 have p:=l p;clear n;go_enter func140,ntmps140;go_wp2_with fail;refine(lP (b A)).mono ?_;rintro B c ⟨a,rfl,N,r⟩;have d:=r.1.e (b e) H;have Y:c.cell? (u W.heap.size 0 J)=E (F K 0):=d.T 0;have Z:c.cell? (u W.heap.size 1 J)=E (F K 0):=d.T 1;have ad:=d.aC;have ae:=d.lt;obtain⟨aa,ab⟩:=N;have s:Fit (wrap64 (a.tdiv 6+1))/\Fit (wrap64 (a.tmod 6+1)):=by unfold wrap64;omega
 have o:eE W ((c.setCell (u W.heap.size 0 J) (F K (wrap64 (a.tdiv 6+1)))).setCell (u W.heap.size 1 J) (F K (wrap64 (a.tmod 6+1)))) w Q (jY k) S i (λx=>x=(wrap64 (a.tdiv 6+1),wrap64 (a.tmod 6+1))):=by
  have P:G (λv=>v=W.heap.size) c ((c.setCell (u W.heap.size 0 J) (F K (wrap64 (a.tdiv 6+1)))).setCell (u W.heap.size 1 J) (F K (wrap64 (a.tmod 6+1)))):=((G.refl (λv=>v=W.heap.size) c).setCell (p:=u W.heap.size 0 J) (.inl rfl) _).setCell (p:=u W.heap.size 1 J) (.inl rfl) _
  exact((r.ret (y:=λa=>(wrap64 (a.tdiv 6+1),wrap64 (a.tmod 6+1))) (g:=λx=>x=(wrap64 (a.tdiv 6+1),wrap64 (a.tmod 6+1))) rfl).fresh (b p) P H O (cz _))
 have z:=(d.set 0 (F K (wrap64 (a.tdiv 6+1)))).set 1 (F K (wrap64 (a.tmod 6+1)));have d0:((c.setCell (u W.heap.size 0 J) (F K (wrap64 (a.tdiv 6+1)))).setCell (u W.heap.size 1 J) (F K (wrap64 (a.tmod 6+1)))).cell? (u W.heap.size 0 J)=E (F K (wrap64 (a.tdiv 6+1))):=z.T 0
 have d1:((c.setCell (u W.heap.size 0 J) (F K (wrap64 (a.tdiv 6+1)))).setCell (u W.heap.size 1 J) (F K (wrap64 (a.tmod 6+1)))).cell? (u W.heap.size 1 J)=E (F K (wrap64 (a.tmod 6+1))):=z.T 1;have I:=l d0;have M:=l d1;have o:=l o;have s:=l s;clear r A e d0 d1;go_wp2_with fail;have d0:=b I;have d1:=b M;refine cN (by simp[results,results140,go_sem,d0,d1];try rfl) rfl ?_;exact⟨_,_,rfl,b s,b o⟩
def iu(e:Int)(d:List Int):Option (z×List Int):=ba (jY d) λc a=>ba (cH a 0 0) λb a=>ba (if b.tdiv 4=3 then E (0,a) else cH a 0 0) λi a=>ba (if b.tdiv 4=1 then cH a 0 0 else E (0,a)) λj a=>E (⟨c.1,c.2,b.tdiv 4,i,b.tmod 4,if b.tdiv 4=1 then wrap64 (e+j) else 0⟩,a)
def eS(a:z):List V:=[F K a.row,F K a.ae,F K a.st,F K a.pa,F K a.cl,F K a.un]
def Nc(a:z):Prop:=(Fit a.row/\Fit a.ae)/\Fit a.st/\Fit a.pa/\Fit a.cl/\Fit a.un
def dM{e:Type}(w':U)(d b:Nat)(j:Option (e×List Int))(c:Int)(k:Bool)(i:e->Prop):Prop:=match j with
 |some (l,a)=>i l/\cd w' d b a c k
 |none=>∃a,cd w' d b a c true
theorem dM.torn{w':U}{c:Option (B×List Int)}{d:B->Prop}(b:dM w' w Q c S true d):∃a,cd w' w Q a S true:=by
 obtain _|⟨e,a⟩:=c
 .exact b
 .exact⟨a,b.2⟩
theorem dM.bind{β:Type}{p:Option (B×List Int)}{k:B}(a:dM W w Q p S i (λx=>x=k)):∃j t1,cd W w Q j S t1/\∀(c:B->List Int->Option (β×List Int)) (w2:U) (b:β->Prop),dM w2 w Q (c k j) S t1 b->dM w2 w Q (ba p c) S i b:=by
 obtain _|⟨x,e⟩:=p
 .obtain⟨e,a⟩:=a;exact⟨e,true,a,λc w2 b d=>d.torn⟩
 .obtain⟨rfl,a⟩:=a;exact⟨e,i,a,λc w2 b d=>d⟩
theorem zx:Fit 0:=by decide
theorem Nd:Fit 3:=by decide
theorem Nf(c:Fit S):Fit (S.tdiv 4)/\Fit (S.tmod 4):=by
 obtain a|a:=Int.le_total 0 S
 .rw[wv a,ux a];omega
 .obtain⟨b,rfl⟩:∃b,S= -b:=⟨-S,by omega⟩;rw[Int.neg_tdiv,Int.neg_tmod,wv (by omega),ux (by omega)];omega
theorem cd.nJ(a:cd W w Q k S i):w<W.heap.size:=by
 obtain⟨c,d,b,_⟩:=a.e;exact b.lt
structure zy (w W wx:U) (rb gb b sb:Nat) (r c pa cl now:Int) (aj:List Int) (t3:Bool) (u:Int):Prop where
 box:X wx b #[F K r,F K c,F K 1,F K pa,F K cl,F K (wrap64 (now+u))] 202
 res:X wx sb #[F K 0,F K 0,F K 0,F K 0,F K 0,F K 0] 202
 mod:G (· =rb) w wx
 rd:∃l4 t4,cd wx rb gb l4 now t4/\∀(q:Int->List Int->Option (z×List Int)) (w2:U) (g:z->Prop),dM w2 rb gb (q u l4) now t4 g->dM w2 rb gb (ba (cH aj 0 0) q) now t3 g
theorem Ng{a:U}{n d e:Int}{t3:Bool}(b:eE N a w Q (cH k 0 0) d t3 (λx=>x=e))(s:X N P #[F K S,F K o,F K 1,F K j,F K n,F K 0] 202)(y:X N p #[F K 0,F K 0,F K 0,F K 0,F K 0,F K 0] 202)(v:G (· =w) W N)(A:P≠w/\P≠Q/\p≠w/\p≠P/\W.heap.size<=P){x:Int}(B:x=wrap64 (d+e)):
  zy W N (a.setCell (u P 5 J) (F K x)) w Q P p S o j n d k t3 e:=by
 subst B;obtain⟨r,M,O,R,aa⟩:=A;have l:G (λc=>c=P) a (a.setCell (u P 5 J) (F K (wrap64 (d+e)))):=(G.refl (λc=>c=P) a).setCell (p:=u P 5 J) (.inl rfl) _;obtain⟨I,t4,T,H⟩:=dM.bind (β:=z) b.2;exact⟨(b.1.e s r).set 5 _,l.e (b.1.e y O) R,(v.trans b.1).trans' l (λc Y Z=>by omega),I,t4,T.mod l (λi=>r i.symm) (λi=>M i.symm),H⟩
theorem Nh{l c:Int}{t3:Bool}(H:cd N w Q k c t3)(r:X N P #[F K S,F K o,F K 1,F K j,F K l,F K 0] 202)(B:X N p #[F K 0,F K 0,F K 0,F K 0,F K 0,F K 0] 202)(A:G (· =w) W N)(v:P≠w/\P≠Q/\p≠w/\p≠P/\W.heap.size<=P)(i:U)(s:G No N i):Calls h 131 #[g (E (u w 0 J))] i λn b=>∃a,n=q (F K a)/\Fit a/\b.cell? (u w 1 J)=E (F K c)/\(b.cell? (u P 5 J)=E (F K 0)/\b.frozen? (u P 5 J)=false/\P<b.heap.size)/\Hid (∀x,x=wrap64 (c+a)->zy W N (b.setCell (u P 5 J) (F K x)) w Q P p S o j l c k t3 a):=by
 refine(lP (H.mod s (λx=>x) (λx=>x))).mono ?_;rintro n b ⟨a,rfl,y,hu⟩;have e:=hu.beside s;obtain⟨R,t4,O,_⟩:=dM.bind (β:=z) e.2;obtain⟨_,_,M,_⟩:=O.e;have d:=e.1.e r v.1;exact⟨a,rfl,y,M.T 1,⟨d.T 5,d.aC 5,d.lt⟩,λx I=>Ng e r B A v I⟩
set_option maxHeartbeats 16000000 in theorem zA{r c st pa cl un:Int}(d:X W w #[F K 0,F K 0,F K 0,F K 0,F K 0,F K 0] 202):G (λb=>b=w) W ((((((W.setCell (u w 0 J) (F K r)).setCell (u w 1 J) (F K c)).setCell (u w 2 J) (F K st)).setCell (u w 3 J) (F K pa)).setCell (u w 4 J) (F K cl)).setCell (u w 5 J) (F K un))/\((((((W.setCell (u w 0 J) (F K r)).setCell (u w 1 J) (F K c)).setCell (u w 2 J) (F K st)).setCell (u w 3 J) (F K pa)).setCell (u w 4 J) (F K cl)).setCell (u w 5 J) (F K un)).cell? (u w 0 J)=E (F K r)/\((((((W.setCell (u w 0 J) (F K r)).setCell (u w 1 J) (F K c)).setCell (u w 2 J) (F K st)).setCell (u w 3 J) (F K pa)).setCell (u w 4 J) (F K cl)).setCell (u w 5 J) (F K un)).cell? (u w 1 J)=E (F K c)/\((((((W.setCell (u w 0 J) (F K r)).setCell (u w 1 J) (F K c)).setCell (u w 2 J) (F K st)).setCell (u w 3 J) (F K pa)).setCell (u w 4 J) (F K cl)).setCell (u w 5 J) (F K un)).cell? (u w 2 J)=E (F K st)/\((((((W.setCell (u w 0 J) (F K r)).setCell (u w 1 J) (F K c)).setCell (u w 2 J) (F K st)).setCell (u w 3 J) (F K pa)).setCell (u w 4 J) (F K cl)).setCell (u w 5 J) (F K un)).cell? (u w 3 J)=E (F K pa)/\((((((W.setCell (u w 0 J) (F K r)).setCell (u w 1 J) (F K c)).setCell (u w 2 J) (F K st)).setCell (u w 3 J) (F K pa)).setCell (u w 4 J) (F K cl)).setCell (u w 5 J) (F K un)).cell? (u w 4 J)=E (F K cl)/\((((((W.setCell (u w 0 J) (F K r)).setCell (u w 1 J) (F K c)).setCell (u w 2 J) (F K st)).setCell (u w 3 J) (F K pa)).setCell (u w 4 J) (F K cl)).setCell (u w 5 J) (F K un)).cell? (u w 5 J)=E (F K un):=by
 have a:=((((((d.set 0 (F K r)).set 1 (F K c)).set 2 (F K st)).set 3 (F K pa)).set 4 (F K cl)).set 5 (F K un));refine⟨?_,a.T 0,a.T 1,a.T 2,a.T 3,a.T 4,a.T 5⟩;exact((((((G.refl (λb=>b=w) W).setCell (p:=u w 0 J) (.inl rfl) _).setCell (p:=u w 1 J) (.inl rfl) _).setCell (p:=u w 2 J) (.inl rfl) _).setCell (p:=u w 3 J) (.inl rfl) _).setCell (p:=u w 4 J) (.inl rfl) _).setCell (p:=u w 5 J) (.inl rfl) _
theorem DN(ad:cd W w Q k S i):Calls h 139 #[g (E (u w 0 J))] W λA w'=>∃aQ,A=q (t (eS aQ).toArray)/\Nc aQ/\eE W w' w Q (iu S k) S i (λx=>x=aQ):=by
 have aN:G No W (W.alloc (m #[F K 0,F K 0,F K 0,F K 0,F K 0,F K 0] 202)):=(G.refl _ _).alloc _;have a1:=l (ad.alloc (m #[F K 0,F K 0,F K 0,F K 0,F K 0,F K 0] 202));have aS:=l (X.new W #[F K 0,F K 0,F K 0,F K 0,F K 0,F K 0] 202);have aD:W.heap.size≠w:=by have:=ad.nJ;omega
 have bJ:W.heap.size≠Q:=by have:=ad.lt;omega
 have aN:=l aN;have bL:=ad.lt;have bP:=ad.nJ;clear ad;go_enter func139,ntmps139;go_wp2_with fail;refine(wP (b a1)).mono ?_;rintro A a ⟨p,o,rfl,a9,ay⟩;have aT:=l (ay.1.e (b aS) aD);obtain⟨bT,t1,bl,bc⟩:=dM.bind (β:=z) ay.2;have bw:=ay.1.size;rw[bW] at bw;have aB:G No a (a.alloc (m #[F K p,F K o,F K 0,F K 0,F K 0,F K 0] 202)):=(G.refl _ _).alloc _
 have a7:=l (bl.alloc (m #[F K p,F K o,F K 0,F K 0,F K 0,F K 0] 202));have aZ:=l (X.new a #[F K p,F K o,F K 0,F K 0,F K 0,F K 0] 202);have aU:=l (aB.e (b aT) (λx=>x));have aK:=l bc;have bp:=l (((b aN).mono (S':=(· =w)) λ_ _ x=>x.elim).trans ay.1);have aB:=l aB;have aH:=l a9;clear ay bl bc a9 a1 aS aT;go_wp2_with fail;refine(lP (b a7)).mono ?_;rintro A j ⟨bi,rfl,fn,ae⟩
 obtain⟨bA,t2,bm,bd⟩:=dM.bind (β:=z) ae.2;have a4:=l ((b bp).trans (((b aB).mono (S':=(· =w)) λ_ _ x=>x.elim).trans ae.1));have bx:=ae.1.size;rw[bW] at bx;have ax:a.heap.size≠w:=by omega
 have aO:a.heap.size≠Q:=by omega
 have P:=ae.1.e (b aZ) ax;have aW:=ae.1.e (b aU) aD;obtain⟨n,aE⟩:∃n,bi.tdiv 4=n:=⟨_,rfl⟩;obtain⟨c,aC⟩:∃c,bi.tmod 4=c:=⟨_,rfl⟩;have bt:Fit n/\Fit c:=by
  have f1:=Nf fn;rw[aE,aC] at f1;exact f1
 have aF:G (λB=>B=a.heap.size) j ((j.setCell (u a.heap.size 2 J) (F K n)).setCell (u a.heap.size 4 J) (F K c)):=((G.refl (λB=>B=a.heap.size) j).setCell (p:=u a.heap.size 2 J) (.inl rfl) _).setCell (p:=u a.heap.size 4 J) (.inl rfl) _;have a0:=(P.set 2 (F K n)).set 4 (F K c);have aX:=aF.e aW (by omega);have a8:=bm.mod aF (λA=>ax A.symm) (λA=>aO A.symm)
 have bU:j.cell? (u a.heap.size 2 J)=E (F K 0):=P.T 2;have bV:j.cell? (u a.heap.size 4 J)=E (F K 0):=P.T 4;have bX:=P.aC;have bM:=P.lt;have aL:=l bd;have a3:=l aF;have v:=l a0;have r:=l aX;have aI:=l a8;have lV:=l bt;clear ae bm bd fn a7 aZ aU P aW aF a0 aX a8;have bQ:W.heap.size<a.heap.size:=by omega
 have bR:a.heap.size<j.heap.size:=by omega
 by_cases aR:n=3
 .subst aR;obtain⟨d0,d1,d2,d3,d4,d5,d6⟩:=zA (r:=p) (c:=o) (st:=3) (pa:=0) (cl:=c) (un:=0) (b r);have N:=((b a4).trans' (b a3) (λB az aA=>by omega)).trans' d0 (λB az aA=>by omega)
  have O:dM ((((((((j.setCell (u a.heap.size 2 J) (F K 3)).setCell (u a.heap.size 4 J) (F K c)).setCell (u W.heap.size 0 J) (F K p)).setCell (u W.heap.size 1 J) (F K o)).setCell (u W.heap.size 2 J) (F K 3)).setCell (u W.heap.size 3 J) (F K 0)).setCell (u W.heap.size 4 J) (F K c)).setCell (u W.heap.size 5 J) (F K 0)) w Q (iu S k) S i (λx=>x=⟨p,o,3,0,c,0⟩):=by
   refine(b aK) _ _ _ ((b aL) _ _ _ ?_);rw[aE,aC];show dM _ w Q (E (_,bA)) S t2 _;exact⟨rfl,(b aI).mod d0 (by omega) (by omega)⟩
  have av:=l (show eE W _ w Q (iu S k) S i (λx=>x=⟨p,o,3,0,c,0⟩) from⟨N,O⟩);have aw:=l (gE d1 (gE d2 (gE d3 (gE d4 (gE d5 d6)))));clear d0 d1 d2 d3 d4 d5 d6 N O;have R:((j.setCell (u a.heap.size 2 J) (F K 3)).setCell (u a.heap.size 4 J) (F K c)).cell? (u a.heap.size 0 J)=E (F K p):=(b v).T 0
  have T:((j.setCell (u a.heap.size 2 J) (F K 3)).setCell (u a.heap.size 4 J) (F K c)).cell? (u a.heap.size 1 J)=E (F K o):=(b v).T 1;have Y:((j.setCell (u a.heap.size 2 J) (F K 3)).setCell (u a.heap.size 4 J) (F K c)).cell? (u a.heap.size 2 J)=E (F K 3):=(b v).T 2;have Z:((j.setCell (u a.heap.size 2 J) (F K 3)).setCell (u a.heap.size 4 J) (F K c)).cell? (u a.heap.size 3 J)=E (F K 0):=(b v).T 3
  have aa:((j.setCell (u a.heap.size 2 J) (F K 3)).setCell (u a.heap.size 4 J) (F K c)).cell? (u a.heap.size 4 J)=E (F K c):=(b v).T 4;have ab:((j.setCell (u a.heap.size 2 J) (F K 3)).setCell (u a.heap.size 4 J) (F K c)).cell? (u a.heap.size 5 J)=E (F K 0):=(b v).T 5
  have ah:((j.setCell (u a.heap.size 2 J) (F K 3)).setCell (u a.heap.size 4 J) (F K c)).cell? (u W.heap.size 0 J)=E (F K 0):=(b r).T 0;have ai:((j.setCell (u a.heap.size 2 J) (F K 3)).setCell (u a.heap.size 4 J) (F K c)).cell? (u W.heap.size 1 J)=E (F K 0):=(b r).T 1
  have aj:((j.setCell (u a.heap.size 2 J) (F K 3)).setCell (u a.heap.size 4 J) (F K c)).cell? (u W.heap.size 2 J)=E (F K 0):=(b r).T 2;have ak:((j.setCell (u a.heap.size 2 J) (F K 3)).setCell (u a.heap.size 4 J) (F K c)).cell? (u W.heap.size 3 J)=E (F K 0):=(b r).T 3
  have am:((j.setCell (u a.heap.size 2 J) (F K 3)).setCell (u a.heap.size 4 J) (F K c)).cell? (u W.heap.size 4 J)=E (F K 0):=(b r).T 4;have ao:((j.setCell (u a.heap.size 2 J) (F K 3)).setCell (u a.heap.size 4 J) (F K c)).cell? (u W.heap.size 5 J)=E (F K 0):=(b r).T 5;have ap:=(b r).aC;have ar:=(b r).lt;go_wp2_with fail;obtain⟨d1,d2,d3,d4,d5,d6⟩:=b aw
  refine cN (by simp[results,results139,go_sem,d1,d2,d3,d4,d5,d6];try rfl) rfl ?_;exact⟨⟨p,o,3,0,c,0⟩,rfl,⟨b aH,Nd,zx,(b lV).2,zx⟩,b av⟩
 .have R:((j.setCell (u a.heap.size 2 J) (F K n)).setCell (u a.heap.size 4 J) (F K c)).cell? (u a.heap.size 0 J)=E (F K p):=(b v).T 0;have T:((j.setCell (u a.heap.size 2 J) (F K n)).setCell (u a.heap.size 4 J) (F K c)).cell? (u a.heap.size 1 J)=E (F K o):=(b v).T 1;have Y:((j.setCell (u a.heap.size 2 J) (F K n)).setCell (u a.heap.size 4 J) (F K c)).cell? (u a.heap.size 2 J)=E (F K n):=(b v).T 2
  have Z:((j.setCell (u a.heap.size 2 J) (F K n)).setCell (u a.heap.size 4 J) (F K c)).cell? (u a.heap.size 3 J)=E (F K 0):=(b v).T 3;have aa:((j.setCell (u a.heap.size 2 J) (F K n)).setCell (u a.heap.size 4 J) (F K c)).cell? (u a.heap.size 4 J)=E (F K c):=(b v).T 4
  have ab:((j.setCell (u a.heap.size 2 J) (F K n)).setCell (u a.heap.size 4 J) (F K c)).cell? (u a.heap.size 5 J)=E (F K 0):=(b v).T 5;have ah:((j.setCell (u a.heap.size 2 J) (F K n)).setCell (u a.heap.size 4 J) (F K c)).cell? (u W.heap.size 0 J)=E (F K 0):=(b r).T 0
  have ai:((j.setCell (u a.heap.size 2 J) (F K n)).setCell (u a.heap.size 4 J) (F K c)).cell? (u W.heap.size 1 J)=E (F K 0):=(b r).T 1;have aj:((j.setCell (u a.heap.size 2 J) (F K n)).setCell (u a.heap.size 4 J) (F K c)).cell? (u W.heap.size 2 J)=E (F K 0):=(b r).T 2
  have ak:((j.setCell (u a.heap.size 2 J) (F K n)).setCell (u a.heap.size 4 J) (F K c)).cell? (u W.heap.size 3 J)=E (F K 0):=(b r).T 3;have am:((j.setCell (u a.heap.size 2 J) (F K n)).setCell (u a.heap.size 4 J) (F K c)).cell? (u W.heap.size 4 J)=E (F K 0):=(b r).T 4
  have ao:((j.setCell (u a.heap.size 2 J) (F K n)).setCell (u a.heap.size 4 J) (F K c)).cell? (u W.heap.size 5 J)=E (F K 0):=(b r).T 5;have ap:=(b r).aC;have ar:=(b r).lt;go_wp2_with fail;refine(lP (b aI)).mono ?_;rintro A e ⟨d,rfl,ba,af⟩;have au:=af.1.e (b v) ax;have aY:=af.1.e (b r) aD;have bz:=af.1.size;simp only[ny] at bz;obtain⟨bh,t3,bn,bf⟩:=dM.bind (β:=z) af.2
  have br:=l (((b a4).trans' (b a3) (λB az aA=>by omega)).trans af.1);have aG:G (λB=>B=a.heap.size) e (e.setCell (u a.heap.size 3 J) (F K d)):=(G.refl (λB=>B=a.heap.size) e).setCell (p:=u a.heap.size 3 J) (.inl rfl) _;have b0:e.cell? (u a.heap.size 3 J)=E (F K 0):=au.T 3;have b1:=au.aC;have b2:=au.lt;have y:=l (au.set 3 (F K d));have s:=l (aG.e aY (by omega))
  have aJ:=l (bn.mod aG (λA=>ax A.symm) (λA=>aO A.symm));have a5:=l ((b br).trans' aG (λB az aA=>by omega));have a2:=l bf;have nK:=l ba;have bS:a.heap.size<e.heap.size:=by omega
  clear af au aY bn bf ba aG R T Y Z aa ab ah ai aj ak am ao ap ar aI v r;by_cases bk:n=1
  .subst bk;have R:(e.setCell (u a.heap.size 3 J) (F K d)).cell? (u a.heap.size 0 J)=E (F K p):=(b y).T 0;have T:(e.setCell (u a.heap.size 3 J) (F K d)).cell? (u a.heap.size 1 J)=E (F K o):=(b y).T 1;have Y:(e.setCell (u a.heap.size 3 J) (F K d)).cell? (u a.heap.size 2 J)=E (F K 1):=(b y).T 2;have Z:(e.setCell (u a.heap.size 3 J) (F K d)).cell? (u a.heap.size 3 J)=E (F K d):=(b y).T 3
   have aa:(e.setCell (u a.heap.size 3 J) (F K d)).cell? (u a.heap.size 4 J)=E (F K c):=(b y).T 4;have ab:(e.setCell (u a.heap.size 3 J) (F K d)).cell? (u a.heap.size 5 J)=E (F K 0):=(b y).T 5;have ah:(e.setCell (u a.heap.size 3 J) (F K d)).cell? (u W.heap.size 0 J)=E (F K 0):=(b s).T 0;have ai:(e.setCell (u a.heap.size 3 J) (F K d)).cell? (u W.heap.size 1 J)=E (F K 0):=(b s).T 1
   have aj:(e.setCell (u a.heap.size 3 J) (F K d)).cell? (u W.heap.size 2 J)=E (F K 0):=(b s).T 2;have ak:(e.setCell (u a.heap.size 3 J) (F K d)).cell? (u W.heap.size 3 J)=E (F K 0):=(b s).T 3;have am:(e.setCell (u a.heap.size 3 J) (F K d)).cell? (u W.heap.size 4 J)=E (F K 0):=(b s).T 4;have ao:(e.setCell (u a.heap.size 3 J) (F K d)).cell? (u W.heap.size 5 J)=E (F K 0):=(b s).T 5
   have ap:=(b s).aC;have ar:=(b s).lt;have bs:(e.setCell (u a.heap.size 3 J) (F K d)).cell? (u w 1 J)=E (F K S):=by
    obtain⟨_,_,bC,_⟩:=(b aJ).e;exact bC.T 1
   have bo:=l (Nh (b aJ) (b y) (b s) (b a5) ⟨ax,aO,aD,by omega,by omega⟩);go_upto_region 7 with fail;go_cut [] from 30 to 38 (λbE=>∃ag,Fit ag/\Hid (zy W (e.setCell (u a.heap.size 3 J) (F K d)) bE w Q a.heap.size W.heap.size p o d c S bh t3 ag))
   case first=>
    generalize (e.setCell (u a.heap.size 3 J) (F K d))=bY at *;go_region_with (go_at_call 131;refine((b bo) _ ?_).mono ?_;(first|exact G.refl _ _|exact(G.refl _ _).drew|exact(G.refl _ _).drewN _|exact((G.refl _ _).drewN _).drew);rintro A bZ ⟨ag,rfl,bb,bO,⟨bF,bH,bI⟩,bv⟩)
    all_goals (go_wp2_with fail;go_meet;exact⟨ag,bb,bv _ (by rw[lF];unfold wrap64;rfl)⟩)
   case rest=>
    obtain⟨ag,bb,hF⟩:=hcut;clear R T Y Z aa ab ah ai aj ak am ao ap ar bs;obtain⟨M,aP⟩:∃M,wrap64 (S+ag)=M:=⟨_,rfl⟩;have bu:Fit M:=by rw[<-aP];unfold wrap64;omega
    obtain⟨bB,t4,bq,bg⟩:=(b hF).rd;have I:=(b hF).box;rw[aP] at I;have I:=l I;have H:=l (b hF).res;have a6:=(b hF).mod;obtain⟨d0,d1,d2,d3,d4,d5,d6⟩:=zA (r:=p) (c:=o) (st:=1) (pa:=d) (cl:=c) (un:=M) (b H);have N:=a6.trans' d0 (λB az aA=>by omega)
    have O:dM ((((((wc.setCell (u W.heap.size 0 J) (F K p)).setCell (u W.heap.size 1 J) (F K o)).setCell (u W.heap.size 2 J) (F K 1)).setCell (u W.heap.size 3 J) (F K d)).setCell (u W.heap.size 4 J) (F K c)).setCell (u W.heap.size 5 J) (F K M)) w Q (iu S k) S i (λx=>x=⟨p,o,1,d,c,M⟩):=by
     refine(b aK) _ _ _ ((b aL) _ _ _ ?_);simp only[aE,aC,f aR,iP];refine(b a2) _ _ _ (bg _ _ _ ?_);rw[aP];show dM _ w Q (E (_,bB)) S t4 _;exact⟨rfl,bq.mod d0 (by omega) (by omega)⟩
    have av:=l (show eE W _ w Q (iu S k) S i (λx=>x=⟨p,o,1,d,c,M⟩) from⟨N,O⟩);have aw:=l (gE d1 (gE d2 (gE d3 (gE d4 (gE d5 d6)))));clear d0 d1 d2 d3 d4 d5 d6 N O bq bg a6;have R:wc.cell? (u a.heap.size 0 J)=E (F K p):=(b I).T 0;have T:wc.cell? (u a.heap.size 1 J)=E (F K o):=(b I).T 1;have Y:wc.cell? (u a.heap.size 2 J)=E (F K 1):=(b I).T 2
    have Z:wc.cell? (u a.heap.size 3 J)=E (F K d):=(b I).T 3;have aa:wc.cell? (u a.heap.size 4 J)=E (F K c):=(b I).T 4;have ab:wc.cell? (u a.heap.size 5 J)=E (F K M):=(b I).T 5;have ah:wc.cell? (u W.heap.size 0 J)=E (F K 0):=(b H).T 0;have ai:wc.cell? (u W.heap.size 1 J)=E (F K 0):=(b H).T 1;have aj:wc.cell? (u W.heap.size 2 J)=E (F K 0):=(b H).T 2
    have ak:wc.cell? (u W.heap.size 3 J)=E (F K 0):=(b H).T 3;have am:wc.cell? (u W.heap.size 4 J)=E (F K 0):=(b H).T 4;have ao:wc.cell? (u W.heap.size 5 J)=E (F K 0):=(b H).T 5;have ap:=(b H).aC;have ar:=(b H).lt;go_wp2_with fail;obtain⟨d1,d2,d3,d4,d5,d6⟩:=b aw;refine cN (by simp[results,results139,go_sem,d1,d2,d3,d4,d5,d6];try rfl) rfl ?_
    exact⟨⟨p,o,1,d,c,M⟩,rfl,⟨b aH,(b lV).1,b nK,(b lV).2,bu⟩,b av⟩
  .obtain⟨d0,d1,d2,d3,d4,d5,d6⟩:=zA (r:=p) (c:=o) (st:=n) (pa:=d) (cl:=c) (un:=0) (b s);have N:=(b a5).trans' d0 (λB az aA=>by omega)
   have O:dM (((((((e.setCell (u a.heap.size 3 J) (F K d)).setCell (u W.heap.size 0 J) (F K p)).setCell (u W.heap.size 1 J) (F K o)).setCell (u W.heap.size 2 J) (F K n)).setCell (u W.heap.size 3 J) (F K d)).setCell (u W.heap.size 4 J) (F K c)).setCell (u W.heap.size 5 J) (F K 0)) w Q (iu S k) S i (λx=>x=⟨p,o,n,d,c,0⟩):=by
    refine(b aK) _ _ _ ((b aL) _ _ _ ?_);simp only[aE,aC,f aR,f bk];refine(b a2) _ _ _ ?_;show dM _ w Q (E (_,bh)) S t3 _;exact⟨rfl,(b aJ).mod d0 (by omega) (by omega)⟩
   have av:=l (show eE W _ w Q (iu S k) S i (λx=>x=⟨p,o,n,d,c,0⟩) from⟨N,O⟩);have aw:=l (gE d1 (gE d2 (gE d3 (gE d4 (gE d5 d6)))));clear d0 d1 d2 d3 d4 d5 d6 N O;have R:(e.setCell (u a.heap.size 3 J) (F K d)).cell? (u a.heap.size 0 J)=E (F K p):=(b y).T 0;have T:(e.setCell (u a.heap.size 3 J) (F K d)).cell? (u a.heap.size 1 J)=E (F K o):=(b y).T 1
   have Y:(e.setCell (u a.heap.size 3 J) (F K d)).cell? (u a.heap.size 2 J)=E (F K n):=(b y).T 2;have Z:(e.setCell (u a.heap.size 3 J) (F K d)).cell? (u a.heap.size 3 J)=E (F K d):=(b y).T 3;have aa:(e.setCell (u a.heap.size 3 J) (F K d)).cell? (u a.heap.size 4 J)=E (F K c):=(b y).T 4;have ab:(e.setCell (u a.heap.size 3 J) (F K d)).cell? (u a.heap.size 5 J)=E (F K 0):=(b y).T 5
   have ah:(e.setCell (u a.heap.size 3 J) (F K d)).cell? (u W.heap.size 0 J)=E (F K 0):=(b s).T 0;have ai:(e.setCell (u a.heap.size 3 J) (F K d)).cell? (u W.heap.size 1 J)=E (F K 0):=(b s).T 1;have aj:(e.setCell (u a.heap.size 3 J) (F K d)).cell? (u W.heap.size 2 J)=E (F K 0):=(b s).T 2;have ak:(e.setCell (u a.heap.size 3 J) (F K d)).cell? (u W.heap.size 3 J)=E (F K 0):=(b s).T 3
   have am:(e.setCell (u a.heap.size 3 J) (F K d)).cell? (u W.heap.size 4 J)=E (F K 0):=(b s).T 4;have ao:(e.setCell (u a.heap.size 3 J) (F K d)).cell? (u W.heap.size 5 J)=E (F K 0):=(b s).T 5;have ap:=(b s).aC;have ar:=(b s).lt;go_wp2_with fail;obtain⟨d1,d2,d3,d4,d5,d6⟩:=b aw;refine cN (by simp[results,results139,go_sem,d1,d2,d3,d4,d5,d6];try rfl) rfl ?_
   exact⟨⟨p,o,n,d,c,0⟩,rfl,⟨b aH,(b lV).1,b nK,(b lV).2,zx⟩,b av⟩
def pY:Nat->List Int->List Int->Option (List Int×List Int)
 |0,b,c=>E (b,c)
 |d+1,b,c=>ba (cH c 0 0) λa e=>pY d (b++[a]) e
def oU(b:Int×Int×Int)(a:List Int):O:=⟨b.1,b.2.1,b.2.2,a.getD 0 0,a.getD 1 0,a.getD 2 0,a.getD 3 0,0⟩
def nL(b:List Int):Option (O×List Int):=ba (pX b) λc a=>ba (pY 4 [] a) λd a=>E (oU c d,a)
def oV(p:O):List V:=[F K p.rows,F K p.y,F K p.Z,F K p.af,F K p.ag,F K p.ai,F K p.aj]
def DO(p:O):Prop:=(Fit p.rows/\Fit p.y/\Fit p.Z)/\Fit p.af/\Fit p.ag/\Fit p.ai/\Fit p.aj
structure uG (w w1 wr:U) (rb gb b sb:Nat) (s:Int×Int×Int) (ag:List Int) (t1:Bool) (now:Int) (j:Nat) (xs:List Int):Prop where
 len:xs.length=j
 fit:∀x∈xs,Fit x
 box:X wr b (oV (oU s xs)).toArray 39
 res:X wr sb #[F K 0,F K 0,F K 0,F K 0,F K 0,F K 0,F K 0] 39
 mod:G (· =rb) w wr
 Ni:w1.heap.size<=wr.heap.size
 rd:∃ai t2,cd wr rb gb ai now t2/\∀(w2:U) (g:List Int->Prop),dM w2 rb gb (pY (4 - j) xs ai) now t2 g->dM w2 rb gb (pY 4 [] ag) now t1 g
theorem uG.next{wr w2:U}{o:Int×Int×Int}{t1:Bool}{j:Nat}(c:uG W N wr w Q P p o k t1 S j I)(af:j<4)(R:P≠w/\P≠Q/\p≠w/\p≠P/\W.heap.size<=P){t2:Bool}{a:Int}(s:∀(w2:U) (i:List Int->Prop),dM w2 w Q (pY (4 - j) I v) S t2 i->dM w2 w Q (pY 4 [] k) S t1 i)(d:eE wr w2 w Q (cH v 0 0) S t2 (λx=>x=a))(H:Fit a):uG W N (w2.setCell ⟨P,3+j,J⟩ (F K a)) w Q P p o k t1 S (j+1) (I++[a]):=by
 obtain⟨y,Z,aa,ab,ag⟩:=R;have r:G (λl=>l=P) w2 (w2.setCell ⟨P,3+j,J⟩ (F K a)):=(G.refl (λl=>l=P) w2).setCell (p:=⟨P,3+j,J⟩) (.inl rfl) _;obtain⟨Y,t3,A,X⟩:=dM.bind (β:=List Int) d.2;have e:=c.len;refine⟨by simp;omega,λx T=>?_,?_,r.e (d.1.e c.res aa) ab,(c.mod.trans d.1).trans' r (λl s e=>by omega),by have:=c.Ni;have:=d.1.size;simp;omega,Y,t3,A.mod r (λb=>y b.symm) (λb=>Z b.symm),λB i M=>s B i ?_⟩
 .obtain n|n:=jR.1 T
  .exact c.fit x n
  .simp at n;subst n;exact H
 .have:=(d.1.e c.box y).set (3+j) (F K a);have b:(oV (oU o (I++[a]))).toArray=(oV (oU o I)).toArray.setIfInBounds (3+j) (F K a):=by
   have O:j=0\/j=1\/j=2\/j=3:=by omega
   obtain b|b|b|b:=O<;>subst b
   .obtain rfl:I=[]:=iC e;rfl
   .obtain⟨z,rfl⟩:=List.length_eq_one_iff.1 e;rfl
   .obtain _|⟨z,_|⟨ad,_|⟨ae,I⟩⟩⟩:=I<;>simp at e;rfl
   .obtain _|⟨z,_|⟨ad,_|⟨ae,_|⟨A,I⟩⟩⟩⟩:=I<;>simp at e;rfl
  rw[b];exact this
 .rw[show 4 - j=(4 - (j+1))+1 by omega];exact X _ _ _ M
theorem dM.ret{p:Option (B×List Int)}{n:B}{y:B->R}{g:R->Prop}(a:dM W w Q p S i (λx=>x=n))(c:g (y n)):dM W w Q (ba p λx b=>E (y x,b)) S i g:=by
 obtain _|⟨x,b⟩:=p
 .exact a
 .obtain⟨rfl,a⟩:=a;exact⟨c,a⟩
theorem Nj{r c f x0 x1 x2 x3:Int}(d:X W w #[F K 0,F K 0,F K 0,F K 0,F K 0,F K 0,F K 0] 39):G (λb=>b=w) W (((((((W.setCell (u w 0 J) (F K r)).setCell (u w 1 J) (F K c)).setCell (u w 2 J) (F K f)).setCell (u w 3 J) (F K x0)).setCell (u w 4 J) (F K x1)).setCell (u w 5 J) (F K x2)).setCell (u w 6 J) (F K x3))/\(((((((W.setCell (u w 0 J) (F K r)).setCell (u w 1 J) (F K c)).setCell (u w 2 J) (F K f)).setCell (u w 3 J) (F K x0)).setCell (u w 4 J) (F K x1)).setCell (u w 5 J) (F K x2)).setCell (u w 6 J) (F K x3)).cell? (u w 0 J)=E (F K r)/\(((((((W.setCell (u w 0 J) (F K r)).setCell (u w 1 J) (F K c)).setCell (u w 2 J) (F K f)).setCell (u w 3 J) (F K x0)).setCell (u w 4 J) (F K x1)).setCell (u w 5 J) (F K x2)).setCell (u w 6 J) (F K x3)).cell? (u w 1 J)=E (F K c)/\(((((((W.setCell (u w 0 J) (F K r)).setCell (u w 1 J) (F K c)).setCell (u w 2 J) (F K f)).setCell (u w 3 J) (F K x0)).setCell (u w 4 J) (F K x1)).setCell (u w 5 J) (F K x2)).setCell (u w 6 J) (F K x3)).cell? (u w 2 J)=E (F K f)/\(((((((W.setCell (u w 0 J) (F K r)).setCell (u w 1 J) (F K c)).setCell (u w 2 J) (F K f)).setCell (u w 3 J) (F K x0)).setCell (u w 4 J) (F K x1)).setCell (u w 5 J) (F K x2)).setCell (u w 6 J) (F K x3)).cell? (u w 3 J)=E (F K x0)/\(((((((W.setCell (u w 0 J) (F K r)).setCell (u w 1 J) (F K c)).setCell (u w 2 J) (F K f)).setCell (u w 3 J) (F K x0)).setCell (u w 4 J) (F K x1)).setCell (u w 5 J) (F K x2)).setCell (u w 6 J) (F K x3)).cell? (u w 4 J)=E (F K x1)/\(((((((W.setCell (u w 0 J) (F K r)).setCell (u w 1 J) (F K c)).setCell (u w 2 J) (F K f)).setCell (u w 3 J) (F K x0)).setCell (u w 4 J) (F K x1)).setCell (u w 5 J) (F K x2)).setCell (u w 6 J) (F K x3)).cell? (u w 5 J)=E (F K x2)/\(((((((W.setCell (u w 0 J) (F K r)).setCell (u w 1 J) (F K c)).setCell (u w 2 J) (F K f)).setCell (u w 3 J) (F K x0)).setCell (u w 4 J) (F K x1)).setCell (u w 5 J) (F K x2)).setCell (u w 6 J) (F K x3)).cell? (u w 6 J)=E (F K x3):=by
 have a:=(((((((d.set 0 (F K r)).set 1 (F K c)).set 2 (F K f)).set 3 (F K x0)).set 4 (F K x1)).set 5 (F K x2)).set 6 (F K x3))
 exact⟨((((((((G.refl (λb=>b=w) W).setCell (p:=u w 0 J) (.inl rfl) _).setCell (p:=u w 1 J) (.inl rfl) _).setCell (p:=u w 2 J) (.inl rfl) _).setCell (p:=u w 3 J) (.inl rfl) _).setCell (p:=u w 4 J) (.inl rfl) _).setCell (p:=u w 5 J) (.inl rfl) _).setCell (p:=u w 6 J) (.inl rfl) _),a.T 0,a.T 1,a.T 2,a.T 3,a.T 4,a.T 5,a.T 6⟩
theorem DP(M:cd W w Q k S i):Calls h 138 #[g (E (u w 0 J))] W λB w'=>∃p,B=q (t (oV p).toArray)/\DO p/\eE W w' w Q (nL k) S i (λx=>x=p):=by
 have aU:Hid True:=trivial;have av:W.heap.size≠w:=by have:=M.nJ;omega
 have a4:W.heap.size≠Q:=by have:=M.lt;omega
 have ag:W.heap.size+1≠w:=by have:=M.nJ;omega
 have aG:W.heap.size+1≠Q:=by have:=M.lt;omega
 have aa:=(X.new W #[F K 0,F K 0,F K 0,F K 0,F K 0,F K 0,F K 0] 39).alloc (m #[F K 0,F K 0,F K 0,F K 0,F K 0,F K 0,F K 0] 39);have R:=X.new (W.alloc (m #[F K 0,F K 0,F K 0,F K 0,F K 0,F K 0,F K 0] 39)) #[F K 0,F K 0,F K 0,F K 0,F K 0,F K 0,F K 0] 39;rw[bW] at R;have aa:=l aa;have R:=l R
 have aC:=l ((((G.refl No W).alloc (m #[F K 0,F K 0,F K 0,F K 0,F K 0,F K 0,F K 0] 39)).alloc (m #[F K 0,F K 0,F K 0,F K 0,F K 0,F K 0,F K 0] 39)));have ak:=l ((M.alloc (m #[F K 0,F K 0,F K 0,F K 0,F K 0,F K 0,F K 0] 39)).alloc (m #[F K 0,F K 0,F K 0,F K 0,F K 0,F K 0,F K 0] 39));clear M;go_enter func138,ntmps138;go_wp2_with fail;refine(DM (b ak)).mono ?_;rintro B z ⟨e,c,d,rfl,fs,N⟩
 have A:=N.1.e (b R) ag;have aj:=N.1.e (b aa) av;obtain⟨ah,t1,a,aw⟩:=dM.bind (β:=O) N.2;have aJ:=N.1.size;rw[bW,bW] at aJ
 have ae:G (λZ=>Z=W.heap.size+1) z (((z.setCell ⟨W.heap.size+1,0,J⟩ (F K e)).setCell ⟨W.heap.size+1,1,J⟩ (F K c)).setCell ⟨W.heap.size+1,2,J⟩ (F K d)):=(((G.refl (λZ=>Z=W.heap.size+1) z).setCell (p:=⟨W.heap.size+1,0,J⟩) (.inl rfl) _).setCell (p:=⟨W.heap.size+1,1,J⟩) (.inl rfl) _).setCell (p:=⟨W.heap.size+1,2,J⟩) (.inl rfl) _
 have ab:uG W z (((z.setCell ⟨W.heap.size+1,0,J⟩ (F K e)).setCell ⟨W.heap.size+1,1,J⟩ (F K c)).setCell ⟨W.heap.size+1,2,J⟩ (F K d)) w Q (W.heap.size+1) W.heap.size (e,c,d) ah t1 S 0 []:=
  ⟨rfl,λx aK=>by simp at aK,((A.set 0 (F K e)).set 1 (F K c)).set 2 (F K d),ae.e aj (by omega),((((b aC).mono (S':=(· =w)) λ_ _ x=>x.elim).trans N.1).trans' ae (λZ aI Y=>by omega)),by simp,ah,t1,a.mod ae (by omega) (by omega),λaT a3 aF=>aF⟩
 have ab:=l ab;have aB:=l aw;have ay:=l fs;have aN:z.cell? ⟨W.heap.size+1,0,J⟩=E (F K 0):=A.T 0;have aO:z.cell? ⟨W.heap.size+1,1,J⟩=E (F K 0):=A.T 1;have aP:z.cell? ⟨W.heap.size+1,2,J⟩=E (F K 0):=A.T 2;have aR:=A.aC;have aQ:=A.lt;clear N A aj a aw ae fs aa R ak;go_wp2_with fail
 go_loopw [14] (λai wr=>∃(r:Nat) (I:List Int),ai=F K (r:Int)/\r<=4/\Hid (uG W z wr w Q (W.heap.size+1) W.heap.size (e,c,d) ah t1 S r I)) (λai _=>4 - (intOf ai).toNat)
 case atStart=>exact⟨0,[],rfl,by omega,ab⟩
 case round=>
  obtain⟨r,I,rfl,a5,y⟩:=hrel;clear ab aN aO aP aR aQ;obtain⟨aL,t2,H,ad⟩:=(b y).rd;by_cases a6:(r:Int)<4
  .have aH:r<4:=by omega
   have ar:=l H;have am:=l ad;clear H ad;go_wp2_with fail;refine(lP (b ar)).mono ?_;rintro B aS ⟨aE,rfl,au,af⟩;have o:=af.1.e (b y).box ag;have Y:=(b y).len;obtain⟨P,a8⟩:∃P,aS.cell? ⟨W.heap.size+1,3+r,J⟩=E P:=by
    have B:∃P,(oV (oU (e,c,d) I)).toArray[3+r]? =E P:=⟨_,da (by show 3+r<7;omega)⟩;obtain⟨P,B⟩:=B;exact⟨P,(o.T (3+r)).trans B⟩
   have a9:=o.aC (3+r);have a7:=o.lt;have aD:=l ((b y).next aH ⟨ag,aG,av,by omega,by omega⟩ (b am) af au);clear af o Y au ar am;go_wp2_with fail;exact⟨⟨r+1,I++[aE],by simp,by omega,aD⟩,by simp[intOf];omega⟩
  .obtain rfl:r=4:=by omega
   obtain⟨j,a,v,n,rfl⟩:∃j a H n,I=[j,a,H,n]:=by
    have Y:=(b y).len;obtain _|⟨j,_|⟨a,_|⟨H,_|⟨n,_|⟨ba,I⟩⟩⟩⟩⟩:=I<;>simp at Y;exact⟨_,_,_,_,rfl⟩
   have T:=(b y).fit;have o:X wr (W.heap.size+1) #[F K e,F K c,F K d,F K j,F K a,F K v,F K n] 39:=(b y).box;have s:=(b y).res;obtain⟨d0,d1,d2,d3,d4,d5,d6,d7⟩:=Nj (r:=e) (c:=c) (f:=d) (x0:=j) (x1:=a) (x2:=v) (x3:=n) s;have ao:=(b y).mod.trans' d0 (λZ aI Y=>by omega)
   have ap:dM (((((((wr.setCell (u W.heap.size 0 J) (F K e)).setCell (u W.heap.size 1 J) (F K c)).setCell (u W.heap.size 2 J) (F K d)).setCell (u W.heap.size 3 J) (F K j)).setCell (u W.heap.size 4 J) (F K a)).setCell (u W.heap.size 5 J) (F K v)).setCell (u W.heap.size 6 J) (F K n)) w Q (nL k) S i (λx=>x=oU (e,c,d) [j,a,v,n]):=by
    refine(b aB) _ _ _ (dM.ret (n:=[j,a,v,n]) (ad _ _ ?_) rfl);show dM _ w Q (E ([j,a,v,n],aL)) S t2 _;exact⟨rfl,H.mod d0 (by omega) (by omega)⟩
   have ax:=l (show eE W _ w Q (nL k) S i (λx=>x=oU (e,c,d) [j,a,v,n]) from⟨ao,ap⟩);have aA:=l (gE d1 (gE d2 (gE d3 (gE d4 (gE d5 (gE d6 d7))))));have az:=l (show DO (oU (e,c,d) [j,a,v,n]) from⟨b ay,T j (by simp),T a (by simp),T v (by simp),T n (by simp)⟩);have bk:=s.aC;have bl:=s.lt;have aW:wr.cell? ⟨W.heap.size+1,0,J⟩=E (F K e):=o.T 0;have aX:wr.cell? ⟨W.heap.size+1,1,J⟩=E (F K c):=o.T 1
   have aY:wr.cell? ⟨W.heap.size+1,2,J⟩=E (F K d):=o.T 2;have aZ:wr.cell? ⟨W.heap.size+1,3,J⟩=E (F K j):=o.T 3;have a0:wr.cell? ⟨W.heap.size+1,4,J⟩=E (F K a):=o.T 4;have a1:wr.cell? ⟨W.heap.size+1,5,J⟩=E (F K v):=o.T 5;have a2:wr.cell? ⟨W.heap.size+1,6,J⟩=E (F K n):=o.T 6;have bb:wr.cell? (u W.heap.size 0 J)=E (F K 0):=s.T 0;have bc:wr.cell? (u W.heap.size 1 J)=E (F K 0):=s.T 1
   have bd:wr.cell? (u W.heap.size 2 J)=E (F K 0):=s.T 2;have bf:wr.cell? (u W.heap.size 3 J)=E (F K 0):=s.T 3;have bg:wr.cell? (u W.heap.size 4 J)=E (F K 0):=s.T 4;have bh:wr.cell? (u W.heap.size 5 J)=E (F K 0):=s.T 5;have bi:wr.cell? (u W.heap.size 6 J)=E (F K 0):=s.T 6;clear d0 d1 d2 d3 d4 d5 d6 d7 ao ap H ad T o s y;go_wp2_with fail;obtain⟨d1,d2,d3,d4,d5,d6,d7⟩:=b aA
   refine cN (by simp[results,results138,go_sem,d1,d2,d3,d4,d5,d6,d7];try rfl) rfl ?_;exact⟨oU (e,c,d) [j,a,v,n],rfl,b az,b ax⟩
noncomputable def DQ(a:Nat):Code:=ub (f42.body.getD .skip) a
theorem Nk{i:V}{I:Int}(aR:X W w (bQ I) 68)(aD:bp 68 3 W i Q)(cK:Q+3<=1000000)(ai:∀a,i.ownBlock=E a->a≠w)(aL:Exit->Act->U->Prop)(aT aZ a0 cq bx bC bE bF aU aW aX aY b9 ca cb cc cd ce cf cg ch ci cj ck cl cm cn co cp a1 a2 a3 a4 a5 a6 a7 a8 a9 ba bb bc bd bf bg bh bi bk bl bm bn bo bq br bs bt bu bv bw bz bA bB:V)
  (aO:∀(cr cs ct cu cv cw cx cy cA cB cD cE cF cG cH cI cJ:V) (z:Nat) (s v x:V) (d:U),Hid (G (λa=>i.ownBlock=E a) W d/\X d w (bQ I) 68/\bp 68 3 d i Q/\X d z #[i,s,v,x] 66/\W.heap.size<=z/\(bp 68 3 d s (Q+1)/\∀a,s.ownBlock=E a->a≠z/\(i.ownBlock=E a\/W.heap.size<=a))/\(bp 68 3 d v (Q+2)/\∀a,v.ownBlock=E a->a≠z/\(i.ownBlock=E a\/W.heap.size<=a))/\(bp 68 3 d x (Q+3)/\∀a,x.ownBlock=E a->a≠z/\(i.ownBlock=E a\/W.heap.size<=a)))->aL .normal ⟨#[aT,i,aZ,a0,g (E (u w 0 J)),C (E (u z 0 J)) 4 4,bx,bC,bE,bF,aU,aW,aX,aY,cr,cs,ct,cu,cv,cw,cx,cy,cA,cB,cD,cE,cF,cG,cH,cI,cJ,a1,a2,a3,a4,a5,a6,a7,a8,a9,ba,bb,bc,bd,bf,bg,bh,bi,bk,bl,bm,bn,bo,bq,br,bs,bt,bu,bv,bw,bz,bA,bB],[]⟩ d):
  Code.wp h (DQ 1) aL ⟨#[aT,i,aZ,a0,g (E (u w 0 J)),cq,bx,bC,bE,bF,aU,aW,aX,aY,b9,ca,cb,cc,cd,ce,cf,cg,ch,ci,cj,ck,cl,cm,cn,co,cp,a1,a2,a3,a4,a5,a6,a7,a8,a9,ba,bb,bc,bd,bf,bg,bh,bi,bk,bl,bm,bn,bo,bq,br,bs,bt,bu,bv,bw,bz,bA,bB],[]⟩ W:=by
 conv=>arg 4;dsimp only
 conv=>arg 2;whnf
 obtain⟨aE,ap,ar,av,ax⟩:=fq Jt;have aQ:=aD.lt;have aH:=l aO;clear aO;refine vR (n:=63) (λd=>G (λa=>i.ownBlock=E a) W d/\X d w (bQ I) 68/\bp 68 3 d i Q) (cY 68 3 i.ownBlock) (sE W i Q I) (by kernel_rfl) rfl (by kernel_rfl) (λj P d bX O o=>o.fW aQ j P d bX O) ?_ ?_ ⟨(G.refl _ W).drew,aR.drew,aD⟩
 .intro j b8 e d ah R c hd;have hi:j<18:=(Array.getElem?_eq_some_iff.1 ah).1;have ag:e.tmps[1]?.getD undef=i:=by simpa using R.rest 1 (by kernel_rfl)
  have M:e.eval (.tmp 1)=i:=R.rest 1 (by kernel_rfl);have y:e.eval (.tmp 4)=g (E (u w 0 J)):=R.rest 4 (by kernel_rfl);clear aH R;have b7:j=0\/j=1\/j=2\/j=3\/j=4\/j=5\/j=6\/j=7\/j=8\/j=9\/j=10\/j=11\/j=12\/j=13\/j=14\/j=15\/j=16\/j=17:=by omega
  obtain rfl|rfl|rfl|rfl|rfl|rfl|rfl|rfl|rfl|rfl|rfl|rfl|rfl|rfl|rfl|rfl|rfl|rfl:=b7
  all_goals
   replace ah:=bD (show E _=E b8 from ah);subst ah
  .clear hd;refine dR _ rfl ?_;exact⟨_,rfl,c,cY.refl _ _ _ _,M⟩
  .clear hd;refine dR _ rfl ?_;exact⟨_,rfl,c,cY.refl _ _ _ _,M⟩
  .clear hd;refine wp_load_mid _ _ rfl w 0 y (bQ I).toList pI (c.2.1.range 0 _ (λad P o=>by rw[bK,<-dy];exact o)) qL (by kernel_rfl) (by kernel_rfl) ?_;exact⟨_,rfl,c,cY.refl _ _ _ _,rfl⟩
  .have bH:e.tmps[16]?.getD undef=t (bQ I):=by simpa using (show e.tmps.getD 16 undef=_ from hd ⟨2,.data⟩ (by simp) rfl)
   clear hd ag y;unfold bQ at bH;go_simp;refine⟨_,rfl,⟨c.1.alloc _,c.2.1.alloc _,c.2.2.mod ((G.refl No d).alloc _) (λ_ _ p=>p)⟩,cY.alloc _ _ _ _ _,d.heap.size,rfl,X.new d _ _,c.1.size⟩
  .have N:e.eval (.tmp 15)=i:=hd ⟨1,.data⟩ (by simp) rfl;obtain⟨n,S,Y,aN⟩:∃n,e.eval (.tmp 17)=C (E (u n 0 J)) 1 1/\X d n (bQ I) 68/\W.heap.size<=n:=hd ⟨3,.data⟩ (by simp) rfl;obtain⟨H,A⟩:=c.2.2
   refine pH _ _ 66 rfl 68 aE _ 3 24 underlying66 ap ar av ax rfl (by decide) i Q H N A _ 1 (bQ I).toList S (yB Y) (by simp[bQ]) (λae hu=>vU I ae (by revert hu;simp only[bQ,uH,jR];intro hu;simpa only[or_self] using hu)) (by unfold maxLen;omega) (by omega) ?_;intro af w' ab k O B _;refine⟨af,rfl,⟨?_,?_,?_⟩,cY.app A k B,⟨_,ab⟩,λa Z=>?_⟩
   .exact c.1.grown k (λaS aa=>.inl aa)
   .exact c.2.1.grown k (λT=>ai w T.symm rfl)
   .exact⟨H,B⟩
   .obtain r|r:=O a Z
    .exact .inl r
    .exact .inr (cC c.1.size r)
  .clear hd;refine dR _ rfl ?_;exact⟨_,rfl,c,cY.refl _ _ _ _,M⟩
  .clear hd;refine wp_load_mid _ _ rfl w 0 y (bQ I).toList pI (c.2.1.range 0 _ (λad P o=>by rw[bK,<-dy];exact o)) qL (by kernel_rfl) (by kernel_rfl) ?_;exact⟨_,rfl,c,cY.refl _ _ _ _,rfl⟩
  .clear hd;refine wp_load_mid _ _ rfl w 0 y (bQ I).toList pI (c.2.1.range 0 _ (λad P o=>by rw[bK,<-dy];exact o)) qL (by kernel_rfl) (by kernel_rfl) ?_;exact⟨_,rfl,c,cY.refl _ _ _ _,rfl⟩
  .have bI:e.tmps[20]?.getD undef=t (bQ I):=by simpa using (show e.tmps.getD 20 undef=_ from hd ⟨6,.data⟩ (by simp) rfl)
   have bJ:e.tmps[21]?.getD undef=t (bQ I):=by simpa using (show e.tmps.getD 21 undef=_ from hd ⟨7,.data⟩ (by simp) rfl)
   clear hd ag y;unfold bQ at bI bJ;go_simp;refine⟨_,rfl,⟨c.1.alloc _,c.2.1.alloc _,c.2.2.mod ((G.refl No d).alloc _) (λ_ _ p=>p)⟩,cY.alloc _ _ _ _ _,d.heap.size,rfl,X.new d _ _,c.1.size⟩
  .have N:e.eval (.tmp 19)=i:=hd ⟨5,.data⟩ (by simp) rfl;obtain⟨n,S,Y,aN⟩:∃n,e.eval (.tmp 22)=C (E (u n 0 J)) 2 2/\X d n (bQ I++bQ I) 68/\W.heap.size<=n:=hd ⟨8,.data⟩ (by simp) rfl;obtain⟨H,A⟩:=c.2.2
   refine pH _ _ 66 rfl 68 aE _ 3 24 underlying66 ap ar av ax rfl (by decide) i Q H N A _ 2 (bQ I++bQ I).toList S (yB Y) (by simp[bQ]) (λae hu=>vU I ae (by revert hu;simp only[bQ,uH,jR];intro hu;simpa only[or_self] using hu)) (by unfold maxLen;omega) (by omega) ?_;intro af w' ab k O B _;refine⟨af,rfl,⟨?_,?_,?_⟩,cY.app A k B,⟨_,ab⟩,λa Z=>?_⟩
   .exact c.1.grown k (λaS aa=>.inl aa)
   .exact c.2.1.grown k (λT=>ai w T.symm rfl)
   .exact⟨H,B⟩
   .obtain r|r:=O a Z
    .exact .inl r
    .exact .inr (cC c.1.size r)
  .clear hd;refine dR _ rfl ?_;exact⟨_,rfl,c,cY.refl _ _ _ _,M⟩
  .clear hd;refine wp_load_mid _ _ rfl w 0 y (bQ I).toList pI (c.2.1.range 0 _ (λad P o=>by rw[bK,<-dy];exact o)) qL (by kernel_rfl) (by kernel_rfl) ?_;exact⟨_,rfl,c,cY.refl _ _ _ _,rfl⟩
  .clear hd;refine wp_load_mid _ _ rfl w 0 y (bQ I).toList pI (c.2.1.range 0 _ (λad P o=>by rw[bK,<-dy];exact o)) qL (by kernel_rfl) (by kernel_rfl) ?_;exact⟨_,rfl,c,cY.refl _ _ _ _,rfl⟩
  .clear hd;refine wp_load_mid _ _ rfl w 0 y (bQ I).toList pI (c.2.1.range 0 _ (λad P o=>by rw[bK,<-dy];exact o)) qL (by kernel_rfl) (by kernel_rfl) ?_;exact⟨_,rfl,c,cY.refl _ _ _ _,rfl⟩
  .have bL:e.tmps[25]?.getD undef=t (bQ I):=by simpa using (show e.tmps.getD 25 undef=_ from hd ⟨11,.data⟩ (by simp) rfl)
   have bM:e.tmps[26]?.getD undef=t (bQ I):=by simpa using (show e.tmps.getD 26 undef=_ from hd ⟨12,.data⟩ (by simp) rfl)
   have bO:e.tmps[27]?.getD undef=t (bQ I):=by simpa using (show e.tmps.getD 27 undef=_ from hd ⟨13,.data⟩ (by simp) rfl)
   clear hd ag y;unfold bQ at bL bM bO;go_simp;refine⟨_,rfl,⟨c.1.alloc _,c.2.1.alloc _,c.2.2.mod ((G.refl No d).alloc _) (λ_ _ p=>p)⟩,cY.alloc _ _ _ _ _,d.heap.size,rfl,X.new d _ _,c.1.size⟩
  .have N:e.eval (.tmp 24)=i:=hd ⟨10,.data⟩ (by simp) rfl;obtain⟨n,S,Y,aN⟩:∃n,e.eval (.tmp 28)=C (E (u n 0 J)) 3 3/\X d n (bQ I++bQ I++bQ I) 68/\W.heap.size<=n:=hd ⟨14,.data⟩ (by simp) rfl;obtain⟨H,A⟩:=c.2.2
   refine pH _ _ 66 rfl 68 aE _ 3 24 underlying66 ap ar av ax rfl (by decide) i Q H N A _ 3 (bQ I++bQ I++bQ I).toList S (yB Y) (by simp[bQ]) (λae hu=>vU I ae (by revert hu;simp only[bQ,uH,jR];intro hu;simpa only[or_self] using hu)) (by unfold maxLen;omega) (by omega) ?_;intro af w' ab k O B _;refine⟨af,rfl,⟨?_,?_,?_⟩,cY.app A k B,⟨_,ab⟩,λa Z=>?_⟩
   .exact c.1.grown k (λaS aa=>.inl aa)
   .exact c.2.1.grown k (λT=>ai w T.symm rfl)
   .exact⟨H,B⟩
   .obtain r|r:=O a Z
    .exact .inl r
    .exact .inr (cC c.1.size r)
  .have N:e.tmps[14]?.getD undef=i:=by simpa using (show e.tmps.getD 14 undef=_ from hd ⟨0,.data⟩ (by simp) rfl)
   obtain⟨f1,az⟩:bp 68 3 d (e.tmps[18]?.getD undef) (Q+1)/\∀a,(e.tmps[18]?.getD undef).ownBlock=E a->i.ownBlock=E a\/W.heap.size<=a:=by simpa using (show bp 68 3 d (e.tmps.getD 18 undef) (Q+1)/\∀a,(e.tmps.getD 18 undef).ownBlock=E a->i.ownBlock=E a\/W.heap.size<=a from hd ⟨4,.data⟩ (by simp) rfl)
   obtain⟨f2,aA⟩:bp 68 3 d (e.tmps[23]?.getD undef) (Q+2)/\∀a,(e.tmps[23]?.getD undef).ownBlock=E a->i.ownBlock=E a\/W.heap.size<=a:=by simpa using (show bp 68 3 d (e.tmps.getD 23 undef) (Q+2)/\∀a,(e.tmps.getD 23 undef).ownBlock=E a->i.ownBlock=E a\/W.heap.size<=a from hd ⟨9,.data⟩ (by simp) rfl)
   obtain⟨f3,aB⟩:bp 68 3 d (e.tmps[29]?.getD undef) (Q+3)/\∀a,(e.tmps[29]?.getD undef).ownBlock=E a->i.ownBlock=E a\/W.heap.size<=a:=by simpa using (show bp 68 3 d (e.tmps.getD 29 undef) (Q+3)/\∀a,(e.tmps.getD 29 undef).ownBlock=E a->i.ownBlock=E a\/W.heap.size<=a from hd ⟨15,.data⟩ (by simp) rfl)
   obtain⟨bY,b2,el⟩:=c.2.2.slice;obtain⟨s,M⟩:∃s,e.tmps[18]?.getD undef=s:=⟨_,rfl⟩;obtain⟨v,aF⟩:∃v,e.tmps[23]?.getD undef=v:=⟨_,rfl⟩;obtain⟨x,aG⟩:∃x,e.tmps[29]?.getD undef=x:=⟨_,rfl⟩;rw[M] at f1 az;rw[aF] at f2 aA;rw[aG] at f3 aB;obtain⟨bZ,b3,au⟩:=f1.slice;obtain⟨b0,b4,aw⟩:=f2.slice;obtain⟨b1,b5,ay⟩:=f3.slice;have ak:=f1;have am:=f2;have ao:=f3;have bV:=l c
   have aI:=l (⟨ak,λa k=>⟨pG (ak.lt a k),az a k⟩⟩:bp 68 3 d s (Q+1)/\∀a,s.ownBlock=E a->a≠d.heap.size/\(i.ownBlock=E a\/W.heap.size<=a));have aJ:=l (⟨am,λa k=>⟨pG (am.lt a k),aA a k⟩⟩:bp 68 3 d v (Q+2)/\∀a,v.ownBlock=E a->a≠d.heap.size/\(i.ownBlock=E a\/W.heap.size<=a))
   have aK:=l (⟨ao,λa k=>⟨pG (ao.lt a k),aB a k⟩⟩:bp 68 3 d x (Q+3)/\∀a,x.ownBlock=E a->a≠d.heap.size/\(i.ownBlock=E a\/W.heap.size<=a));rw[el] at N;rw[au] at M;rw[aw] at aF;rw[ay] at aG;have bP:=l el;have bR:=l au;have bS:=l aw;have bT:=l ay;clear el au aw ay;clear f1 f2 f3 az aA aB ak am ao c hd ag y aQ aR aD ai;go_simp;have c:=b bV
   have aj:G No d (d.alloc (m #[C bY Q b2,C bZ (Q+1) b3,C b0 (Q+2) b4,C b1 (Q+3) b5] 66)):=(G.refl No d).alloc _;refine⟨_,rfl,⟨c.1.alloc _,c.2.1.alloc _,c.2.2.mod aj (λ_ _ p=>p)⟩,cY.alloc _ _ _ _ _,d.heap.size,s,v,x,rfl,?_,c.1.size,⟨(b aI).1.mod aj (λ_ _ p=>p),(b aI).2⟩,⟨(b aJ).1.mod aj (λ_ _ p=>p),(b aJ).2⟩,⟨(b aK).1.mod aj (λ_ _ p=>p),(b aK).2⟩⟩;rw[b bP,b bR,b bS,b bT];exact X.new d _ _
  .have bU:sE W i Q I 17 (e.eval (.tmp 30)) d:=hd ⟨16,.data⟩ (by simp) rfl;clear hd;refine sy _ rfl ?_;exact⟨_,rfl,c,cY.refl _ _ _ _,bU⟩
 .intro e d R c hF;obtain⟨z,s,v,x,aC,b6⟩:=hF 17 (by decide);have aC:e.tmps.getD 5 undef=C (E (u z 0 J)) 4 4:=aC;have aP:=R.lit;rw[aP];clear aP;simp only[oW,oX,jT,nM,oY,nN,nO,aC];exact(b aH) _ _ _ _ _ _ _ _ _ _ _ _ _ _ _ _ _ z s v x d ⟨c.1,c.2.1,c.2.2,b6⟩
abbrev nQ(I:Int)(S:Nat->Prop)(j a:U)(k i:Nat)(b:Array V)(d:Array Nat)(e c:Nat):Prop:=kE 68 66 68 3 (bQ I).toList S j a k i b d e c
theorem Nl{S:Nat->Prop}{r:Nat}{j:Array V}{s:Array Nat}{I:Int}{n B:Nat}(H:nQ I S W N w Q j s P p)(v:j[P]? =E (C (E (u n 0 J)) r B))(G:s[P]? =E r)(hi:p<r)(bF:P<4)(X:Exit->Act->U->Prop)(aa ab ap aD a6 a7 ad ae af ag ah ai aj ak am ao ar au av aw ax ay az aA aB aC aE aF aG aH aI aJ aK aL aN aO aP aQ aR aS aT aU bh bi bk bl bm bn bo aW aX aY aZ a0 a1 a2 a3 a4 a5:V)
  (Z:∀(bp bq br bs bt bu bv:V) (e:U),Hid (nQ I S W e w Q j s P (p+1))->X .normal ⟨#[aa,ab,ap,aD,g (E (u w 0 J)),C (E (u Q 0 J)) 4 4,F K (P:Int),F K (p:Int),a6,a7,ad,ae,af,ag,ah,ai,aj,ak,am,ao,ar,au,av,aw,ax,ay,az,aA,aB,aC,aE,aF,aG,aH,aI,aJ,aK,aL,aN,aO,aP,aQ,aR,aS,aT,aU,bp,bq,br,bs,bt,bu,bv,aW,aX,aY,aZ,a0,a1,a2,a3,a4,a5],[]⟩ e):
  Code.wp h (DQ 8) X ⟨#[aa,ab,ap,aD,g (E (u w 0 J)),C (E (u Q 0 J)) 4 4,F K (P:Int),F K (p:Int),a6,a7,ad,ae,af,ag,ah,ai,aj,ak,am,ao,ar,au,av,aw,ax,ay,az,aA,aB,aC,aE,aF,aG,aH,aI,aJ,aK,aL,aN,aO,aP,aQ,aR,aS,aT,aU,bh,bi,bk,bl,bm,bn,bo,aW,aX,aY,aZ,a0,a1,a2,a3,a4,a5],[]⟩ N:=by
 conv=>arg 4;dsimp only
 conv=>arg 2;whnf
 have T:=l Z;clear Z
 refine vR (n:=63) (λe=>nQ I S W e w Q j s P p) (λe Y=>nQ I S W e w Q j s P (p+1)->nQ I S W Y w Q j s P (p+1)) (λi k e=>match i with
  |0=>k=C (E (u Q 0 J)) 4 4
  |1=>k=F K (P:Int)
  |2=>k=g (E (u Q P J))
  |3=>k=C (E (u n 0 J)) r B
  |4=>k=F K (p:Int)
  |5=>k=t (bQ I)
  |6=>k=g (E ⟨n,p* 3,J⟩)
  |7=>nQ I S W e w Q j s P (p+1)
  |_=>True) (by kernel_rfl) rfl (by kernel_rfl) (λi k e Y j O=>?_) ?_ ?_ (H.drewN 1)
 .revert O
  repeat' split
  all_goals first|exact id|exact j
 .intro i bd c e M o d hd;have bE:i<8:=(Array.getElem?_eq_some_iff.1 M).1;have x:c.eval (.tmp 4)=g (E (u w 0 J)):=o.rest 4 (by kernel_rfl);have y:c.eval (.tmp 5)=C (E (u Q 0 J)) 4 4:=o.rest 5 (by kernel_rfl);have z:c.eval (.tmp 6)=F K (P:Int):=o.rest 6 (by kernel_rfl);have A:c.eval (.tmp 7)=F K (p:Int):=o.rest 7 (by kernel_rfl);clear T o;have bb:i=0\/i=1\/i=2\/i=3\/i=4\/i=5\/i=6\/i=7:=by omega
  obtain rfl|rfl|rfl|rfl|rfl|rfl|rfl|rfl:=bb
  all_goals
   replace M:=bD (show E _=E bd from M);subst M
  .clear hd;refine dR _ rfl ?_;exact⟨_,rfl,d,id,y⟩
  .clear hd;refine dR _ rfl ?_;exact⟨_,rfl,d,id,z⟩
  .have bw:c.tmps[46]?.getD undef=C (E (u Q 0 J)) 4 4:=by simpa using (show c.tmps.getD 46 undef=_ from hd ⟨0,.data⟩ (by simp) rfl)
   have bx:c.tmps[47]?.getD undef=F K (P:Int):=by simpa using (show c.tmps.getD 47 undef=_ from hd ⟨1,.data⟩ (by simp) rfl)
   have bf:(0:Int)<=P:=by omega
   have bg:(P:Int)<4:=by omega
   have a:=l d;clear hd x y z A H d v G;go_simp
   first|exact b a|exact⟨b a,rfl⟩|exact⟨_,rfl,b a,id,rfl⟩|exact⟨_,rfl,b a,rfl⟩|exact⟨_,rfl,b a⟩
  .have bz:c.tmps[48]?.getD undef=g (E (u Q P J)):=by simpa using (show c.tmps.getD 48 undef=_ from hd ⟨2,.data⟩ (by simp) rfl)
   have bC:e.cell? (u Q P J)=E (C (E (u n 0 J)) r B):=(d.kF.T P).trans v;have a:=l d;clear hd x y z A H d v G;go_simp
   first|exact b a|exact⟨b a,rfl⟩|exact⟨_,rfl,b a,id,rfl⟩|exact⟨_,rfl,b a,rfl⟩|exact⟨_,rfl,b a⟩
  .clear hd;refine dR _ rfl ?_;exact⟨_,rfl,d,id,A⟩
  .clear hd;refine wp_load_mid _ _ rfl w 0 x (bQ I).toList pI (d.sD.range 0 _ (λi k O=>by rw[bK];simpa using O)) qL (by kernel_rfl) (by kernel_rfl) ?_;exact⟨_,rfl,d,id,rfl⟩
  .have bA:c.tmps[49]?.getD undef=C (E (u n 0 J)) r B:=by simpa using (show c.tmps.getD 49 undef=_ from hd ⟨3,.data⟩ (by simp) rfl)
   have bB:c.tmps[50]?.getD undef=F K (p:Int):=by simpa using (show c.tmps.getD 50 undef=_ from hd ⟨4,.data⟩ (by simp) rfl)
   have bf:(0:Int)<=p:=by omega
   have bg:(p:Int)<(r:Int):=by omega
   have a:=l d;clear hd x y z A H d v G;go_simp
   first|exact b a|exact⟨b a,rfl⟩|exact⟨_,rfl,b a,id,rfl⟩|exact⟨_,rfl,b a,rfl⟩|exact⟨_,rfl,b a⟩
  .have a9:c.eval (.tmp 52)=g (E ⟨n,p* 3,J⟩):=hd ⟨6,.data⟩ (by simp) rfl;have a8:c.eval (.tmp 51)=t (bQ I):=hd ⟨5,.data⟩ (by simp) rfl;obtain⟨bc,R⟩:=d.put (Jv I) v G hi;refine wp_store_mid _ _ _ rfl n (p* 3) (bQ I) a9 a8 bc (by kernel_rfl) (all_oneCell_toArray (vU I)) ?_;exact⟨undef,rfl,R.BZ,λ_=>R,R⟩
 .intro c e o d hF;have ba:=hF 7 (by decide);rw[o.lit];simp only[oW,oX,jT,nM,oY,nN,nO];exact(b T) _ _ _ _ _ _ _ e ba
end Go.Proofs.YthhibagcpjeihaaGreat
