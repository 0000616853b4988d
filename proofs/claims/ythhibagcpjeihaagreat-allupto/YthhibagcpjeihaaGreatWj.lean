import Derived.Test.YthhibagcpjeihaaGreatWf
import Derived.Test.YthhibagcpjeihaaGreatWg
open Go.Proofs.Tryz
open Go.Addr renaming mk->u,add_mid->dE
open Go.Value renaming int->F,pointer->g,slice->C,agg->t,ownBlock->aV
open Go.IntKind renaming i64->K
open Option renaming none->J,some->E
open Go renaming World->U,Value->V
open Go.Proofs.Tryz renaming prog->h,underlying61->qT,underlying70->ru
open Go.Ending renaming returned->q
open Go.Obj renaming cells->m
open Go.Act renaming eval->aM,put->bN
open Go.Region renaming wanted->jD
open Go.Oper renaming wp->gu
set_option linter.unusedVariables false
set_option linter.unusedSimpArgs false
set_option maxRecDepth 100000
set_option maxHeartbeats 8000000
namespace Go.Proofs.YthhibagcpjeihaaGreat
open Go.RowKit
open M
variable {j k:U} {w Q P p:Nat} {v:Int} {S o:List z} {I:Nat->Option (O×List z)} {W:List aB} {N:Nat->Nat} {B:V} {R:O} {i:Array V} {n:aK}
theorem FD(a:X j w #[C J 0 0,F K v] 72):Calls h 26 #[g (E (u w 0 J))] j λb w'=>b=q (g (E (u j.heap.size 0 J)))/\w'=j.alloc (m #[C J 0 0,F K v] 72):=by
 have d:=a.T;have e:=a.lt;clear a;go_enter func26,ntmps26;go_wp2_with fail;go_loopw [4] (λc wr=>c=F K 0/\wr=j.alloc (m #[C J 0 0,F K v] 72)) (λ_ _=>0)
 case atStart=>exact⟨rfl,rfl⟩
 case round=>
  obtain⟨rfl,rfl⟩:=hrel;go_wp2;go_ret;exact⟨rfl,rfl⟩
theorem PR(a:bB j N w B W v):Calls h 26 #[g (E (u w 0 J))] j λc w'=>∃v' ys o,c=q (g (E (u j.heap.size 0 J)))/\rr j w' j.heap.size W v W.length v' ys o:=by
 have i:=a;obtain⟨rfl,rfl⟩|⟨s,r,rfl,k,n⟩:=a.kL
 .refine(FD a.e).mono ?_;rintro c w' ⟨rfl,rfl⟩;exact⟨_,_,_,rfl,xj j v []⟩
 .by_cases d:0<W.length
  .exact OC a d
  .have:W=[]:=iC (by omega);subst this;have x:=a.e.T;have y:=a.e.lt;clear a i k n d;have e:=l (xj j v ([]:List aB));go_enter func26,ntmps26;go_wp2_with fail;go_loopw [4] (λp wr=>p=F K 0/\wr=j.alloc (m #[C J 0 0,F K v] 72)) (λ_ _=>0)
   case atStart=>exact⟨rfl,rfl⟩
   case round=>
    obtain⟨rfl,rfl⟩:=hrel;go_wp2;go_ret;exact⟨_,_,_,rfl,b e⟩
theorem PS(e:bB j N w B W v)(a:aK)(k:Nat)(i:dF W a.aF=k):Calls h 53 #[g (E (u w 0 J)),t (aw a)] j λd w'=>d=q (F K 3)/\G No j w':=by
 have c:=(e.mod ((G.refl No j).alloc (m (aw a) 41)) (λ_ _ o=>o)).find a.aF;rw[i] at c;have c:=l c;have n:=l ((G.refl No j).alloc (m (aw a) 41));have p:(k:Int)>=0:=by omega
 clear e i;unfold aw at *;go_enter func53,ntmps53;go_wp2_with fail;refine(b c).mono ?_;rintro d r ⟨rfl,rfl⟩;go_wp2;go_ret;exact⟨rfl,b n⟩
theorem PT(H:bB j N w B W v)(a:aK)(I:dF W a.aF= -1)(O:¬(a.c.aY=true/\a.c.bI=true)):Calls h 53 #[g (E (u w 0 J)),t (aw a)] j λe w'=>e=q (F K 4)/\G No j w':=by
 have n:=(H.mod ((G.refl No j).alloc (m (aw a) 41)) (λ_ _ c=>c)).find a.aF;rw[I] at n;have n:=l n;have o:=l λr=>uu a.c r;have p:=l λr=>yW a.c r;have A:=l ((G.refl No j).alloc (m (aw a) 41));have d:=l (X.new j (aw a) 41);clear H I;unfold fX at o p;unfold aw at *;have P:a.c.aY=false\/(a.c.aY=true/\a.c.bI=false):=by
  cases k:a.c.aY<;>cases s:a.c.bI<;>simp_all
 clear O;obtain k|⟨k,s⟩:=P
 .rw[k] at o;generalize a.c.bI=T at *;clear k;go_enter func53,ntmps53;go_wp2_with fail;refine(b n).mono ?_;rintro e R ⟨rfl,rfl⟩;have x:=(b d).T;have y:=(b d).lt;go_wp2_with fail;refine((b o) _).mono ?_;rintro e S ⟨rfl,i⟩;have M:=(i.e (b d) (λc=>c)).T;have Q:=(i.e (b d) (λc=>c)).lt;clear x y;go_wp2_with fail;refine((b p) _).mono ?_;rintro e w3 ⟨rfl,z⟩;go_wp2;go_ret
  exact⟨rfl,((b A).trans i).trans z⟩
 .rw[k] at o;rw[s] at p;clear k s;go_enter func53,ntmps53;go_wp2_with fail;refine(b n).mono ?_;rintro e R ⟨rfl,rfl⟩;have x:=(b d).T;have y:=(b d).lt;go_wp2_with fail;refine((b o) _).mono ?_;rintro e S ⟨rfl,i⟩;have M:=(i.e (b d) (λc=>c)).T;have Q:=(i.e (b d) (λc=>c)).lt;clear x y;go_wp2_with fail;refine((b p) _).mono ?_;rintro e w3 ⟨rfl,z⟩;go_wp2;go_ret;exact⟨rfl,((b A).trans i).trans z⟩
def eI(num:Int)(p:O)(b a:Nat):aB:=⟨⟨num,p,aI p,1⟩,b,a⟩
structure jb (w wx:U) (num:Int) (p:O) (cs:Array V) (bb qj g cap:Nat):Prop where
 box:X wx bb (cg (eI num p g cap)) 134
 cmd:X wx qj cs 41
 row:bE wx g cap (aI p)
 mO:w.heap.size<=bb
 FG:w.heap.size<=g
 ne:bb≠qj
 mod:G No w wx
theorem jb.still{w2:U}{num:Int}{p:O}{d:Nat}(a:jb j k num p i w Q P d)(c:G No k w2):jb j w2 num p i w Q P d:=
 ⟨c.e a.box (λb=>b),c.e a.cmd (λb=>b),a.row.mod c (λb=>b),a.mO,a.FG,a.ne,a.mod.trans c⟩
theorem jb.made{w3:U}{num:Int}{p:O}(e:G No j w3)(b:G No w3 k)(l:X w3 w i 41)(n:bE k Q P (aI p))(o:w3.heap.size<Q):jb j (k.alloc (m #[F K num,F K p.rows,F K p.y,F K p.Z,F K p.af,F K p.ag,F K p.ai,F K p.aj,C (E (u Q 0 J)) (aI p).length P,F K 1] 134)) num p i k.heap.size w Q P:=by
 show jb j (k.alloc (m (cg (eI num p Q P)) 134)) num p i k.heap.size w Q P;have c:G No k (k.alloc (m (cg (eI num p Q P)) 134)):=(G.refl _ _).alloc _;have d:=b.e l (λa=>a);have:=e.size;have:=b.size;exact⟨X.new _ _ _,c.e d (λa=>a),n.mod c (λa=>a),by omega,by omega,by have:=d.lt;omega,(e.trans b).trans c⟩
theorem jb.xy{w3:U}{num:Int}{p:O}{a:Nat}(n:G No j w3)(b:G No w3 k)(l:X w3 Q i 41)(c:X w3 w #[F K 0,F K 0,F K 0,F K 0,F K 0,F K 0,F K 0,F K 0,C J 0 0,F K 0] 134)(R:j.heap.size<=w)(T:bE k P a (aI p))(Z:w3.heap.size<P):jb j ((((((((((k.setCell (u w 0 J) (F K num)).setCell (u w 1 J) (F K p.rows)).setCell (u w 2 J) (F K p.y)).setCell (u w 3 J) (F K p.Z)).setCell (u w 4 J) (F K p.af)).setCell (u w 5 J) (F K p.ag)).setCell (u w 6 J) (F K p.ai)).setCell (u w 7 J) (F K p.aj)).setCell (u w 8 J) (C (E (u P 0 J)) (aI p).length a)).setCell (u w 9 J) (F K 1)) num p i w Q P a:=by
 have Y:=b.e c (λe=>e);have r:=b.e l (λe=>e);have ab:=c.lt;have o:w≠Q:=c.ne l (by decide);have S:P≠w:=by omega
 have d:G (λW=>W=w) k ((((((((((k.setCell (u w 0 J) (F K num)).setCell (u w 1 J) (F K p.rows)).setCell (u w 2 J) (F K p.y)).setCell (u w 3 J) (F K p.Z)).setCell (u w 4 J) (F K p.af)).setCell (u w 5 J) (F K p.ag)).setCell (u w 6 J) (F K p.ai)).setCell (u w 7 J) (F K p.aj)).setCell (u w 8 J) (C (E (u P 0 J)) (aI p).length a)).setCell (u w 9 J) (F K 1)):=
  ((((((((((G.refl _ k).at 0 _).at 1 _).at 2 _).at 3 _).at 4 _).at 5 _).at 6 _).at 7 _).at 8 _).at 9 _
 have v:X (k.setCell (u w 0 J) (F K num)) w #[F K num,F K 0,F K 0,F K 0,F K 0,F K 0,F K 0,F K 0,C J 0 0,F K 0] 134:=Y.set 0 _;have x:X ((k.setCell (u w 0 J) (F K num)).setCell (u w 1 J) (F K p.rows)) w #[F K num,F K p.rows,F K 0,F K 0,F K 0,F K 0,F K 0,F K 0,C J 0 0,F K 0] 134:=v.set 1 _
 have y:X (((k.setCell (u w 0 J) (F K num)).setCell (u w 1 J) (F K p.rows)).setCell (u w 2 J) (F K p.y)) w #[F K num,F K p.rows,F K p.y,F K 0,F K 0,F K 0,F K 0,F K 0,C J 0 0,F K 0] 134:=x.set 2 _
 have z:X ((((k.setCell (u w 0 J) (F K num)).setCell (u w 1 J) (F K p.rows)).setCell (u w 2 J) (F K p.y)).setCell (u w 3 J) (F K p.Z)) w #[F K num,F K p.rows,F K p.y,F K p.Z,F K 0,F K 0,F K 0,F K 0,C J 0 0,F K 0] 134:=y.set 3 _
 have A:X (((((k.setCell (u w 0 J) (F K num)).setCell (u w 1 J) (F K p.rows)).setCell (u w 2 J) (F K p.y)).setCell (u w 3 J) (F K p.Z)).setCell (u w 4 J) (F K p.af)) w #[F K num,F K p.rows,F K p.y,F K p.Z,F K p.af,F K 0,F K 0,F K 0,C J 0 0,F K 0] 134:=z.set 4 _
 have B:X ((((((k.setCell (u w 0 J) (F K num)).setCell (u w 1 J) (F K p.rows)).setCell (u w 2 J) (F K p.y)).setCell (u w 3 J) (F K p.Z)).setCell (u w 4 J) (F K p.af)).setCell (u w 5 J) (F K p.ag)) w #[F K num,F K p.rows,F K p.y,F K p.Z,F K p.af,F K p.ag,F K 0,F K 0,C J 0 0,F K 0] 134:=A.set 5 _
 have H:X (((((((k.setCell (u w 0 J) (F K num)).setCell (u w 1 J) (F K p.rows)).setCell (u w 2 J) (F K p.y)).setCell (u w 3 J) (F K p.Z)).setCell (u w 4 J) (F K p.af)).setCell (u w 5 J) (F K p.ag)).setCell (u w 6 J) (F K p.ai)) w #[F K num,F K p.rows,F K p.y,F K p.Z,F K p.af,F K p.ag,F K p.ai,F K 0,C J 0 0,F K 0] 134:=B.set 6 _
 have I:X ((((((((k.setCell (u w 0 J) (F K num)).setCell (u w 1 J) (F K p.rows)).setCell (u w 2 J) (F K p.y)).setCell (u w 3 J) (F K p.Z)).setCell (u w 4 J) (F K p.af)).setCell (u w 5 J) (F K p.ag)).setCell (u w 6 J) (F K p.ai)).setCell (u w 7 J) (F K p.aj)) w #[F K num,F K p.rows,F K p.y,F K p.Z,F K p.af,F K p.ag,F K p.ai,F K p.aj,C J 0 0,F K 0] 134:=H.set 7 _
 have M:X (((((((((k.setCell (u w 0 J) (F K num)).setCell (u w 1 J) (F K p.rows)).setCell (u w 2 J) (F K p.y)).setCell (u w 3 J) (F K p.Z)).setCell (u w 4 J) (F K p.af)).setCell (u w 5 J) (F K p.ag)).setCell (u w 6 J) (F K p.ai)).setCell (u w 7 J) (F K p.aj)).setCell (u w 8 J) (C (E (u P 0 J)) (aI p).length a)) w #[F K num,F K p.rows,F K p.y,F K p.Z,F K p.af,F K p.ag,F K p.ai,F K p.aj,C (E (u P 0 J)) (aI p).length a,F K 0] 134:=I.set 8 _
 have N:X ((((((((((k.setCell (u w 0 J) (F K num)).setCell (u w 1 J) (F K p.rows)).setCell (u w 2 J) (F K p.y)).setCell (u w 3 J) (F K p.Z)).setCell (u w 4 J) (F K p.af)).setCell (u w 5 J) (F K p.ag)).setCell (u w 6 J) (F K p.ai)).setCell (u w 7 J) (F K p.aj)).setCell (u w 8 J) (C (E (u P 0 J)) (aI p).length a)).setCell (u w 9 J) (F K 1)) w #[F K num,F K p.rows,F K p.y,F K p.Z,F K p.af,F K p.ag,F K p.ai,F K p.aj,C (E (u P 0 J)) (aI p).length a,F K 1] 134:=M.set 9 _
 refine⟨N,d.e r (λs=>o s.symm),T.mod d S,R,by have:=n.size;have:=b.size;omega,o,(n.trans b).trans' d (λad hi aa=>by omega)⟩
theorem PU{j:Type}(c:List j)(x:j)(a b:Nat)(n:a<=c.length)(hi:b<(c.take a++x::c.drop a).length):(∃d:b<c.length,b<a/\(c.take a++x::c.drop a)[b]=c[b])\/(b=a/\(c.take a++x::c.drop a)[b]=x)\/(∃d:b - 1<c.length,a<b/\(c.take a++x::c.drop a)[b]=c[b - 1]):=by
 have i:(c.take a).length=a:=by rw[eO];omega
 have l:b<c.length+1:=by simp at hi;omega
 obtain d|d|d:=yK b a
 .refine .inl ⟨by omega,d,?_⟩;rw[sW (by omega),rm]
 .refine .inr (.inl ⟨d,?_⟩);subst d;rw[uM (by omega)];simp[i]
 .refine .inr (.inr ⟨by omega,d,?_⟩);rw[uM (by omega)];obtain⟨e,k⟩:∃e,b=a+1+e:=⟨b - a - 1,by omega⟩;subst k;simp only[i,show a+1+e - a=e+1 by omega,vB,uI];congr 1;omega
theorem PV{w':U}{gf o b:Nat}(d:bB j N w B W v)(A:G (λa=>a=w) j w')(num:Int)(p:O)(aa:b<=W.length)(ah:W.length<20)(Z:X w' w #[C (E (u gf 0 J)) (W.length+1) Q,F K v] 72)(R:eP w' gf Q (W.take b++eI num p P o::W.drop b))(S:bE w' P o (aI p))(ai:j.heap.size<=P)(aj:j.heap.size<=gf)(ab:P≠gf)(ad:aJ p (aI p)):
  ∃Y,bB w' Y w (C (E (u gf 0 J)) (W.length+1) Q) (W.take b++eI num p P o::W.drop b) v/\∀a,Y a≠0->N a≠0\/j.heap.size<=a:=by
 have M:(W.take b++eI num p P o::W.drop b).length=W.length+1:=by simp;omega
 refine⟨λa=>if a=gf then 2 else if a=P then b+3 else if N a=2 then 0 else if b+3<=N a then N a+1 else N a,⟨Z,.inr ⟨gf,Q,by rw[M],R,by simp only[D]⟩,?_,λa e=>?_,λi hi=>?_,by rw[M];omega⟩,λa e=>?_⟩
 .have ak:=d.bg w (by rw[d.bw];omega);have k:=d.bw;rw[f (by omega),f (by omega),f (by omega),f (by omega),k]
 .by_cases s:a=gf
  .subst s;obtain⟨ag,ae,_⟩:=R.cur;exact ae.lt
  .by_cases x:a=P
   .subst x;exact S.lt
   .rw[f s,f x] at e;have:N a≠0:=by
     intro k;rw[k] at e;simp at e
    exact bj (d.bg a this) A.size
 .have z:∀c (n:c<W.length),W[c].g<j.heap.size/\N W[c].g=c+3:=λc n=>⟨d.bg _ (by rw[(d.Y c n).2.1];omega),(d.Y c n).2.1⟩;have T:∀c (n:c<W.length),¬W[c].g=w:=λc n k=>by have:=(z c n).2;rw[k,d.bw] at this;omega
  obtain⟨l,y,r⟩|⟨y,r⟩|⟨l,y,r⟩:=PU W (eI num p P o) b i aa hi
  .rw[r];obtain⟨H,af,I⟩:=d.Y i l;refine⟨H.mod A (T i l),?_,I⟩;have:=z i l;rw[f (by omega),f (by omega),f (by omega),f (by omega)];exact this.2
  .rw[r];refine⟨S,?_,ad⟩;show(if P=gf then 2 else if P=P then b+3 else if N P=2 then 0 else if b+3<=N P then N P+1 else N P)=i+3;rw[f ab,D rfl,y]
  .rw[r];obtain⟨H,af,I⟩:=d.Y (i - 1) l;refine⟨H.mod A (T (i - 1) l),?_,I⟩;have:=z (i - 1) l;rw[f (by omega),f (by omega),f (by omega),D (by omega)];omega
 .by_cases s:a=gf
  .right;omega
  .by_cases x:a=P
   .right;omega
   .have e:(if a=gf then 2 else if a=P then b+3 else if N a=2 then 0 else if b+3<=N a then N a+1 else N a)≠0:=e;rw[f s,f x] at e;left;intro k;rw[k] at e;simp at e
theorem xz(c:List aB):∀b∈c.flatMap di,b.oneCell'=true:=by
 intro b hu;obtain⟨d,_,a⟩:=List.mem_flatMap.1 hu;simp[di,cg] at a;obtain rfl|rfl|rfl|rfl|rfl|rfl|rfl|rfl|rfl|rfl:=a<;>rfl
theorem PY{gf:Nat}(e:eP j gf w W)(b:Nat)(hi:b<=W.length)(c:Nat):Reads j (C (E (u gf 0 J)) b c) b ((W.take b).flatMap di):=
 .inr ⟨(u gf 0 J),c,rfl,λa l hu=>by
  have i:a<((W.take b).flatMap di).length:=(List.getElem?_eq_some_iff.1 hu).1
  rw[nh 10 di nW,eO] at i
  have k:a / 10<b:=by omega
  have d:a=a / 10* 10+a % 10:=by omega
  rw[d,qH 10 (by omega) di nW (W.take b) (a / 10) (by rw[eO];omega) (a % 10) (by omega),rm] at hu
  rw[dE,bK,d,e.T (a / 10) (by omega) (a % 10) (by omega),<-dy]
  exact hu⟩
theorem PZ{gf:Nat}(e:eP j gf w W)(b:Nat)(hi:b<=W.length)(c:Nat):Reads j (C (E ⟨gf,b* 10,J⟩) (W.length - b) c) (W.length - b) ((W.drop b).flatMap di):=
 .inr ⟨⟨gf,b* 10,J⟩,c,rfl,λa l hu=>by
  have i:a<((W.drop b).flatMap di).length:=(List.getElem?_eq_some_iff.1 hu).1
  rw[nh 10 di nW,oZ] at i
  have k:a / 10<W.length - b:=by omega
  have d:a=a / 10* 10+a % 10:=by omega
  rw[d,qH 10 (by omega) di nW (W.drop b) (a / 10) (by rw[oZ];omega) (a % 10) (by omega),uI] at hu
  rw[dE,d,show b* 10+(a / 10* 10+a % 10)=(b+a / 10)* 10+a % 10 by omega,e.T (b+a / 10) (by omega) (a % 10) (by omega),<-dy]
  exact hu⟩
theorem P0{w:U}{gf:Nat}{xs:List aB}(a:Nat)(hi:a=xs.length)(b:Nat):Reads w (C (E (u gf 0 J)) (xs.length - a) b) (xs.length - a) ((xs.drop a).flatMap di):=
 .inr ⟨(u gf 0 J),b,rfl,λc d hu=>by
  rw[hi,List.drop_length] at hu
  simp at hu⟩
theorem FH(a:U)(b:TypeId)(x:aB):Reads (a.alloc (m (cg x) b)) (C (E (u a.heap.size 0 J)) 1 1) 1 (di x):=
 .inr ⟨(u a.heap.size 0 J),1,rfl,λd e hu=>by
  have c:=X.new a (cg x) b
  rw[dE,bK,c.T,<-dy]
  exact hu⟩
theorem tj{i:Program}{ops:Array Oper}{b:Oper}{a:Act}{k:Act->U->Prop}{p:Exit->Act->U->Prop}{o:Prop}(w:b.guard=J)(d:FuncId)(args:Array Operand)(B:Array TypeId)(x:b.op=Op.call { callee:=Callee.value (Operand.func d),args:=args,argTypes:=B })(e:Array V)(z:args.map a.eval=e)(v:∀l,(callFunc d e).run i l=.ok (.enter d e) l)(R:V->U->Prop)(s:Calls i d e j λn w'=>∃c,n=q c/\R c w')
  (r:∀c w',R c w'->k (a.put b.dst c) w'):if jD b (yielded ops a.tmps)=true then gu i b a j k p else o:=by
 have A:jD b (yielded ops a.tmps)=true:=by simp[jD,w]
 rw[D A];unfold gu execOp;simp[go_sem,x,z];rw[v];simp[go_sem];refine s.mono ?_;rintro n w' ⟨c,rfl,y⟩;exact r _ _ y
theorem xA(a:fm j (C J 0 0) B):∀b,B.ownBlock=E b->No b\/j.heap.size<=b:=λb c=>by
 obtain a|a:=a b c
 .simp[aV] at a
 .exact .inr a
theorem uW{a:U}{v':V}(d:∀b,B.ownBlock=E b->No b\/a.heap.size<=b)(k:a.heap.size<=j.heap.size)(i:fm j B v'):∀b,v'.ownBlock=E b->No b\/a.heap.size<=b:=λb e=>by
 obtain c|c:=i b e
 .exact d b c
 .exact .inr (by omega)
structure Aj (w w':U) (ow:Nat->Nat) (wb:Nat) (xs:List aB) (now:Int) (num:Int) (p:O):Prop where
 mod:G (λk=>k=wb) w w'
 ex:∃v' n g cap ow',n<=xs.length/\(∀j (hj:j<xs.length),j<n->xs[j].f.num<num)/\(∀hj:n<xs.length,¬xs[n].f.num<num)/\bB w' ow' wb v' (xs.take n++eI num p g cap::xs.drop n) now/\∀k,ow' k≠0->ow k≠0\/w.heap.size<=k
theorem FI{wc:U}{ow:Nat->Nat}{b i:Nat}{xs:List aB}{now:Int}{Y:Array V}(x:bB j ow w B xs now)(l:jb j wc v R Y Q P p b)(aj:aJ R (aI R))(hi:i<=xs.length)(ab:xs.length<20)(c:U)(e:V)(M:G No wc c)(ah:∀a,e.ownBlock=E a->No a\/wc.heap.size<=a)(T:Nat)(N:List V)(ad:N=(xs.take i++eI v R p b::xs.drop i).flatMap di)(ae:T=xs.length+1)(z:c.ownsRow 0 134 10 e T N):
  G (λa=>a=w) j (c.setCell (u w 0 J) e)/\∃v' o p b r,o<=xs.length/\o=i/\bB (c.setCell (u w 0 J) e) r w v' (xs.take o++eI v R p b::xs.drop o) now/\∀a,r a≠0->ow a≠0\/j.heap.size<=a:=by
 subst ad ae;have y:(xs.take i++eI v R p b::xs.drop i).length=xs.length+1:=by simp;omega
 rw[<-y] at z;have H:=l.mod.trans M;have A:G (λa=>a=w) j (c.setCell (u w 0 J) e):=(H.mono (λ_ _ n=>n.elim)).at 0 e;obtain⟨d,k,rfl⟩:∃d k,e=C (E (u d 0 J)) (xs.take i++eI v R p b::xs.drop i).length k:=by
  obtain⟨_,aa|⟨Z,W,ap,ai,_⟩⟩:=z
  .rw[y] at aa;omega
  .exact⟨Z,W,ai⟩
 have ag:=(Eu z).2;have au:wc.heap.size<=d:=by
  obtain s|s:=ah d rfl
  .exact s.elim
  .exact s
 have av:=l.row.lt;have aw:=l.mod.size;have ar:w<j.heap.size:=x.e.lt;have af:=l.FG;have I:=(H.e x.e (λn=>n)).set 0 (C (E (u d 0 J)) (xs.take i++eI v R p b::xs.drop i).length k);have ak:X (c.setCell (u w 0 J) (C (E (u d 0 J)) (xs.take i++eI v R p b::xs.drop i).length k)) w #[C (E (u d 0 J)) (xs.length+1) k,F K now] 72:=by
  rw[y] at I ⊢;exact I
 have S:G (λa=>a=w) c (c.setCell (u w 0 J) (C (E (u d 0 J)) (xs.take i++eI v R p b::xs.drop i).length k)):=(G.refl _ c).at 0 _;obtain⟨r,am,ao⟩:=PV x A v R hi ab ak (ag.mod S (by omega)) ((l.row.mod M (λn=>n)).mod S (by omega)) af (by omega) (by omega) aj;exact⟨A,_,i,p,b,r,hi,rfl,am,ao⟩
theorem P'(O:bB j N w (C (E (u Q 0 J)) W.length P) W v)(cj:0<W.length)(i:aK)(bv:dF W i.aF= -1)(av:i.c.aY=true)(a0:i.c.bI=true)(cb:W.length<20):Calls h 53 #[g (E (u w 0 J)),t (aw i)] j λz w'=>z=q (F K 0)/\Aj j w' N w W v i.aF i.c:=by
 have S:=(O.mod ((G.refl No j).alloc (m (aw i) 41)) (λ_ _ c=>c)).find i.aF;rw[bv] at S;have S:=l S;have ak:=l λy=>uu i.c y;have aj:=l λy=>yW i.c y
 have ai:=l λy=>(show Calls h 84 #[fX i.c] y λz w'=>∃bI,z=q bI/\∃k n,bI=C (E (u k 0 J)) (aI i.c).length n/\bE w' k n (aI i.c)/\y.heap.size<k/\G No y w' from
  (yX i.c av y).mono λz w' ⟨k,n,b9,ca⟩=>⟨_,b9,k,n,rfl,ca⟩)
 have b0:=l (oH av a0);have br:=l ((G.refl No j).alloc (m (aw i) 41));have I:=l (X.new j (aw i) 41);rw[av] at ak;rw[a0] at aj;obtain⟨cn,bH⟩:=O.parts rfl cj;have ao:=l bH;have x:=l O;obtain⟨a1,e,aO,ac,bd,bc,a6,aS,time,d⟩:=i;simp only at *;clear O bv av a0 bH cn;unfold fX at ak aj ai;unfold aw at *;go_enter func53,ntmps53;go_wp2_with fail;refine(b S).mono ?_;rintro z cM ⟨rfl,rfl⟩;have cc:=(b I).T
 have ck:=(b I).lt;go_wp2_with fail;refine((b ak) _).mono ?_;rintro z cO ⟨rfl,ag⟩;have cd:=(ag.e (b I) (λc=>c)).T;have cl:=(ag.e (b I) (λc=>c)).lt;clear cc ck;go_wp2_with fail;refine((b aj) _).mono ?_;rintro z w3 ⟨rfl,a2⟩;have am:=l (((b br).trans ag).trans a2);have R:=l (a2.e (ag.e (b I) (λc=>c)) (λc=>c));clear cd cl ag a2 I br S ak aj;generalize j.heap.size=ab at *;have ce:=(b R).T
 have bF:=(b R).lt;go_upto_region 8 with fail;go_cut [8] (λco bk=>∃ad k n,co=g (E (u ad 0 J))/\Hid (jb j bk e d #[F K a1,F K e,F K aO,F K ac,F K bd,F K bc,F K a6,F K aS,F K time,F K d.rows,F K d.y,F K d.Z,F K d.af,F K d.ag,F K d.ai,F K d.aj] ad ab k n))
 case first=>
  have aE:=l (b R).drew;have b2:=l (b am).drew;have a3:G No w3 ((w3.alloc (m #[F K 0,F K 0,F K 0,F K 0,F K 0,F K 0,F K 0,F K 0,C J 0 0,F K 0] 134)).drew):=((G.refl _ w3).alloc _).drew;have aF:=l (a3.e (b R) (λc=>c));have b3:=l ((b am).trans a3);have ar:=l (X.new w3 #[F K 0,F K 0,F K 0,F K 0,F K 0,F K 0,F K 0,F K 0,C J 0 0,F K 0] 134).drew;have cy:=l (show ab<=w3.heap.size from vO bF);clear a3
  go_region_law (first
   |(refine tj rfl 84 _ _ rfl #[t #[F K d.rows,F K d.y,F K d.Z,F K d.af,F K d.ag,F K d.ai,F K d.aj]] (by simp[aM,bN]) (λy=>by kernel_rfl) _ ((b ai) w3.drew) ?_;rintro cr cx ⟨aU,aQ,rfl,aW,bl,s⟩;have cf:=(s.e (b aE) (λc=>c)).T;have cm:=(s.e (b aE) (λc=>c)).lt)
   |(refine tj rfl 84 _ _ rfl #[t #[F K d.rows,F K d.y,F K d.Z,F K d.af,F K d.ag,F K d.ai,F K d.aj]] (by simp[aM,bN]) (λy=>by kernel_rfl) _ ((b ai) _) ?_;rintro cr cx ⟨aU,aQ,rfl,aW,bl,s⟩;have cf:=(s.e (b aF) (λc=>c)).T;have cm:=(s.e (b aF) (λc=>c)).lt;have cP:=(s.e (b ar) (λc=>c)).T;have cR:=(s.e (b ar) (λc=>c)).aC;have cS:=(s.e (b ar) (λc=>c)).lt))
  all_goals go_wp2
  all_goals go_meet
  all_goals first
   |with_reducible exact⟨_,aU,aQ,rfl,l (jb.made (b b2) s (b aE) aW bl)⟩
   |with_reducible exact⟨_,aU,aQ,rfl,l (jb.xy (b b3) s (b aF) (b ar) (b am).size aW bl)⟩
 case rest=>
  obtain⟨ad,k,n,rfl,aJ⟩:=hcut;obtain⟨ax,ay,az,aA,aC⟩:=fq zQ;clear R am ai ce bF
  apply_assumption
  go_upto_block 0 with fail;go_cut [9] (λah bk=>∃a:Nat,ah=F K a/\a<=W.length/\Hid (∀o (p:o<W.length),o<a->W[o].f.num<e)/\Hid (∀p:a<W.length,¬W[a].f.num<e)/\Hid (jb j bk e d #[F K a1,F K e,F K aO,F K ac,F K bd,F K bc,F K a6,F K aS,F K time,F K d.rows,F K d.y,F K d.Z,F K d.af,F K d.ag,F K d.ai,F K d.aj] ad ab k n))
  case first=>
   go_wp2_with fail;go_loopw [9] (λah wr=>∃a:Nat,ah=F K a/\a<=W.length/\Hid (∀o (p:o<W.length),o<a->W[o].f.num<e)/\Hid (jb j wr e d #[F K a1,F K e,F K aO,F K ac,F K bd,F K bc,F K a6,F K aS,F K time,F K d.rows,F K d.y,F K d.Z,F K d.af,F K d.ag,F K d.ai,F K d.aj] ad ab k n)) (λah _=>W.length - (intOf ah).toNat)
   case atStart=>exact⟨0,rfl,by omega,λo p O=>absurd O (fK _),aJ⟩
   case round=>
    obtain⟨a,rfl,hi,B,r⟩:=hrel;clear aJ;have cs:wr.cell? (u w 0 J)=E (C (E (u Q 0 J)) W.length P):=((b r).mod.e (b x).e (λc=>c)).T 0;have cA:wr.cell? (u ab 1 J)=E (F K e):=(b r).cmd.T 1;have cB:=(b r).cmd.lt;have cv:=((b r).mod.e (b x).e (λc=>c)).lt;have b8:(0:Int)<=a:=by omega
    by_cases bz:a<W.length
    .have aX:(a:Int)<(W.length:Int):=by omega
     have ch:decide ((a:Int)<(W.length:Int))=true:=by simpa using aX
     have cG:K.wrap ((a:Int)+1)=((a+1:Nat):Int):=by rw[bh _ (by omega) (by omega)];rfl
     have bb:=(b ao).mod (b r).mod (λc=>c);have cD:wr.cell? ⟨Q,a* 10,J⟩=E (F K W[a].f.num):=bb.T a bz 0 (by omega);by_cases au:W[a].f.num<e
     .have ci:decide (W[a].f.num<e)=true:=by simpa using au
      have bQ:=l (show ∀o (p:o<W.length),o<a+1->W[o].f.num<e from λo p cK=>by
       by_cases z:o=a
       .subst z;exact au
       .exact(b B) o p (by omega))
      clear bb B;go_wp2_with fail;go_quiet (fail);go_wp2;exact⟨⟨a+1,rfl,by omega,bQ,(b r).still ((G.refl No _).drewN _)⟩,by simp[intOf];omega⟩
     .have ci:decide (W[a].f.num<e)=false:=by simpa using au
      have M:=l (show ∀p:a<W.length,¬W[a].f.num<e from λ_=>au);clear bb;go_wp2_with fail;go_quiet (fail);go_wp2;go_meet;exact⟨a,rfl,by omega,B,M,(b r).still ((G.refl No _).drewN _)⟩
    .have aX:¬(a:Int)<(W.length:Int):=by omega
     have ch:decide ((a:Int)<(W.length:Int))=false:=by simpa using aX
     have M:=l (show ∀p:a<W.length,¬W[a].f.num<e from λp=>absurd p bz);go_wp2_with fail;go_quiet (fail);go_wp2;go_meet;exact⟨a,rfl,by omega,B,M,(b r).still ((G.refl No _).drewN _)⟩
  case rest=>
   obtain⟨a,rfl,hi,B,M,r⟩:=hcut;have cs:=((b r).mod.e (b x).e (λc=>c)).T 0;have cv:=((b r).mod.e (b x).e (λc=>c)).lt;have b8:(0:Int)<=a:=by omega
   have cJ:(a:Int)<=(W.length:Int):=by omega
   have cE:=(b ao).le;have cH:(a:Int)<=(P:Int):=by omega
   have cI:a<=P:=by omega
   clear aJ;have T:=r;have b4:=l ((b ao).mod (b r).mod (λc=>c));go_upto_region 13 with fail;have bY:=l (PY (b b4) a hi P);have bT:=l (xz (W.take a));have bP:=l (show((W.take a).flatMap di).length=a* 10 from by rw[nh 10 di nW,eO,uc hi]);have b1:=l (show ∀bf∈di (eI e d k n),bf.oneCell'=true from λbf hu=>xz [eI e d k n] bf (by simpa using hu))
   go_upto_region 15 with(first
    |(at_builtin;refine fJ rfl (.tmp 59) (.tmp 65) 70 rfl 134 ax _ 10 96 ru ay az aA aC rfl (by decide) (C J 0 0) 0 [] (by simp[aM]) (by exact dx _ _ _ _) (C (E (u Q 0 J)) a P) a ((W.take a).flatMap di) (by simp[aM]) (by exact b bY) (b bP) (b bT) (by unfold maxLen;omega) (by omega) ?_;intro cp aD aY bw bA;
      rw[bK,qJ] at aY;have bR:=l aY;have bq:=l bA;have aN:=l ((G.refl No _).grown bw (by simp[aV]));clear aY bw bA;have aL:=l ((b T).still (b aN));have bt:=(b aL).box.T;have b6:=(b aL).box.lt;unfold cg eI at bt;have s:G No aD (aD.alloc (m (cg (eI e d k n)) 134)):=(G.refl _ _).alloc _;have bS:=l (s.owns (b bR) (λ_ _ c=>c));have bU:=l (FH aD 134 (eI e d k n));clear s aL)
    |(at_builtin;refine fJ rfl (.tmp 67) (.tmp 69) 70 rfl 134 ax _ 10 96 ru ay az aA aC rfl (by decide) cp a ((W.take a).flatMap di) (by simp[aM]) (by exact b bS) (C (E (u aD.heap.size 0 J)) 1 1) 1 (di (eI e d k n)) (by simp[aM]) (by exact b bU) rfl (b b1) (by unfold maxLen;omega) (by omega) ?_;intro cL bO aZ bx bC;
      clear bt b6;obtain⟨bs,bu,rfl⟩:=aR aZ;have bo:=l aZ;have bZ:=l bC;have Y:=l (((b aN).alloc _).grown bx (xA (b bq)));clear aZ bx bC;have aa:=(b T).mod.trans (b Y);have bJ:bO.cell? (u w 0 J)=E (C (E (u Q 0 J)) W.length P):=(aa.e (b x).e (λc=>c)).T 0;have bL:=(aa.e (b x).e (λc=>c)).aC;have bM:=(aa.e (b x).e (λc=>c)).lt;have bV:=l (PZ ((b ao).mod aa (λc=>c)) a hi (P - a));clear aa))
   have bp:=l (xz (W.drop a));have bn:=l (show((W.drop a).flatMap di).length=(W.length - a)* 10 from by rw[nh 10 di nW,oZ]);have ap:=l (uW (xA (b bq)) (by have:=(b aN).size;simp;omega) (b bZ));have bm:=l (FI (xs:=W) (now:=v) (ow:=N) (i:=a) (b x) (b T) (b b0) hi cb);by_cases cF:P=a
   .have bX:=l (P0 (w:=bO) (gf:=Q) (xs:=W) a (by omega) 0)
    go_wp2_with (at_builtin;refine fJ rfl (.tmp 72) (.tmp 78) 70 rfl 134 ax _ 10 96 ru ay az aA aC rfl (by decide) (C bs (a+1) bu) (a+1) ((W.take a).flatMap di++di (eI e d k n)) (by simp[aM]) (by exact b bo) (C (E (u Q 0 J)) (W.length - a) 0) (W.length - a) ((W.drop a).flatMap di) (by simp[aM]) (by exact b bX) (b bn) (b bp) (by unfold maxLen;omega) (by omega) ?_;intro cq bi H ae af;obtain⟨b5,b7,rfl⟩:=aR H;have aG:=l H;have aH:=l af;have Z:=l ((b Y).grown ae (b ap));clear H ae af bJ bL bM;have A:=((b T).mod.trans (b Z)).e (b x).e (λc=>c);have ct:=A.T 0;have cu:=A.aC;have cw:=A.lt;clear A)
    go_ret;obtain⟨a7,bg,a4,aT,aP,a5,a8,rfl,a9,ba⟩:=(b bm) bi _ (b Z) (uW (b ap) (b Y).size (b aH)) _ _ (by simp) (by omega) (b aG);exact⟨rfl,⟨a7,bg,a4,aT,aP,a5,a8,b B,λp=>by have:=b M p;omega,a9,ba⟩⟩
   .go_wp2_with (at_builtin;refine fJ rfl (.tmp 72) (.tmp 78) 70 rfl 134 ax _ 10 96 ru ay az aA aC rfl (by decide) (C bs (a+1) bu) (a+1) ((W.take a).flatMap di++di (eI e d k n)) (by simp[aM]) (by exact b bo) (C (E ⟨Q,a* 10,J⟩) (W.length - a) (P - a)) (W.length - a) ((W.drop a).flatMap di) (by simp[aM]) (by exact b bV) (b bn) (b bp) (by unfold maxLen;omega) (by omega) ?_;intro cq bi H ae af;obtain⟨b5,b7,rfl⟩:=aR H;have aG:=l H;have aH:=l af;have Z:=l ((b Y).grown ae (b ap));clear H ae af bJ bL bM;have A:=((b T).mod.trans (b Z)).e (b x).e (λc=>c);have ct:=A.T 0;have cu:=A.aC;have cw:=A.lt;clear A)
    go_ret;obtain⟨a7,bg,a4,aT,aP,a5,a8,rfl,a9,ba⟩:=(b bm) bi _ (b Z) (uW (b ap) (b Y).size (b aH)) _ _ (by simp) (by omega) (b aG);exact⟨rfl,⟨a7,bg,a4,aT,aP,a5,a8,b B,λp=>by have:=b M p;omega,a9,ba⟩⟩
theorem Qa(am:bB j N w (C J 0 0) [] v)(d:aK)(aY:dF [] d.aF= -1)(W:d.c.aY=true)(ax:d.c.bI=true):Calls h 53 #[g (E (u w 0 J)),t (aw d)] j λs w'=>s=q (F K 0)/\Aj j w' N w [] v d.aF d.c:=by
 have A:=(am.mod ((G.refl No j).alloc (m (aw d) 41)) (λ_ _ c=>c)).find d.aF;rw[aY] at A;have A:=l A;have O:=l λk=>uu d.c k;have M:=l λk=>yW d.c k
 have I:=l λk=>(show Calls h 84 #[fX d.c] k λs w'=>∃a6,s=q a6/\∃e i,a6=C (E (u e 0 J)) (aI d.c).length i/\bE w' e i (aI d.c)/\k.heap.size<e/\G No k w' from
  (yX d.c W k).mono λs w' ⟨e,i,bq,br⟩=>⟨_,bq,e,i,rfl,br⟩)
 have bg:=l (oH W ax);have aT:=l ((G.refl No j).alloc (m (aw d) 41));have x:=l (X.new j (aw d) 41);rw[W] at O;rw[ax] at M;have p:=l am;obtain⟨az,o,ah,ac,aL,aJ,aC,aj,time,a⟩:=d;simp only at *;clear am aY W ax;unfold fX at O M I;unfold aw at *;go_enter func53,ntmps53;go_wp2_with fail;refine(b A).mono ?_;rintro s b8 ⟨rfl,rfl⟩;have bs:=(b x).T;have bw:=(b x).lt;go_wp2_with fail
 refine((b O) _).mono ?_;rintro s b9 ⟨rfl,H⟩;have bt:=(H.e (b x) (λc=>c)).T;have bx:=(H.e (b x) (λc=>c)).lt;clear bs bw;go_wp2_with fail;refine((b M) _).mono ?_;rintro s w3 ⟨rfl,aA⟩;have Q:=l (((b aT).trans H).trans aA);have z:=l (aA.e (H.e (b x) (λc=>c)) (λc=>c));clear bt bx H aA x aT A O M;generalize j.heap.size=T at *;have bu:=(b z).T;have a5:=(b z).lt;go_upto_region 8 with fail
 go_cut [8] (λbJ aN=>∃B e i,bJ=g (E (u B 0 J))/\Hid (jb j aN o a #[F K az,F K o,F K ah,F K ac,F K aL,F K aJ,F K aC,F K aj,F K time,F K a.rows,F K a.y,F K a.Z,F K a.af,F K a.ag,F K a.ai,F K a.aj] B T e i))
 case first=>
  have aa:=l (b z).drew;have bi:=l (b Q).drew;have aB:G No w3 ((w3.alloc (m #[F K 0,F K 0,F K 0,F K 0,F K 0,F K 0,F K 0,F K 0,C J 0 0,F K 0] 134)).drew):=((G.refl _ w3).alloc _).drew;have ab:=l (aB.e (b z) (λc=>c));have bk:=l ((b Q).trans aB);have S:=l (X.new w3 #[F K 0,F K 0,F K 0,F K 0,F K 0,F K 0,F K 0,F K 0,C J 0 0,F K 0] 134).drew;have bY:=l (show T<=w3.heap.size from vO a5);clear aB
  go_region_law (first
   |(refine tj rfl 84 _ _ rfl #[t #[F K a.rows,F K a.y,F K a.Z,F K a.af,F K a.ag,F K a.ai,F K a.aj]] (by simp[aM,bN]) (λk=>by kernel_rfl) _ ((b I) w3.drew) ?_;rintro bO bU ⟨ak,ai,rfl,ao,aO,n⟩;have bv:=(n.e (b aa) (λc=>c)).T;have bz:=(n.e (b aa) (λc=>c)).lt)
   |(refine tj rfl 84 _ _ rfl #[t #[F K a.rows,F K a.y,F K a.Z,F K a.af,F K a.ag,F K a.ai,F K a.aj]] (by simp[aM,bN]) (λk=>by kernel_rfl) _ ((b I) _) ?_;rintro bO bU ⟨ak,ai,rfl,ao,aO,n⟩;have bv:=(n.e (b ab) (λc=>c)).T;have bz:=(n.e (b ab) (λc=>c)).lt;have ca:=(n.e (b S) (λc=>c)).T;have cb:=(n.e (b S) (λc=>c)).aC;have cc:=(n.e (b S) (λc=>c)).lt))
  all_goals go_wp2
  all_goals go_meet
  all_goals first
   |with_reducible exact⟨_,ak,ai,rfl,l (jb.made (b bi) n (b aa) ao aO)⟩
   |with_reducible exact⟨_,ak,ai,rfl,l (jb.xy (b bk) n (b ab) (b S) (b Q).size ao aO)⟩
 case rest=>
  obtain⟨B,e,i,rfl,ad⟩:=hcut;obtain⟨ay,aD,aE,aF,aG⟩:=fq zQ;clear z Q I bu a5
  apply_assumption
  go_upto_block 0 with fail;go_cut [9] (λaH aN=>aH=F K 0/\Hid (jb j aN o a #[F K az,F K o,F K ah,F K ac,F K aL,F K aJ,F K aC,F K aj,F K time,F K a.rows,F K a.y,F K a.Z,F K a.af,F K a.ag,F K a.ai,F K a.aj] B T e i))
  case first=>
   go_wp2_with fail;go_loopw [9] (λaH wr=>aH=F K 0/\Hid (jb j wr o a #[F K az,F K o,F K ah,F K ac,F K aL,F K aJ,F K aC,F K aj,F K time,F K a.rows,F K a.y,F K a.Z,F K a.af,F K a.ag,F K a.ai,F K a.aj] B T e i)) (λ_ _=>0)
   case atStart=>exact⟨rfl,ad⟩
   case round=>
    obtain⟨rfl,r⟩:=hrel;clear ad;have bP:wr.cell? (u w 0 J)=E (C J 0 0):=((b r).mod.e (b p).e (λc=>c)).T 0;have bS:=((b r).mod.e (b p).e (λc=>c)).lt;go_wp2_with fail;go_quiet (fail);go_wp2;go_meet;exact⟨rfl,(b r).still ((G.refl No _).drewN _)⟩
  case rest=>
   obtain⟨rfl,r⟩:=hcut;have bP:=((b r).mod.e (b p).e (λc=>c)).T 0;have bS:=((b r).mod.e (b p).e (λc=>c)).lt;clear ad;have P:=r;go_upto_region 13 with fail;have aQ:=l (show ∀k,Reads k (C J 0 0) 0 [] from λk=>.inl ⟨rfl,rfl⟩);have aP:=l (show ∀y∈([]:List V),y.oneCell'=true from λy hu=>by simp at hu)
   have bh:=l (show ∀y∈di (eI o a e i),y.oneCell'=true from λy hu=>xz [eI o a e i] y (by simpa using hu))
   go_upto_region 15 with(first
    |(at_builtin;refine fJ rfl (.tmp 59) (.tmp 65) 70 rfl 134 ay _ 10 96 ru aD aE aF aG rfl (by decide) (C J 0 0) 0 [] (by simp[aM]) (by exact dx _ _ _ _) (C J 0 0) 0 [] (by simp[aM]) (by exact(b aQ) _) rfl (b aP) (by unfold maxLen;omega) (by omega) ?_;intro bM Z ar aZ a2;
      rw[bK,qJ] at ar;have a8:=l ar;have aS:=l a2;have af:=l ((G.refl No _).grown aZ (by simp[aV]));clear ar aZ a2;have ae:=l ((b P).still (b af));have aX:=(b ae).box.T;have bm:=(b ae).box.lt;unfold cg eI at aX;have n:G No Z (Z.alloc (m (cg (eI o a e i)) 134)):=(G.refl _ _).alloc _;have a9:=l (n.owns (b a8) (λ_ _ c=>c));have bc:=l (FH Z 134 (eI o a e i));clear n ae)
    |(at_builtin;refine fJ rfl (.tmp 67) (.tmp 69) 70 rfl 134 ay _ 10 96 ru aD aE aF aG rfl (by decide) bM 0 [] (by simp[aM]) (by exact b a9) (C (E (u Z.heap.size 0 J)) 1 1) 1 (di (eI o a e i)) (by simp[aM]) (by exact b bc) rfl (b bh) (by unfold maxLen;omega) (by omega) ?_;intro b3 bV au a0 a3;
      clear aX bm;obtain⟨bl,bn,rfl⟩:=aR au;have ba:=l au;have bd:=l a3;have ag:=l (((b af).alloc _).grown a0 (xA (b aS)));clear au a0 a3;have R:=(b P).mod.trans (b ag);have bQ:bV.cell? (u w 0 J)=E (C J 0 0):=(R.e (b p).e (λc=>c)).T 0;have bR:=(R.e (b p).e (λc=>c)).aC;have bT:=(R.e (b p).e (λc=>c)).lt;clear R))
   have aW:=l (uW (xA (b aS)) (by have:=(b af).size;simp;omega) (b bd));have a7:=l (FI (xs:=[]) (now:=v) (ow:=N) (i:=0) (b p) (b P) (b bg) (cz _) (by simp))
   go_wp2_with (at_builtin;refine fJ rfl (.tmp 72) (.tmp 78) 70 rfl 134 ay _ 10 96 ru aD aE aF aG rfl (by decide) (C bl (0+1) bn) (0+1) ([]++di (eI o a e i)) (by simp[aM]) (by exact b ba) (C J 0 0) 0 [] (by simp[aM]) (by exact(b aQ) _) rfl (b aP) (by unfold maxLen;omega) (by omega) ?_;intro b4 bX av a1 a4;obtain⟨bZ,b0,rfl⟩:=aR av;have bb:=l av;have bf:=l a4;have aU:=l ((b ag).grown a1 (b aW));clear av a1 a4 bQ bR bT;have Y:=((b P).mod.trans (b aU)).e (b p).e (λc=>c);have b5:=Y.T 0;have b6:=Y.aC;have b7:=Y.lt;clear Y)
   go_ret;obtain⟨bC,bL,b2,bp,bo,bA,bF,rfl,bH,bI⟩:=(b a7) bX _ (b aU) (uW (b aW) (b ag).size (b bf)) _ _ (by simp) (by simp) (b bb);exact⟨rfl,⟨bC,bL,0,bp,bo,bA,bF,λb1 ap=>absurd ap (fK _),λap=>absurd ap (fK _),bH,bI⟩⟩
structure gd (w w':U) (ow:Nat->Nat) (wb:Nat) (now:Int) (fl:Nat->Option (O×List z)):Prop where
 ex:∃v ys ow',bB w' ow' wb v ys now/\dC ys fl/\(∀k,ow' k≠0->ow k≠0\/w.heap.size<=k)/\(ys=[]->v=C J 0 0)
 mod:G (λk=>ow k≠0) w w'
theorem gd.same{w':U}(c:bB j N w B W v)(e:dC W I)(i:W=[]->B=C J 0 0)(b:G No j w'):gd j w' N w v I:=
 ⟨⟨B,W,N,c.mod b (λ_ _ a=>a),e,λk d=>.inl d,i⟩,b.mono (λ_ _ a=>a.elim)⟩
theorem gd.first{a w':U}(d:gd j w' N w v I)(c:G No a j):gd a w' N w v I:=by
 obtain⟨⟨s,ys,r,e,i,k,n⟩,l⟩:=d;exact⟨⟨s,ys,r,e,i,λp o=>(k p o).imp (λb=>b) (λb=>cC c.size b),n⟩,(c.mono (λ_ _ b=>b.elim)).trans l⟩
theorem Qb(p:O)(a:Int)(j:Nat):(p.at a).cD j=p.cD j:=by
 match j with
 |0=>rfl
 |1=>rfl
 |2=>rfl
 |_+3=>rfl
theorem FJ(p:O)(c:Int)(b:List z):∀a,qy (p.at c) b a=qy p b a
 |0=>rfl
 |a+1=>by
  unfold qy;rw[FJ p c b a,Qb]
theorem FK(p:O)(c:Int)(b:List z)(a:Nat):M.leftOf (p.at c) b a=M.leftOf p b a:=by
 unfold M.leftOf;rw[FJ]
theorem FM(p:O)(d:Int)(c:List z)(e:aK)(i:Int):bH (p.at d) c e i=bH p c e i:=by
 have j:∀b a,(p.at d).e b a=p.e b a:=λ_ _=>rfl;have k:∀b a,aZ (p.at d) c b a=aZ p c b a:=λ_ _=>rfl;unfold bH;simp only[j,k,FK]
theorem Qc(p:O)(e:Int)(c:List z)(d:aK)(i:d.kind≠9):eD (p.at e) c d=eD p c d:=by
 have j:∀b a,(p.at e).idx b a=p.idx b a:=λ_ _=>rfl;have k:∀b a,aZ (p.at e) c b a=aZ p c b a:=λ_ _=>rfl;unfold eD;rw[f i,f i];simp only[j,k]
theorem Qd(a:n.kind<1\/n.kind>9):br v I n=(1,v,I):=by
 unfold br;rw[D a]
theorem Qe(a:n.kind=8)(b:1<=n.time/\n.time<=100):br v I n=(0,v+n.time,λc=>(I c).map (jV (v+n.time))):=by
 unfold br;rw[f (by omega),D a,D b]
theorem Qf(a:n.kind=8)(b:¬(1<=n.time/\n.time<=100)):br v I n=(8,v,I):=by
 unfold br;rw[f (by omega),D a,f b]
theorem FO(a:¬(n.kind<1\/n.kind>9))(b:n.kind≠8)(c:¬(1<=n.aF/\n.aF<=20)):br v I n=(2,v,I):=by
 unfold br;rw[f a,f b,D c]
theorem FU(a:¬(n.kind<1\/n.kind>9))(b:n.kind≠8)(d:1<=n.aF/\n.aF<=20)(c:I n.aF.toNat=J):br v I n=if n.kind=1 then(if n.c.aY=true/\n.c.bI=true then(0,v,λj=>if j=n.aF.toNat then E (n.c.at 1,aI n.c) else I j) else(4,v,I)) else(2,v,I):=by
 unfold br;rw[f a,f b,f (by omega),c]
theorem FV(a:¬(n.kind<1\/n.kind>9))(b:n.kind≠8)(d:1<=n.aF/\n.aF<=20){x:O×List z}(c:I n.aF.toNat=E x):br v I n=if n.kind=1 then(3,v,I) else if bH x.1 x.2 n v=0 then(0,v,λj=>if j=n.aF.toNat then E (iG x.1 n,eD x.1 x.2 n) else I j) else(bH x.1 x.2 n v,v,I):=by
 unfold br;rw[f a,f b,f (by omega),c]
theorem Qg(a:aK)(d:a.kind≠9)(b:Int)(x:aB)(c:bH x.f.c x.f.Y a b=0):((nX a b x).f.c.at (nX a b x).f.ep,(nX a b x).f.Y)=(iG (x.f.c.at x.f.ep) a,eD (x.f.c.at x.f.ep) x.f.Y a):=by
 unfold nX dT iG;simp only;rw[D c,D c,f d,Qc _ _ _ _ d];rfl
theorem Qh(a:aK)(c:Int)(x:aB)(b:bH x.f.c x.f.Y a c≠0):nX a c x=x:=by
 unfold nX dT;rw[f b,f b]
theorem spot:∀(b:List aB) (c:Int),∃d,d<=b.length/\(∀j (a:j<b.length),j<d->b[j].f.num<c)/\∀a:d<b.length,¬b[d].f.num<c
 |[],c=>⟨0,cz _,λj a=>absurd a (fK _),λa=>absurd a (fK _)⟩
 |x::b,c=>by
  by_cases e:x.f.num<c
  .obtain⟨d,k,l,n⟩:=spot b c;refine⟨d+1,by simpa using k,λj a i=>?_,λa=>by simpa using n (by simpa using a)⟩
   cases j with
   |zero=>exact e
   |succ j=>simpa using l j (by simpa using a) (by omega)
  .exact⟨0,gr _,λj a i=>absurd i (fK _),λa=>e⟩
theorem dC.ay(b:dC W I)(a:Int)(i:1<=a/\a<=20)(j:dF W a= -1):W.length<20:=by
 obtain⟨k,c,d,e⟩:=spot W a;exact(b.insert a i j k c d e (eI a ⟨0,0,0,0,0,0,0,0⟩ 0 0) rfl _ rfl).2
theorem Qi(r:bB j N w B W v)(H:dC W I)(a:aK)(ay: -9223372036854775808<=a.time/\a.time<=9223372036854775807)(ao:0<=v/\v<=4611686018427387000)(ax:a.kind≠9)(Q:W=[]->B=C J 0 0):Calls h 27 #[g (E (u w 0 J)),t (aw a)] j λb w'=>b=q (F K (br v I a).1)/\gd j w' N w (br v I a).2.1 (br v I a).2.2:=by
 by_cases ah:a.kind<1\/a.kind>9
 .rw[Qd ah];exact(Ob w a j ah).mono λb w' ⟨P,s⟩=>⟨P,gd.same r H Q s⟩
 by_cases R:a.kind=8
 .by_cases aa:1<=a.time/\a.time<=100
  .rw[Qe R aa];obtain⟨x,d,e,ac,p,o,l,i,time,n⟩:=a;simp only at R aa;subst R;obtain⟨rfl,rfl⟩|⟨ak,ae,rfl,_,_⟩:=r.kL
   .refine zH w d e ac p o l i time n j 0 (λw'=>gd j w' N w (v+time) (λai=>(I ai).map (jV (v+time)))) (λc k=>?_);refine(NU w time v c aa ao (k.e r.e (λy=>y))).mono ?_;rintro b w' ⟨rfl,rfl⟩;have T:=(r.mod k (λ_ _ y=>y)).D9 (v+time);have s:G (λab=>N ab≠0) c (c.setCell (u w 1 J) (F K (v+time))):=(G.refl _ c).setCell (p:=u w 1 J) (.inl (by rw[r.bw];omega)) _
    exact⟨rfl,gd.first ⟨⟨_,[],N,T,H.tick (v+time),λab X=>.inl X,λ_=>rfl⟩,s⟩ k⟩
   .by_cases af:0<W.length
    .refine zH w d e ac p o l i time n j 0 (λw'=>gd j w' N w (v+time) (λai=>(I ai).map (jV (v+time)))) (λc k=>?_);refine(NW w ak ae W N time v c aa ao (r.mod k (λ_ _ y=>y)) af).mono ?_;rintro b w' ⟨rfl,T,s⟩;exact⟨rfl,gd.first ⟨⟨_,_,N,T,H.tick (v+time),λab X=>.inl X,λb=>by rw[List.map_eq_nil_iff] at b;rw[b] at af;exact absurd af (yv _)⟩,s⟩ k⟩
    .have:=Q (iC (by omega))
     cases this
  .rw[Qf R aa];obtain⟨x,d,e,ac,p,o,l,i,time,n⟩:=a;simp only at R aa;subst R;refine zH w d e ac p o l i time n j 8 (λw'=>gd j w' N w v I) (λc k=>?_);exact(NT w time c aa).mono λb w' ⟨P,az⟩=>⟨P,by subst az;exact gd.same r H Q k⟩
 by_cases A:1<=a.aF/\a.aF<=20
 case neg=>
  rw[FO ah R A];have S:=λc (k:G No j c)=>(r.mod k (λ_ _ y=>y)).find a.aF;obtain⟨x,d,e,ac,p,o,l,i,time,n⟩:=a;exact(Ed w d e ac p o l i time n j x (by simp only at *;omega) _ A S).mono λb w' ⟨P,s⟩=>⟨P,gd.same r H Q s⟩
 have S:=λc (k:G No j c)=>(r.mod k (λ_ _ y=>y)).find a.aF;obtain⟨f1,f2⟩|⟨Z,hi,f1,f2,f3⟩:=H.find a.aF A
 .rw[FU ah R A f2];by_cases M:a.kind=1
  .rw[D M];by_cases Y:a.c.aY=true/\a.c.bI=true
   .rw[D Y];have ad:∀c,G No j c->Calls h 53 #[g (E (u w 0 J)),t (aw a)] c λb w'=>b=q (F K 0)/\gd j w' N w v (λar=>if ar=a.aF.toNat then E (a.c.at 1,aI a.c) else I ar):=λc k=>by
     have am:=r.mod k (λ_ _ y=>y);have ap:Calls h 53 #[g (E (u w 0 J)),t (aw a)] c λb w'=>b=q (F K 0)/\Aj c w' N w W v a.aF a.c:=by
      obtain⟨rfl,rfl⟩|⟨ak,ae,rfl,_,_⟩:=am.kL
      .exact Qa am a f1 Y.1 Y.2
      .by_cases af:0<W.length
       .refine P' am af a f1 Y.1 Y.2 ?_;exact H.ay a.aF A f1
       .have:=Q (iC (by omega))
        cases this
     refine ap.mono ?_;rintro b w' ⟨rfl,s,aJ,ai,av,ae,aA,aC,aD,aE,aF,aG⟩;obtain⟨aH,aL⟩:=H.insert a.aF A f1 ai aC aD aE (eI a.aF a.c av ae) rfl (a.c.at 1,aI a.c) rfl;refine⟨rfl,gd.first ⟨⟨aJ,_,aA,aF,aH,aG,λb=>by simp at b⟩,s.mono (λab _ b=>?_)⟩ k⟩;subst b;rw[r.bw];omega
    obtain⟨x,d,e,ac,p,o,l,i,time,n⟩:=a;simp only at M;subst M;exact zI w d e ac p o l i time n j _ 0 _ A S ad
   .rw[f Y];have ad:∀c,G No j c->Calls h 53 #[g (E (u w 0 J)),t (aw a)] c λb w'=>b=q (F K 4)/\gd j w' N w v I:=λc k=>
     (PT (r.mod k (λ_ _ y=>y)) a f1 Y).mono λb w' ⟨P,s⟩=>⟨P,gd.same r H Q (k.trans s)⟩
    obtain⟨x,d,e,ac,p,o,l,i,time,n⟩:=a;simp only at M;subst M;exact zI w d e ac p o l i time n j _ 4 _ A S ad
  .rw[f M];rw[f1] at S;obtain⟨x,d,e,ac,p,o,l,i,time,n⟩:=a;exact(Ee w d e ac p o l i time n j x (by simp only at *;omega) (-1) A (by omega) M S).mono λb w' ⟨P,s⟩=>⟨P,gd.same r H Q s⟩
 .rw[FV ah R A f3];by_cases M:a.kind=1
  .rw[D M];have ad:∀c,G No j c->Calls h 53 #[g (E (u w 0 J)),t (aw a)] c λb w'=>b=q (F K 3)/\gd j w' N w v I:=λc k=>
    (PS (r.mod k (λ_ _ y=>y)) a Z f1).mono λb w' ⟨P,s⟩=>⟨P,gd.same r H Q (k.trans s)⟩
   obtain⟨x,d,e,ac,p,o,l,i,time,n⟩:=a;simp only at M;subst M;exact zI w d e ac p o l i time n j _ 3 _ A S ad
  .rw[f M];simp only;rw[FM];obtain⟨ak,ae,rfl⟩:=r.some (by omega);have ap:=λ(x d e ac p o l i time:Int) (n:O) (aj:a=⟨x,d,e,ac,p,o,l,i,time,n⟩)=>
    OH r x d e ac p o l i time n (by subst aj;simp only at *;omega) (by subst aj;exact A) (by subst aj;exact ay) ao Z hi (by subst aj;exact f1)
   obtain⟨x,d,e,ac,p,o,l,i,time,n⟩:=a;refine(ap x d e ac p o l i time n rfl).mono ?_;rintro b w' ⟨rfl,T,s⟩;by_cases ag:bH W[Z].f.c W[Z].f.Y ⟨x,d,e,ac,p,o,l,i,time,n⟩ v=0
   .rw[D ag];refine⟨by rw[ag],⟨_,_,N,T,?_,λab X=>.inl X,λb=>by have au:=(Qj _ _).1 b;rw[au] at hi;exact absurd hi (fK _)⟩,s⟩;exact H.set d A Z hi f1 (nX ⟨x,d,e,ac,p,o,l,i,time,n⟩ v W[Z]) rfl _ (Qg _ ax v W[Z] ag)
   .rw[f ag];rw[Qh _ _ _ ag,pj] at T;exact⟨rfl,⟨_,_,N,T,H,λab X=>.inl X,Q⟩,s⟩
def gK(a:O)(c:List z)(b:Nat):Nat:=(bY a (c.take b)).length
def xB(a:O)(c:List z)(b:Nat):Nat:=(stay a (c.take b)).length
theorem FW(a:List z):cG a+ew a=a.length:=by
 induction a with
 |nil=>rfl
 |cons c a d=>
  unfold cG ew at *;simp only[mW,eL];by_cases b:c.st=0<;>simp[b]<;>omega
theorem Qk{a x:z}(p:a.wf)(r:x.wf)(b:a.st=0)(c:x.st=0)(o:x.row=a.row)(n:x.ae=a.ae):x=a:=by
 obtain⟨d,e,i⟩:=p.bare (.inl b);obtain⟨j,k,l⟩:=r.bare (.inl c);obtain⟨G,s,I,A,w,N⟩:=a;obtain⟨H,v,M,B,y,O⟩:=x;simp only at *;subst b c o n d e i j k l;rfl
theorem FX{p:O}(e:aJ p S)(n:R.aY=true)(o:R.bI=true)(a:Nat)(hi:a<S.length)(l:R.e S[a].row S[a].ae=true):∃b:R.idx S[a].row S[a].ae<(stay R (S.take a)).length,(stay R (S.take a))[R.idx S[a].row S[a].ae].row=S[a].row/\(stay R (S.take a))[R.idx S[a].row S[a].ae].ae=S[a].ae/\stay R (S.take (a+1))=(stay R (S.take a)).set (R.idx S[a].row S[a].ae) S[a]:=by
 have hS:=uk e n o a (by omega);obtain⟨b,f0,j,i⟩:=hS.free e hi l;refine⟨b,j,i,?_⟩;rw[pP R S a hi];unfold my;by_cases d:S[a].st=0
 .rw[f (λc=>c.1 d)];have c:=Qk (e.dX _ (eK hi)) (hS.wf.dX _ (eK b)) d f0 j i;have k:(stay R (S.take a)).set (R.idx S[a].row S[a].ae) ((stay R (S.take a))[R.idx S[a].row S[a].ae])=stay R (S.take a):=pj b;rw[c] at k;exact k.symm
 .rw[D ⟨d,l⟩]
def xC(num:Int)(a:O)(e b c:Nat)(d:Int):Array V:=
 #[F K num,F K a.rows,F K a.y,F K a.Z,F K a.af,F K a.ag,F K a.ai,F K a.aj,C (E (u e 0 J)) b c,F K d]
structure iy (w wr:U) (mO g cap:Nat) (Q:O) (num ep:Int) (acc:List z):Prop where
 e:X wr mO (xC num Q g acc.length cap ep) 134
 row:bE wr g cap acc
 wf:aJ Q acc
 ne:mO≠g
 new:w.heap.size<=mO/\w.heap.size<=g
 mod:G No w wr
theorem iy.FY{wr:U}{num:Int}(a:iy j wr w Q P R num v S):fY wr w 0 Q P R S:=by
 refine⟨a.row,by have:=ju a.wf;omega,a.ne,a.e.T 8,λb c=>?_⟩;have:=a.e.T (4+b);rw[bK,this]
 match b,c with
 |0,_=>rfl
 |1,_=>rfl
 |2,_=>rfl
 |3,_=>rfl
theorem iy.step{wr w2:U}{num:Int}{S:Nat->Prop}(a:iy j wr w Q P R num v o)(c:G S wr w2)(d:¬S w)(e:¬S Q)(i:∀b,S b->j.heap.size<=b):iy j w2 w Q P R num v o:=
 ⟨c.e a.e d,a.row.mod c e,a.wf,a.ne,a.new,a.mod.trans' c (λb k l=>by have:=i b k;omega)⟩
theorem iy.still{wr w2:U}{num:Int}(b:iy j wr w Q P R num v S)(c:G No wr w2):iy j w2 w Q P R num v S:=
 b.step c (λa=>a) (λa=>a) (λd a=>a.elim)
theorem iy.put{wr:U}{num:Int}(b:iy k wr w Q P R num v S)(j:Nat)(c:j<S.length)(a:z)(o:a.wf)(n:S[j].row=a.row)(i:S[j].ae=a.ae):iy k ((((((wr.setCell ⟨Q,j* 6,J⟩ (F K a.row)).setCell ⟨Q,j* 6+1,J⟩ (F K a.ae)).setCell ⟨Q,j* 6+2,J⟩ (F K a.st)).setCell ⟨Q,j* 6+3,J⟩ (F K a.pa)).setCell ⟨Q,j* 6+4,J⟩ (F K a.cl)).setCell ⟨Q,j* 6+5,J⟩ (F K a.un)) w Q P R num v (S.set j a):=by
 have d:=(G.refl (λe=>e=Q) wr).kK rfl j (F K a.row) (F K a.ae) (F K a.st) (F K a.pa) (F K a.cl) (F K a.un);have l:=d.e b.e b.ne;refine⟨?_,b.row.kK j c a,b.wf.set c o n.symm i.symm,b.ne,b.new,b.mod.trans' d (λe p r=>by have:=b.new.2;omega)⟩;rw[kH];exact l
structure jc (w wr:U) (mO g cap:Nat) (Q:O) (num ep:Int) (l:List z) (v:V) (i:Nat):Prop where
 n:iy w wr mO g cap Q num ep (stay Q (l.take i))
 home:wr.ownsRow 0 63 6 v (gK Q l i) ((bY Q (l.take i)).flatMap cq)
 own:∀k,v.ownBlock=E k->w.heap.size<=k/\k≠mO/\k≠g
theorem jc.still{wr w2:U}{num:Int}(a:jc j wr w Q P R num v S B p)(b:G No wr w2):jc j w2 w Q P R num v S B p:=
 ⟨a.n.still b,b.owns a.home (λ_ _ c=>c),a.own⟩
theorem jc.start{w wr:U}{num:Int}(c:List z)(a:iy w wr Q P p R num v (aI R)):jc w wr Q P p R num v c (C J 0 0) 0:=
 ⟨a,dx _ _ _ _,λd b=>by simp[aV] at b⟩
theorem jc.pass{wr:U}{num:Int}(b:jc j wr w Q P R num v S B p)(hi:p<S.length)(i:R.e S[p].row S[p].ae=false)(c:S[p].st=0):jc j wr w Q P R num v S B (p+1):=by
 have d:stay R (S.take (p+1))=stay R (S.take p):=by
  rw[pP R S p hi];unfold my;rw[f (λa=>a.1 c)]
 have e:bY R (S.take (p+1))=bY R (S.take p):=by
  rw[nE R S p hi,f (λa=>a.1 c),dG]
 refine⟨by rw[d];exact b.n,?_,b.own⟩;have:=b.home;unfold gK at *;rw[e];exact this
theorem jc.lay{p:O}{wr:U}{num:Int}{a:Nat}(c:jc j wr w Q P R num v S B a)(k:aJ p S)(s:R.aY=true)(x:R.bI=true)(hi:a<S.length)(i:R.e S[a].row S[a].ae=true)(b:z)(I:S[a]=b):jc j ((((((wr.setCell ⟨Q,R.idx b.row b.ae* 6,J⟩ (F K b.row)).setCell ⟨Q,R.idx b.row b.ae* 6+1,J⟩ (F K b.ae)).setCell ⟨Q,R.idx b.row b.ae* 6+2,J⟩ (F K b.st)).setCell ⟨Q,R.idx b.row b.ae* 6+3,J⟩ (F K b.pa)).setCell ⟨Q,R.idx b.row b.ae* 6+4,J⟩ (F K b.cl)).setCell ⟨Q,R.idx b.row b.ae* 6+5,J⟩ (F K b.un)) w Q P R num v S B (a+1):=by
 subst I;obtain⟨y,r,o,l⟩:=FX k s x a hi i;have n:bY R (S.take (a+1))=bY R (S.take a):=by
  rw[nE R S a hi,f (λd=>d.2 i),dG]
 have H:=(G.refl (λe=>e=Q) wr).kK rfl (R.idx S[a].row S[a].ae) (F K S[a].row) (F K S[a].ae) (F K S[a].st) (F K S[a].pa) (F K S[a].cl) (F K S[a].un);refine⟨?_,?_,c.own⟩
 .rw[l];exact c.n.put _ y S[a] (k.dX _ (eK hi)) r o
 .have:=H.owns c.home (λe A d=>(c.own e A).2.2 d);unfold gK at *;rw[n];exact this
theorem FZ{Q:O}(hi:w<S.length)(a:¬(S[w].st≠0/\¬Q.e S[w].row S[w].ae=true)):gK Q S (w+1)=gK Q S w:=by
 unfold gK;rw[nE Q S w hi,f a,dG]
theorem Ql{Q:O}(hi:w<S.length)(a:S[w].st≠0/\¬Q.e S[w].row S[w].ae=true):gK Q S (w+1)=gK Q S w+1:=by
 unfold gK;rw[nE Q S w hi,D a,bG];rfl
theorem F0(c:O)(a:List z)(d:Nat):gK c a d<=a.length:=by
 unfold gK bY;have:=sP (λb:z=>b.st !=0&& !c.e b.row b.ae) (a.take d);rw[eO] at this;omega
theorem jc.leave{wr w2 w3:U}{num:Int}{v':V}(c:jc j wr w Q P R num v S B p)(hi:p<S.length)(l:R.e S[p].row S[p].ae=false)(r:S[p].st≠0)(k:G No wr w2)(e:Obj)(y:w3.ownsRow 0 63 6 v' (gK R S p+1) ((bY R (S.take p)).flatMap cq++cq S[p]))(x:(w2.alloc e).grownBy w3 B.ownBlock)(A:fm (w2.alloc e) B v'):jc j w3 w Q P R num v S v' (p+1):=by
 have n:stay R (S.take (p+1))=stay R (S.take p):=by
  rw[pP R S p hi];unfold my;rw[f (λd=>by have:=d.2;rw[l] at this;cases this)]
 have o:bY R (S.take (p+1))=bY R (S.take p)++[S[p]]:=by
  rw[nE R S p hi,D ⟨r,by rw[l];simp⟩]
 have s:G (λa=>j.heap.size<=a/\a≠w/\a≠Q) wr w3:=((k.mono (λ_ _ b=>b.elim)).alloc e).grown x (λa i=>.inl (c.own a i));have H:=c.n.row.lt;have I:=c.n.e.lt;have N:=c.n.mod.size;have M:=(k.alloc e).size;refine⟨by rw[n];exact c.n.step s (λb=>b.2.1 rfl) (λb=>b.2.2 rfl) (λa b=>b.1),?_,λa i=>?_⟩
 .unfold gK at *;rw[o,bG,jW];simpa using y
 .obtain d|d:=A a i
  .exact c.own a d
  .omega
def mP:Code->List Code
 | .loop b=>.loop b::mP b
 | .seq a c=>mP a++mP c
 | .block _ b=>mP b
 | .scope b=>mP b
 | .cond _ a c=>mP a++mP c
 |_=>[]
noncomputable def swapLoop(a:Nat):Code:=((mP (f54.body.getD .skip))[a]?).getD .skip
theorem Qm{p:O}{gf af ao am:Nat}{num:Int}(aN:fY j gf w Q P p S)(aw:aJ p S)(aI:R.aY=true)(aK:R.bI=true)(aF:Exit->Act->U->Prop)(aL:Hid (jc j k af ao am R num v S (C J 0 0) 0))(aT bu bI bV b7 dk cK a5 bi bn bo bp bq br bs bt bv bw bx bz bA bB bC bE bF bH bJ bL bM bO bP bQ bR bS bT bU bX bY bZ b0 b1 b2 b3 b4 b5 b6 b8 b9 cL cM cO cP cR cS cT cU cV cW cX cY cZ c0 c1 c2 c3 c4 c5 c6 c7 c8 c9 c' db dc dd de df dg dh di dj ca cb cc cd ce cf cg ch ci cj ck cl cm cn co aU aW aX aY aZ a0 a1 a2 a3 a4 a6 a7 a8 a9 ba bb bc bd bf bg bk bl bm:V)
  (ed:∀(dW d8 dm dn dp dq dr dt dv dw dz dA dB dC dD dF dH dI dJ dK dL dM dN dO dP dQ dR dS dT dU dV dX dY dZ d6 d7:V) (a:Option Addr) (I:Nat) (cp:U),Hid (jc j cp af ao am R num v S (C a (gK R S S.length) I) S.length)->aF (.exit 0) ⟨#[g (E (u gf w J)),aT,bu,bI,bV,b7,g (E (u af 0 J)),C a (gK R S S.length) I,dW,d8,dm,a5,bi,bn,bo,bp,bq,br,bs,bt,bv,bw,bx,bz,bA,bB,bC,bE,bF,bH,bJ,bL,bM,bO,bP,bQ,bR,bS,bT,bU,bX,bY,bZ,b0,b1,b2,b3,b4,b5,b6,b8,b9,dn,dp,dq,dr,dt,dv,dw,dz,dA,dB,dC,dD,dF,dH,dI,dJ,dK,dL,dM,dN,dO,dP,dQ,dR,dS,dT,dU,dV,dX,dY,dZ,d6,d7,ca,cb,cc,cd,ce,cf,cg,ch,ci,cj,ck,cl,cm,cn,co,aU,aW,aX,aY,aZ,a0,a1,a2,a3,a4,a6,a7,a8,a9,ba,bb,bc,bd,bf,bg,bk,bl,bm],[]⟩ cp):
  Code.wp h (swapLoop 0) aF ⟨#[g (E (u gf w J)),aT,bu,bI,bV,b7,g (E (u af 0 J)),C J 0 0,F K 0,dk,cK,a5,bi,bn,bo,bp,bq,br,bs,bt,bv,bw,bx,bz,bA,bB,bC,bE,bF,bH,bJ,bL,bM,bO,bP,bQ,bR,bS,bT,bU,bX,bY,bZ,b0,b1,b2,b3,b4,b5,b6,b8,b9,cL,cM,cO,cP,cR,cS,cT,cU,cV,cW,cX,cY,cZ,c0,c1,c2,c3,c4,c5,c6,c7,c8,c9,c',db,dc,dd,de,df,dg,dh,di,dj,ca,cb,cc,cd,ce,cf,cg,ch,ci,cj,ck,cl,cm,cn,co,aU,aW,aX,aY,aZ,a0,a1,a2,a3,a4,a6,a7,a8,a9,ba,bb,bc,bd,bf,bg,bk,bl,bm],[]⟩ k:=by
 conv=>arg 4;dsimp only
 conv=>arg 2;whnf
 have cr:=l aN;have aE:=l aw;have ay:=l aI;have az:=l aK;have cB:S.length<=120:=ju aw;obtain⟨cE,cF,cG,cH,cI⟩:=fq tV;clear aN aw aI aK;go_loopw [7,8] (λcJ ax wr=>∃(d:Nat) (a:Option Addr) (I:Nat),ax=F K d/\d<=S.length/\cJ=C a (gK R S d) I/\Hid (jc j wr af ao am R num v S (C a (gK R S d) I) d)) (λ_ ax _=>S.length - (intOf ax).toNat)
 case atStart=>exact⟨0,J,0,rfl,by omega,rfl,aL⟩
 case round=>
  obtain⟨d,a,I,rfl,hi,rfl,o⟩:=hrel;clear aL;have A:=(b cr).mod (b o).n.mod;have fs:=A.slice;by_cases n:d<S.length
  .have cA:(d:Int)<(S.length:Int):=by omega
   have ec:(0:Int)<=d:=by omega
   have ee:K.wrap ((d:Int)+1)=((d+1:Nat):Int):=by rw[bh _ (by omega) (by omega)];rfl
   have ag:=A.row.row d n;have ah:=A.row.ae d n;have ai:=A.row.st d n;have ae:=A.row.pa d n;have aj:=A.row.cl d n;have ak:=A.row.un d n;obtain⟨c,e⟩:∃c,S[d]=c:=⟨_,rfl⟩;rw[e] at ag ah ai ae aj ak;have H:=l ((G.refl No wr).alloc (m #[F K c.row,F K c.ae,F K c.st,F K c.pa,F K c.cl,F K c.un] 63));have ab:=l (X.new wr #[F K c.row,F K c.ae,F K c.st,F K c.pa,F K c.cl,F K c.un] 63);have ea:=l e
   cases x:R.e c.row c.ae with
   |true=>
    have aa:=l λr (s:G No wr r)=>wU ((b o).n.still s).FY ((b o).n.wf) c.row c.ae x;obtain⟨au,_⟩:=FX (b aE) (b ay) (b az) d n (by rw[e];exact x);rw[e] at au;have aB:=l λr (s:G No wr r)=>((b o).still s).lay (b aE) (b ay) (b az) n (by rw[e];exact x) c e;have aC:=l λr (s:G No wr r)=>((b o).n.still s);have aP:(stay R (S.take d)).length=xB R S d:=rfl
    have eg:(R.idx c.row c.ae:Int)<(xB R S d:Nat):=by rw[<-aP];omega
    have eh:xB R S d<=120:=ju (b o).n.wf;have ef:(0:Int)<=(R.idx c.row c.ae:Nat):=by omega
    generalize R.idx c.row c.ae=W at *;have Z:=l au;have M:=l (FZ (Q:=R) n (by rw[e,x];simp));clear e x au aP;have d9:=l o;clear A;go_wp2_with fail;refine((b aa) _ (b H)).mono ?_;rintro aH i ⟨rfl,y⟩;have N:=l ((b H).trans y);have ad:=l (y.e (b ab) (λY=>Y));clear ag ah ai ae aj ak fs y;generalize wr.heap.size=aS at *;have aG:=(b ad).T;have ej:=(b ad).lt;have B:=(b aC) i (b N)
    have ek:i.cell? (u af 8 J)=E (C (E (u ao 0 J)) (xB R S d) am):=B.e.T 8;have el:=B.row.iX;have d0:=B.row.row W (b Z);have d1:=B.row.ae W (b Z);have d2:=B.row.st W (b Z);have d3:=B.row.pa W (b Z);have d4:=B.row.cl W (b Z);have d5:=B.row.un W (b Z);generalize (stay R (S.take d))[W]'(b Z)=Y at *;have em:=B.row.lt;clear B aa aC ab H;have ct:=l ((b aB) i (b N));clear aB N;go_wp2
    exact⟨⟨d+1,a,I,rfl,by omega,by rw[b M],by rw[b M];exact b ct⟩,by simp[intOf];omega⟩
   |false=>
    have aa:=l λr (s:G No wr r)=>wV ((b o).n.still s).FY ((b o).n.wf) c.row c.ae x;clear A;by_cases T:c.st=0
    .have M:=l (FZ (Q:=R) n (by rw[e,T];simp));have aD:=l λr (s:G No wr r)=>((b o).still s).pass n (by rw[e];exact x) (by rw[e];exact T);have hd:(c.st !=0)=false:=by simp[T]
     clear e x T;go_wp2_with fail;refine((b aa) _ (b H)).mono ?_;rintro aH i ⟨rfl,y⟩;have N:=l ((b H).trans y);have ad:=l (y.e (b ab) (λY=>Y));clear ag ah ai ae aj ak fs y;generalize wr.heap.size=aS at *;have aG:=(b ad).T;have cx:=l ((b aD) _ (b N));clear aa aD ab H;go_wp2;exact⟨⟨d+1,a,I,rfl,by omega,by rw[b M],by rw[b M];exact b cx⟩,by simp[intOf];omega⟩
    .have M:=l (Ql (Q:=R) n (by rw[e,x];exact⟨T,by simp⟩));have ei:gK R S d<=120:=cC (F0 R S d) cB;have ar:=l λ(i w3:U) (ap:V) (cD:G No wr i)=>(b o).leave (w2:=i) (w3:=w3) (v':=ap) n (by rw[e];exact x) (by rw[e];exact T) cD (m #[F K c.row,F K c.ae,F K c.st,F K c.pa,F K c.cl,F K c.un] 63);rw[e] at ar;have hd:(c.st !=0)=true:=by simp[T]
     have aA:=l λr (s:G No wr r)=>s.owns (b o).home (λ_ _ Y=>Y);clear e x T;go_wp2_with fail;refine((b aa) _ (b H)).mono ?_;rintro aH i ⟨rfl,y⟩;have N:=l ((b H).trans y);have ad:=l (y.e (b ab) (λY=>Y));clear ag ah ai ae aj ak fs y;generalize wr.heap.size=aS at *;have aG:=(b ad).T;have cs:=l λ(w3:U) (ap:V)=>(b ar) i w3 ap (b N)
     have cu:=l ((b aA) _ ((b N).alloc (m #[F K c.row,F K c.ae,F K c.st,F K c.pa,F K c.cl,F K c.un] 63)))
     have cv:=l (show Reads (i.alloc (m #[F K c.row,F K c.ae,F K c.st,F K c.pa,F K c.cl,F K c.un] 63)) (C (E (u i.heap.size 0 J)) 1 1) 1 (cq c) from
      .inr ⟨(u i.heap.size 0 J),1,rfl,λW dl hu=>by
       rw[dE,bK,(X.new i #[F K c.row,F K c.ae,F K c.st,F K c.pa,F K c.cl,F K c.un] 63).T,<-dy]
       exact hu⟩)
     clear aa ar aA ab H
     go_wp2_with (at_builtin;refine fJ rfl (.tmp 81) (.tmp 83) 61 rfl 63 cE _ 6 48 qT cF cG cH cI rfl (by decide) (C a (gK R S d) I) (gK R S d) _ (by simp[aM]) (by exact b cu) (C (E (u i.heap.size 0 J)) 1 1) 1 (cq c) (by simp[aM]) (by exact b cv) rfl (by intro dl hu;simp[cq,eB] at hu;obtain rfl|rfl|rfl|rfl|rfl|rfl:=hu<;>rfl) (by unfold maxLen;omega) (by omega) ?_;intro ap w3 av aO aQ;obtain⟨cy,ae,rfl⟩:=aR av;have cw:=l ((b cs) w3 _ av aO aQ);clear av aO aQ)
     exact⟨⟨d+1,cy,ae,rfl,by omega,by rw[b M],by rw[b M];exact b cw⟩,by simp[intOf];omega⟩
  .have cA:¬(d:Int)<(S.length:Int):=by omega
   obtain rfl:d=S.length:=by omega
   clear A;go_wp2
theorem Ak{a:Option Addr}(c:j.ownsRow 0 63 6 (C a S.length w) S.length (S.flatMap cq))(p:0<S.length):∃b,a=E (u b 0 J)/\bE j b w S:=by
 obtain⟨_,o|⟨b,k,l,i,_⟩⟩:=id c
 .omega
 .injection i with d n e;subst d e;exact⟨b,rfl,(yt c).2⟩
structure km (w wr:U) (mO g cap:Nat) (Q:O) (num ep:Int) (acc0 hs:List z) (v:V) (n:Nat):Prop where
 kY:iy w wr mO g cap Q num ep (dn acc0 hs n)
 mF:jU Q (dn acc0 hs n) (hs.length - n)
 home:wr.ownsRow 0 63 6 v hs.length (hs.flatMap cq)
 own:∀k,v.ownBlock=E k->w.heap.size<=k/\k≠mO/\k≠g
theorem km.still{wr w2:U}{num:Int}(a:km j wr w Q P R num v S o B p)(b:G No wr w2):km j w2 w Q P R num v S o B p:=
 ⟨a.kY.still b,a.mF,b.owns a.home (λ_ _ c=>c),a.own⟩
theorem km.free{wr:U}{num:Int}(a:km j wr w Q P R num v S o B p)(b:p<o.length):dL (dn S o p)<(dn S o p).length:=
 v8 (n:=o.length - p - 1) (by rw[show o.length - p - 1+1=o.length - p by omega];exact a.mF)
theorem km.next{wr:U}{num:Int}(e:km j wr w Q P R num v S o B p)(W:∀c∈o,c.wf/\c.st≠0)(y:p<o.length)(c:z)(T:o[p]=c)(b:Nat)(i:dL (dn S o p)=b)(k:b<(dn S o p).length)(x:z)(X:(dn S o p)[b]=x):km j ((((((((wr.setCell ⟨Q,b* 6,J⟩ (F K c.row)).setCell ⟨Q,b* 6+1,J⟩ (F K c.ae)).setCell ⟨Q,b* 6+2,J⟩ (F K c.st)).setCell ⟨Q,b* 6+3,J⟩ (F K c.pa)).setCell ⟨Q,b* 6+4,J⟩ (F K c.cl)).setCell ⟨Q,b* 6+5,J⟩ (F K c.un)).setCell ⟨Q,b* 6,J⟩ (F K x.row)).setCell ⟨Q,b* 6+1,J⟩ (F K x.ae)) w Q P R num v S o B (p+1):=by
 subst i X T;have A:=W _ (eK y);have N:jU R (dn S o p) ((o.length - (p+1))+1):=by rw[show o.length - (p+1)+1=o.length - p by omega];exact e.mF
 have n:=jU.step N A.1 A.2;have s:dn S o (p+1)=dh (dn S o p) o[p]:=by
  unfold dn;rw[wH y]
 have r:dn S o (p+1)=(dn S o p).set (dL (dn S o p)) (z.at o[p] (dn S o p)[dL (dn S o p)]):=by
  rw[s];unfold dh;rw[qR,du k];rfl
 rw[<-s] at n;have d:=e.kY;generalize Y:dn S o p=a at *;have I:=(d.row.kK (dL a) k o[p]);have M:=(I.put k 0 (by omega) (F K a[dL a].row) ⟨a[dL a].row,o[p].ae,o[p].st,o[p].pa,o[p].cl,o[p].un⟩ rfl).put k 1 (by omega) (F K a[dL a].ae) (z.at o[p] a[dL a]) rfl
 have l:=(((G.refl (λb=>b=Q) wr).kK rfl (dL a) (F K o[p].row) (F K o[p].ae) (F K o[p].st) (F K o[p].pa) (F K o[p].cl) (F K o[p].un)).setCell (p:=⟨Q,dL a* 6,J⟩) (.inl rfl) (F K a[dL a].row)).setCell (p:=⟨Q,dL a* 6+1,J⟩) (.inl rfl) (F K a[dL a].ae);refine⟨⟨?_,?_,n.wf,d.ne,d.new,d.mod.trans' l (λb i Z=>by have:=d.new.2;omega)⟩,n,l.owns e.home (λb i H=>(e.own b i).2.2 H),e.own⟩
 .have:=l.e d.e d.ne;rw[r,kH];exact this
 .rw[r];exact M
theorem Qn{num:Int}(ca:p<o.length)(A:Exit->Act->U->Prop)(d:Hid (km j k w Q P R num v S o B p))(G H aE aQ a2 bd bC bR b3 I ae ax ay az aA aB aC aD aF aG aH aI aJ aK aL aN aO aP aR aS aT aU aW aX aY aZ a0 a1 a3 a4 a5 a6 a7 a8 a9 ba bb bc bf bg bi bk bl bm bn bo bp bq br bs bt bu bv bw bx bz bA bB bE bF bH bI bJ bL bM bO bP bQ bS bT bU bV bX bY bZ b0 b1 b2 b4 cb cc cd ce cf cg ch ci cj M N T W X Y Z aa ab ad af ag ah ai aj ak am ao ap ar au av aw:V)
  (b6:∀(ck cl cm cn co cp cq cr cs:V),A (.exit 4) ⟨#[G,H,aE,aQ,a2,bd,g (E (u w 0 J)),bC,bR,b3,I,ae,F K (dL (dn S o p):Nat),ax,ay,az,aA,aB,aC,aD,aF,aG,aH,aI,aJ,aK,aL,aN,aO,aP,aR,aS,aT,aU,aW,aX,aY,aZ,a0,a1,a3,a4,a5,a6,a7,a8,a9,ba,bb,bc,bf,bg,bi,bk,bl,bm,bn,bo,bp,bq,br,bs,bt,bu,bv,bw,bx,bz,bA,bB,bE,bF,bH,bI,bJ,bL,bM,bO,bP,bQ,bS,bT,bU,bV,bX,bY,bZ,b0,b1,b2,b4,ck,cl,cm,cn,co,cp,cq,cr,cs,M,N,T,W,X,Y,Z,aa,ab,ad,af,ag,ah,ai,aj,ak,am,ao,ap,ar,au,av,aw],[]⟩ k):
  Code.wp h (swapLoop 2) A ⟨#[G,H,aE,aQ,a2,bd,g (E (u w 0 J)),bC,bR,b3,I,ae,F K 0,ax,ay,az,aA,aB,aC,aD,aF,aG,aH,aI,aJ,aK,aL,aN,aO,aP,aR,aS,aT,aU,aW,aX,aY,aZ,a0,a1,a3,a4,a5,a6,a7,a8,a9,ba,bb,bc,bf,bg,bi,bk,bl,bm,bn,bo,bp,bq,br,bs,bt,bu,bv,bw,bx,bz,bA,bB,bE,bF,bH,bI,bJ,bL,bM,bO,bP,bQ,bS,bT,bU,bV,bX,bY,bZ,b0,b1,b2,b4,cb,cc,cd,ce,cf,cg,ch,ci,cj,M,N,T,W,X,Y,Z,aa,ab,ad,af,ag,ah,ai,aj,ak,am,ao,ap,ar,au,av,aw],[]⟩ k:=by
 conv=>arg 4;dsimp only
 conv=>arg 2;whnf
 have b7:=(b d).free ca;have cy:(dn S o p).length<=120:=ju (b d).kY.wf
 have b5:=l (show ∀(a:Nat),a<(dn S o p).length->∃c:Int,k.cell? ⟨Q,a* 6+2,J⟩=E (F K c)/\(a<dL (dn S o p)->c≠0)/\(a=dL (dn S o p)->c=0) from λa x=>
  ⟨_,(b d).kY.row.st a x,λs=>Kb s x,λs=>by subst s;exact v9 b7⟩)
 have cx:k.cell? (u w 8 J)=E (C (E (u Q 0 J)) (dn S o p).length P):=(b d).kY.e.T 8;generalize dL (dn S o p)=e at *;generalize (dn S o p).length=i at *;go_loopw [12] (λy wr=>∃a:Nat,y=F K a/\a<=e/\wr=k) (λy _=>i - (intOf y).toNat)
 case atStart=>exact⟨0,rfl,by omega,rfl⟩
 case round=>
  obtain⟨a,rfl,x,rfl⟩:=hrel;have b9:a<i:=by omega
  have cw:(a:Int)<(i:Int):=by omega
  have cu:(0:Int)<=a:=by omega
  have cv:K.wrap ((a:Int)+1)=((a+1:Nat):Int):=by rw[bh _ (by omega) (by omega)];rfl
  obtain⟨c,ct,n,r⟩:=(b b5) a b9;by_cases b8:a<e
  .have hd:(c !=0)=true:=by simpa using n b8
   clear n r;go_wp2;exact⟨⟨a+1,rfl,by omega,by trivial⟩,by simp[intOf];omega⟩
  .obtain rfl:a=e:=by omega
   have hd:(c !=0)=false:=by simpa using r rfl
   clear n r;go_wp2;apply b6
end Go.Proofs.YthhibagcpjeihaaGreat
