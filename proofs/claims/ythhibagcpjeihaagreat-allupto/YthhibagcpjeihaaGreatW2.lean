import Derived.Test.YthhibagcpjeihaaGreatW1
import Derived.Deep.MidRow
import Derived.Handy
import Derived.Laws.BitsLemmas
import Derived.Orders
open Go.Proofs.Tryz
open Go.Addr renaming mk->u,add_mid->dE
open Go.Value renaming int->F,pointer->g,slice->C,bool->L,agg->t,tuple->aq,ownBlock->aV
open Go.IntKind renaming i64->K,signed->oz
open Option renaming none->J,some->E
open Go renaming World->U,Value->V
open Go.Proofs.Tryz renaming prog->h
open Go.Ending renaming returned->q
open Go.Obj renaming cells->m
open Go.Act renaming eval->aM,put->bN
open Go.Region renaming binds->gQ,wanted->jD
open Go.Instr renaming index->iQ
open List renaming range->jF
open Go.Oper renaming wp->gu
set_option linter.unusedVariables false
set_option linter.unusedSimpArgs false
set_option maxRecDepth 100000
set_option maxHeartbeats 8000000
namespace Go.Proofs.YthhibagcpjeihaaGreat
open Go.RowKit
theorem G.setCells{S:Nat->Prop}{a:U}{b:Nat}(e:S b\/a.heap.size<=b):∀(k:List V) (c:Nat) (w:U),G S a w->G S a (w.setCells b c k)
 |[],_,_,d=>d
 |j::i,c,w,d=>G.setCells e i (c+1) _ (d.setCell (p:=u b c J) e j)
def pA:Array V->Nat->List V->Array V
 |cs,_,[]=>cs
 |cs,a,c::b=>pA (cs.setIfInBounds a c) (a+1) b
variable {j:TypeId} {p S o:Nat} {k:List V} {I:Array V} {W:V} {N:List Int} {B:Act->U->Prop} {R:U} {i:Nat->Prop} {n:Int}
theorem X.setCells{b:Nat}:∀(e:List V) (a:Nat) (w:U) (d:Array V),X w b d j->X (w.setCells b a e) b (pA d a e) j
 |[],_,_,_,c=>c
 |k::i,a,_,_,c=>X.setCells i (a+1) _ _ (c.set a k)
theorem Bv:∀(k:List V) (b:Nat) (c:Array V) (a:Nat),(pA c b k)[a]? =if b<=a/\a<b+k.length/\a<c.size then k[a - b]? else c[a]?
 |[],b,c,a=>by
  simp only[pA,iR,tP];rw[f (by omega)]
 |l::j,b,c,a=>by
  simp only[pA];rw[Bv j (b+1) _ a];simp only[Array.size_setIfInBounds,eL];by_cases e:b+1<=a/\a<b+1+j.length/\a<c.size
  .rw[D e,D ⟨by omega,by omega,e.2.2⟩];obtain⟨d,rfl⟩:∃d,a=b+1+d:=⟨a - (b+1),by omega⟩;rw[show b+1+d - (b+1)=d by omega,show b+1+d - b=d+1 by omega];rfl
  .rw[f e];by_cases i:b<=a/\a<b+(j.length+1)/\a<c.size
   .have:a=b:=by omega
    subst this;rw[D i,vI i.2.2,Nat.sub_self];rfl
   .rw[f i];by_cases hi:b=a
    .subst hi;rw[tO,D rfl,f (by omega),Bw (by omega)]
    .rw[mn hi]
theorem yp:∀(d:List V) (b:Nat) (a:Array V),(pA a b d).size=a.size
 |[],_,_=>rfl
 |e::c,b,a=>by simp only[pA];rw[yp c (b+1) _];simp
theorem tQ(b a:Array V)(d:a.size=b.size):pA b 0 a.toList=a:=by
 apply Bx
 .rw[yp,d]
 .intro i e c;have:=Bv a.toList 0 b i;rw[D ⟨by omega,by simpa using c,by omega⟩] at this;rw[da e] at this;simpa [da c] using this
theorem X.range{w:U}{d:TypeId}(e:X w p I d)(c:Nat)(b:List V)(i:∀j a,b[j]? =E a->I[c+j]? =E a):w.rangeAt p c b:=
 λj a k=>by rw[e.T];exact i j a k
theorem rZ{P:Program}{ops:Array Oper}{rest:List Oper}{op:Oper}{a:Act}{w:U}{Q:Exit->Act->U->Prop}(p:op.guard=J)(ty:TypeId)(x:Operand)(s:op.op=.load ty x)(d c:Nat)(v:a.eval x=g (E (u d c J)))(e:Array V)(k:TypeId)(o:X w d e k)(b:Array V)(r:∀j i,b.toList[j]? =E i->e[c+j]? =E i)
  (hu:(P.underlying ty).map (·.isRow)=E true)(hi:(P.info? ty).map (·.size)=E b.size)(n:wpList P ops Q rest (a.put op.dst (t b)) w):wpList P ops Q (op::rest) a w:=by
 cases hd:P.underlying ty with
 |none=>rw[hd] at hu;simp at hu
 |some l=>
  rw[hd] at hu;exact wpList_load_mid p ty x s d c v b.toList l (o.range c _ r) hd (by simpa using hu) (by simpa using hi) n
theorem yq{P:Program}{ops:Array Oper}{rest:List Oper}{op:Oper}{a:Act}{w:U}{Q:Exit->Act->U->Prop}(n:op.guard=J)(ty:TypeId)(x i:Operand)(o:op.op=.store ty x i)(b:Nat)(cells:Array V)(r:a.eval x=g (E (u b 0 J)))(hy:a.eval i=t cells)(c:Array V)(j:TypeId)(d:X w b c j)(p:cells.size=c.size)
  (hi:(P.info? ty).map (·.size)=E cells.size)(l:cells.all (·.oneCell')=true)(k:∀w',X w' b cells j->G (λe=>e=b) w w'->wpList P ops Q rest (a.put op.dst undef) w'):wpList P ops Q (op::rest) a w:=by
 refine wpList_store_mid n ty x i o b 0 cells r hy (λv s=>⟨?_,d.aC _⟩) hi l (k _ ?_ ?_)
 .rw[d.T,bK,da (by omega)];rfl
 .have:=d.setCells cells.toList 0;rw[tQ c cells p] at this;exact this
 .exact G.setCells (S:=λe=>e=b) (.inl rfl) _ _ _ (G.refl _ _)
def Reads(w:U)(x:V)(c:Nat)(i:List V):Prop:=
 (x=C J 0 0/\c=0)\/∃a e,x=C (E a) c e/\∀b d,i[b]? =E d->w.cell? (a.add b)=E d
theorem pB{w:U}{size:Nat}(a:w.ownsRow p j size W S k):Reads w W S k:=by
 obtain⟨e,i⟩|⟨d,c,o,b,_,_⟩:=a.2
 .exact .inl ⟨e,i⟩
 .refine .inr ⟨(u d 0 J),c,b,λl n hu=>?_⟩;exact a.cells (by rw[b];rfl) l n hu
theorem Reads.mod{S:Nat->Prop}{w w':U}{x:V}(b:Reads w x p k)(o:G S w w')(r:∀e,x.ownBlock=E e->¬S e):Reads w' x p k:=by
 obtain b|⟨a,i,rfl,l⟩:=b
 .exact .inl b
 .refine .inr ⟨a,i,rfl,λd s hu=>?_⟩;have c:=l d s hu;have j:(a.add d).block=a.block:=by unfold Addr.add;split<;>rfl
  have n:=jk w _ c;rw[oB (w:=w) (o.block _ n (by rw[j];exact r _ rfl))];exact c
def fm(w:U)(b v':V):Prop:=∀a,v'.ownBlock=E a->b.ownBlock=E a\/w.heap.size<=a
theorem IA{P:Program}(w:U)(s ty l:TypeId)(a:TypeInfo)(G:V)(size bytes:Nat)(z:P.underlying s=E (.slice l))(hi:P.info? l=E a)(Z:a.zero=E G)(W:a.size=size)(S:a.bytes=bytes)(aa:G.cells.size=size)(X:0<size)(A:V)(j:Nat)(B:List V)(n:w.ownsRow 0 l size A j B)(x:V)(b:Nat)(c:List V)(am:Reads w x b c)(v:c.length=b* size)(O:∀ao∈c,ao.oneCell'=true)
  (R:j+b<=maxLen)(T:(j+b)* bytes<=140737488355328):∃v' w',(Builtin.append_ #[s,s] ty #[A,x]).run P w=.ok v' w'/\w'.ownsRow 0 l size v' (j+b) (B++c)/\w.grownBy w' A.ownBlock/\fm w A v':=by
 have ak:w.grownBy w A.ownBlock:=⟨rfl,rfl,rfl,cz _,λ_ _ _=>rfl⟩;obtain⟨rfl,rfl⟩|⟨H,I,rfl,M⟩:=am
 .obtain rfl:c=[]:=iC (by simpa using v);refine⟨A,w,?_,by simpa using n,ak,λr i=>.inl i⟩;obtain⟨rfl,rfl⟩|⟨p,k,o,rfl,_,_,ad,_⟩:=n.2
  .simp[Builtin.append_,jj z,sizeOf,typeInfo,hi,Builtin.lenOf,Builtin.firstCells,loadCells,loadCellsFrom]
  .simp[Builtin.append_,jj z,sizeOf,typeInfo,hi,Builtin.lenOf,Builtin.firstCells,loadCells,loadCellsFrom,ad,storeCells]
 .have au:=n;obtain⟨rfl,rfl⟩|⟨p,k,o,rfl,_,aj,ad,ar,hcs,av⟩:=n.2
  .obtain rfl:B=[]:=iC (by simpa using n.1);obtain⟨v',w',y,d,e,ap⟩:=run_append_own (P:=P) w w.heap.size s ty l a G size bytes z hi Z W S aa X (C J 0 0) 0 [] (dx _ _ _ _) H b I c v M O R T (cz _);refine⟨v',w',y,⟨d.1,?_⟩,e,λr i=>.inr (d.lt r i).1⟩;obtain N|⟨p,k,o,Y,_,ab⟩:=d.2
   .exact .inl N
   .exact .inr ⟨p,k,o,Y,gr _,ab⟩
  .by_cases af:j+b<=k
   .subst W;have ai:j* a.size+c.length<=o.size:=by rw[v,hcs,<-lE];exact pC _ af
    have y:=run_append_room (P:=P) w s ty l a z hi p j k o aj H b I c v M O af ai;obtain⟨v',w',ae,d,e,_⟩:=run_append_own (P:=P) w 0 s ty l a G a.size bytes z hi Z rfl S aa X _ j B n H b I c v M O R T (gr _);rw[y] at ae;injection ae with ag ah;subst ag;subst ah;exact⟨_,_,y,d,e,λr i=>.inl i⟩
   .obtain⟨v',w',y,d,e⟩:=run_append_arg_grows (P:=P) w s ty l a G size bytes z hi Z W S aa X (u p 0 J) j k B n.1 (n.cells rfl) H b I c v M (by omega) R T;refine⟨v',w',y,⟨d.1,?_⟩,⟨e.os,e.tape,e.output,e.size,λr i _=>e.block r i (by simp)⟩,λr i=>.inr (d.lt r i).1⟩;obtain N|⟨p,k,o,Y,_,ab⟩:=d.2
    .exact .inl N
    .exact .inr ⟨p,k,o,Y,gr _,ab⟩
section
variable {P:Program} {w:U}
theorem Bz{k:Oper}{a:Act}{Q:Exit->Act->U->Prop}(r s:Operand)(l:TypeId)(O:k.op=.call { callee:=.builtin .append,args:=#[r,s],argTypes:=#[l,l] })(c:TypeId)(d:TypeInfo)(p:V)(size bytes:Nat)(X:P.underlying l=E (.slice c))(hi:P.info? c=E d)(Z:d.zero=E p)(T:d.size=size)(I:d.bytes=bytes)(aa:p.cells.size=size)(W:0<size)
  (j:V)(e:Nat)(o:List V)(S:a.eval r=j)(R:w.ownsRow 0 c size j e o)(x:V)(b:Nat)(i:List V)(Y:a.eval s=x)(n:Reads w x b i)(N:i.length=b* size)(y:∀ab∈i,ab.oneCell'=true)(H:e+b<=maxLen)(M:(e+b)* bytes<=140737488355328)(v:∀v' w',w'.ownsRow 0 c size v' (e+b) (o++i)->w.grownBy w' j.ownBlock->fm w j v'->B (a.put k.dst v') w'):k.wp P a w B Q:=by
 obtain⟨v',w',n,z,A,G⟩:=IA (P:=P) w l k.type c d p size bytes X hi Z T I aa W j e o R x b i n N y H M;unfold gu execOp;simp only[O,resolve,invoke,builtin,yr,Sem.run_pure,BC,IB,oC,BD,S,Y,n];exact v v' w' z A G
theorem fJ{ops:Array Oper}{rest:List Oper}{k:Oper}{a:Act}{Q:Exit->Act->U->Prop}(M:k.guard=J)(n p:Operand)(l:TypeId)(O:k.op=.call { callee:=.builtin .append,args:=#[n,p],argTypes:=#[l,l] })(c:TypeId)(d:TypeInfo)(r:V)(size bytes:Nat)(Y:P.underlying l=E (.slice c))(hi:P.info? c=E d)(aa:d.zero=E r)
  (W:d.size=size)(H:d.bytes=bytes)(ab:r.cells.size=size)(X:0<size)(j:V)(e:Nat)(o:List V)(T:a.eval n=j)(R:w.ownsRow 0 c size j e o)(x:V)(b:Nat)(i:List V)(Z:a.eval p=x)(S:Reads w x b i)(N:i.length=b* size)(v:∀ad∈i,ad.oneCell'=true)(B:e+b<=maxLen)(I:(e+b)* bytes<=140737488355328)
  (s:∀v' w',w'.ownsRow 0 c size v' (e+b) (o++i)->w.grownBy w' j.ownBlock->fm w j v'->wpList P ops Q rest (a.put k.dst v') w'):wpList P ops Q (k::rest) a w:=
 wpList_plain M λ_ G=>Bz n p l O c d r size bytes Y hi aa W H ab X j e o T R x b i Z S N v B I λv' w' y z A=>G _ _ (s v' w' y z A)
theorem tR{ops:Array Oper}{c:Oper}{a:Act}{Q:Exit->Act->U->Prop}{s:Prop}(H:c.guard=J)(n p:Operand)(l:TypeId)(M:c.op=.call { callee:=.builtin .append,args:=#[n,p],argTypes:=#[l,l] })(d:TypeId)(e:TypeInfo)(r:V)(size bytes:Nat)(W:P.underlying l=E (.slice d))(hi:P.info? d=E e)(Z:e.zero=E r)
  (S:e.size=size)(A:e.bytes=bytes)(aa:r.cells.size=size)(T:0<size)(k:V)(i:Nat)(o:List V)(R:a.eval n=k)(N:w.ownsRow 0 d size k i o)(x:V)(b:Nat)(j:List V)(Y:a.eval p=x)(O:Reads w x b j)(I:j.length=b* size)(y:∀ab∈j,ab.oneCell'=true)(z:i+b<=maxLen)(G:(i+b)* bytes<=140737488355328)
  (v:∀v' w',w'.ownsRow 0 d size v' (i+b) (o++j)->w.grownBy w' k.ownBlock->fm w k v'->B (a.put c.dst v') w'):if jD c (yielded ops a.tmps)=true then gu P c a w B Q else s:=by
 have X:jD c (yielded ops a.tmps)=true:=by simp[jD,H]
 rw[D X];exact Bz n p l M d e r size bytes W hi Z S A aa T k i o R N x b j Y O I y z G v
end
open M
def eB(a:z):Array V:=#[F K a.row,F K a.ae,F K a.st,F K a.pa,F K a.cl,F K a.un]
structure bE (w:U) (g cap:Nat) (l:List z):Prop where
 cur:∃cur,X w g cur 63/\cur.size=cap* 6/\∀i (h:i<l.length) j,j<6->cur[i* 6+j]? =(eB l[i])[j]?
 le:l.length<=cap
 max:cap<=maxLen
variable {v:List z}
theorem bE.T{w:U}(b:bE w p S v)(a:Nat)(hi:a<v.length)(j:Nat)(e:j<6):w.cell? ⟨p,a* 6+j,J⟩=(eB v[a])[j]? :=by
 obtain⟨i,c,k,d⟩:=b.cur;rw[c.T];exact d a hi j e
theorem bE.row{w:U}{c d:Nat}{b:List z}(e:bE w c d b)(a:Nat)(hi:a<b.length):w.cell? ⟨c,a* 6,J⟩=E (F K b[a].row):=e.T a hi 0 (by omega)
theorem bE.ae{w:U}(b:bE w p S v)(a:Nat)(hi:a<v.length):w.cell? ⟨p,a* 6+1,J⟩=E (F K v[a].ae):=b.T a hi 1 (by omega)
theorem bE.st{w:U}(a:bE w p S v)(i:Nat)(hi:i<v.length):w.cell? ⟨p,i* 6+2,J⟩=E (F K v[i].st):=a.T i hi 2 (by omega)
theorem bE.pa{w:U}(b:bE w p S v)(a:Nat)(hi:a<v.length):w.cell? ⟨p,a* 6+3,J⟩=E (F K v[a].pa):=b.T a hi 3 (by omega)
theorem bE.cl{w:U}(b:bE w p S v)(a:Nat)(hi:a<v.length):w.cell? ⟨p,a* 6+4,J⟩=E (F K v[a].cl):=b.T a hi 4 (by omega)
theorem bE.un{w:U}(b:bE w p S v)(a:Nat)(hi:a<v.length):w.cell? ⟨p,a* 6+5,J⟩=E (F K v[a].un):=b.T a hi 5 (by omega)
theorem bE.lt{w:U}(a:bE w p S v):p<w.heap.size:=by
 obtain⟨c,b,_⟩:=a.cur;exact b.lt
theorem bE.mod{w w':U}{S:Nat->Prop}(a:bE w p o v)(j:G S w w')(i:¬S p):bE w' p o v:=by
 obtain⟨b,c,d,e⟩:=a.cur;exact⟨⟨b,j.e c i,d,e⟩,a.le,a.max⟩
theorem qH{l:Type}(b:Nat)(n:0<b)(e:l->List V)(i:∀x,(e x).length=b):∀(c:List l) (a:Nat) (d:a<c.length) (j:Nat),j<b->(c.flatMap e)[a* b+j]? =(e c[a])[j]?
 |[],a,d,_,_=>absurd d (fK _)
 |x::c,0,d,j,k=>by
  rw[jE,vJ,bK,vK (by rw[i];exact k)];rfl
 |x::c,a+1,d,j,k=>by
  rw[jE,tS (by rw[i,lE];omega),i];rw[show(a+1)* b+j - b=a* b+j by rw[lE,sf];omega];exact qH b n e i c a (by simpa using d) j k
theorem nh{e:Type}(c:Nat)(b:e->List V)(d:∀x,(b x).length=c):∀(a:List e),(a.flatMap b).length=a.length* c
 |[]=>by simp
 |x::a=>by rw[jE,bG,nh c b d a,d,eL,lE];omega
def cq(a:z):List V:=(eB a).toList
theorem tT(a:z):(cq a).length=6:=rfl
theorem yt{w:U}(e:w.ownsRow 0 63 6 (C (E (u p 0 J)) S o) v.length (v.flatMap cq)):S=v.length/\bE w p o v:=by
 obtain⟨H,i|⟨G,B,b,x,I,j,n,l,r,s⟩⟩:=e
 .exact absurd i.1 (by simp)
 .injection x with a c d;injection a with a;injection a with a;subst a c d;refine⟨rfl,⟨b,j,r,λy hi A k=>?_⟩,n,l⟩;have:=qH 6 (by omega) cq tT v y hi A k;rw[<-s,oD,D (by omega)] at this;rw[<-dy,this];simp[cq]
theorem IC{w:U}(b:bE w p S v):w.ownsRow 0 63 6 (C (E (u p 0 J)) v.length S) v.length (v.flatMap cq):=by
 obtain⟨d,i,j,k⟩:=b.cur;refine⟨nh 6 cq tT v,.inr ⟨p,S,d,rfl,gr _,i,b.le,b.max,j,?_⟩⟩;apply BF;intro a;rw[oD];by_cases c:a<v.length* 6
 .rw[D c];have hi:a / 6<v.length:=by omega
  have e:a=a / 6* 6+a % 6:=by omega
  rw[e,qH 6 (by omega) cq tT v (a / 6) hi (a % 6) (by omega),dy,k _ hi _ (by omega)];simp[cq]
 .rw[f c,tU (by rw[nh 6 cq tT];omega)]
theorem tV:(h.info? 63).map (λa=>(a.zero,a.size,a.bytes))=E (E (t #[F K 0,F K 0,F K 0,F K 0,F K 0,F K 0]),6,48):=by kernel_rfl
structure dk where
 v:V
 xs:List V
 last:Nat
structure aL where
 f0:dk
 f1:dk
 f2:dk
 f3:dk
 ay:Int
 fuse:Int
def aL.cells(a:aL):Array V:=
 #[a.f0.v,F K a.f0.last,a.f1.v,F K a.f1.last,a.f2.v,F K a.f2.last,a.f3.v,F K a.f3.last,F K a.ay,F K a.fuse]
structure dk.ok (S:Nat->Prop) (w:U) (f:dk):Prop where
 owns:w.ownsRow 0 5 1 f.v f.xs.length f.xs
 last:f.last<=f.xs.length
 len:f.xs.length<=17592186044416
 bytes:∀x∈f.xs,∃n:Int,x=.int .u8 n/\0<=n/\n<256
 dq:∀k,f.v.ownBlock=E k->S k
def dk.apart(b c:dk):Prop:=∀a,b.v.ownBlock=E a->c.v.ownBlock≠E a
theorem dk.apart.symm{a b:dk}(c:a.apart b):b.apart a:=λi e d=>c i d e
structure aL.ok (S:Nat->Prop) (w:U) (b:Nat) (t:aL):Prop where
 e:X w b t.cells 108
 dq:S b
 fL:t.f0.ok S w
 k1:t.f1.ok S w
 k2:t.f2.ok S w
 kC:t.f3.ok S w
 ni:t.f0.apart t.f1
 nj:t.f0.apart t.f2
 nn:t.f0.apart t.f3
 nr:t.f1.apart t.f2
 nt:t.f1.apart t.f3
 nu:t.f2.apart t.f3
theorem qI{S:Nat->Prop}{w:U}{c:dk}(b:c.ok S w):∃a d,c.v=C a c.xs.length d/\(c.xs.length:Int)<=17592186044416:=by
 obtain⟨⟨k,b⟩,_,l,_⟩:=b;obtain⟨b,e⟩|⟨j,d,i,b,_⟩:=b
 .exact⟨J,0,by rw[b,e],by omega⟩
 .exact⟨_,d,b,by omega⟩
def aL.used(a:aL):Nat:=a.f0.xs.length+a.f1.xs.length+a.f2.xs.length+a.f3.xs.length
theorem dk.ok.mod{S S':Nat->Prop}{w w':U}{b:dk}(a:b.ok S w)(d:G S' w w')(e:∀c,b.v.ownBlock=E c->¬S' c):b.ok S w':=
 ⟨d.owns a.owns e,a.last,a.len,a.bytes,a.dq⟩
theorem aL.ok.mod{S S':Nat->Prop}{w w':U}{i:aL}(a:i.ok S w p)(d:G S' w w')(e:∀b,S b->¬S' b):i.ok S w' p:=
 ⟨d.e a.e (e p a.dq),a.dq,a.fL.mod d (λb c=>e b (a.fL.dq b c)),a.k1.mod d (λb c=>e b (a.k1.dq b c)),
  a.k2.mod d (λb c=>e b (a.k2.dq b c)),a.kC.mod d (λb c=>e b (a.kC.dq b c)),a.ni,a.nj,a.nn,a.nr,a.nt,a.nu⟩
theorem aL.ok.bC{S:Nat->Prop}{w w':U}{a:aL}(b:a.ok S w p)(c:G No w w'):a.ok S w' p:=b.mod c (λ_ _ d=>d)
theorem dk.ok.wide{S S':Nat->Prop}{w:U}{c:dk}(a:c.ok S w)(e:∀b,S b->S' b):c.ok S' w:=⟨a.owns,a.last,a.len,a.bytes,λb d=>e b (a.dq b d)⟩
theorem aL.ok.wide{S S':Nat->Prop}{w:U}{d:aL}(a:d.ok S w p)(b:∀c,S c->S' c):d.ok S' w p:=
 ⟨a.e,b _ a.dq,a.fL.wide b,a.k1.wide b,a.k2.wide b,a.kC.wide b,a.ni,a.nj,a.nn,a.nr,a.nt,a.nu⟩
def gD(a:Int):Int:=if 0<a then a - 1 else a
theorem ID(b:aL)(a:Int):b.cells.setIfInBounds 9 (F K a)=({ b with fuse:=a }:aL).cells:=rfl
theorem aL.ok.fuse{S:Nat->Prop}{w:U}{k:aL}(a:k.ok S w p)(i:Int):({ k with fuse:=i }:aL).ok S (w.setCell (u p 9 J) (F K i)) p:=by
 have n:∀(b:dk),b.ok S w->b.v.ownBlock≠E p:=λb c d=>by
  obtain⟨j,_⟩|⟨s,o,r,j,_,l,_⟩:=c.owns.2
  .rw[j] at d;simp[aV] at d
  .rw[j] at d;simp[aV] at d;subst d;exact a.e.ne (T':=5) l (by decide) rfl
 have e:∀(b:dk),b.ok S w->b.ok S (w.setCell (u p 9 J) (F K i)):=λb c=>
  ⟨jh c.owns (by simpa using n b c) _,c.last,c.len,c.bytes,c.dq⟩
 exact⟨by have:=a.e.set 9 (F K i);rwa [ID] at this,a.dq,e _ a.fL,e _ a.k1,e _ a.k2,e _ a.kC,a.ni,a.nj,a.nn,a.nr,a.nt,a.nu⟩
theorem sg{S:Nat->Prop}(c:Nat)(a:aL)(w:U)(e:a.ok S w c)(r: -9223372036854775808<=a.fuse/\a.fuse<=9223372036854775807):Calls h 73 #[g (E (u c 0 J))] w λo w'=>o=q (L (decide (a.fuse≠0)))/\({ a with fuse:=gD a.fuse }:aL).ok S w' c/\G (· =c) w w':=by
 have k:=e.e.T;have z:=e.e.aC;have i:=l e;have j:a.cells[9]? =E (F K a.fuse):=rfl;have n:=k 9;rw[j] at n;clear k e j;obtain⟨f0,f1,f2,f3,A,d⟩:=a;simp only at n r;simp only;obtain v|p|s:=Int.lt_trichotomy d 0
 .go_enter func73,ntmps73;go_wp2
  all_goals go_ret
  all_goals exact⟨by simp;omega,by simpa [gD,Int.not_lt.2 (Int.le_of_lt v)] using b i,G.refl _ _⟩
 .subst p;go_enter func73,ntmps73;go_wp2
  all_goals go_ret
  all_goals exact⟨by simp,by simpa [gD] using b i,G.refl _ _⟩
 .have y:K.wrap (d - 1)=d - 1:=by rw[lF];omega
  go_enter func73,ntmps73;go_wp2
  all_goals go_ret
  all_goals exact⟨by simp;omega,by simpa [gD,s] using (b i).fuse (d - 1),G.setCell (S:=λx=>x=c) (G.refl _ w) (p:=u c 9 J) (.inl rfl) _⟩
def aL.get(a:aL):Nat->dk
 |0=>a.f0
 |1=>a.f1
 |2=>a.f2
 |_=>a.f3
def aL.put(b:aL)(a:dk):Nat->aL
 |0=>{ b with f0:=a }
 |1=>{ b with f1:=a }
 |2=>{ b with f2:=a }
 |_=>{ b with f3:=a }
def Touch(b:Nat)(c:dk):Nat->Prop:=λa=>a=b\/c.v.ownBlock=E a
theorem dk.ok.ne{S:Nat->Prop}{w:U}{c:dk}(e:c.ok S w)(d:X w p I 108):c.v.ownBlock≠E p:=λa=>by
 obtain⟨b,_⟩|⟨l,j,k,b,_,i,_⟩:=e.owns.2
 .rw[b] at a;simp[aV] at a
 .rw[b] at a;simp[aV] at a;subst a;exact d.ne (T':=5) i (by decide) rfl
theorem dk.ok.other{S:Nat->Prop}{w w':U}{a b:dk}(c:a.ok S w)(j:X w p I 108)(i:a.apart b)(k:G (Touch p b) w w'):a.ok S w':=
 c.mod k (λl d=>by
  rintro(rfl|e)
  .exact c.ne j d
  .exact i l d e)
theorem aL.ok.put{S S':Nat->Prop}{w w':U}{j:aL}(a:j.ok S w p)(i:Nat)(hi:i<4)(k:dk)(d:G (Touch p (j.get i)) w w')(n:X w' p (j.put k i).cells 108)(l:k.ok S' w')(hS:∀b,S b->S' b)(y:∀b,k.v.ownBlock=E b->(j.get i).v.ownBlock=E b\/w.heap.size<=b):(j.put k i).ok S' w' p:=by
 have lt:∀(e:dk),e.ok S w->∀b,e.v.ownBlock=E b->b<w.heap.size:=λe o b r=>(o.owns.lt b r).2;have c:∀(e:dk),e.ok S w->(j.get i).apart e->k.apart e:=λe o x b r v=>by
  obtain s|s:=y b r
  .exact x b s v
  .have:=lt e o b v;omega
 match i,hi with
 |0,_=>
  exact⟨n,hS _ a.dq,l,(a.k1.other a.e a.ni.symm d).wide hS,(a.k2.other a.e a.nj.symm d).wide hS,(a.kC.other a.e a.nn.symm d).wide hS,
   c _ a.k1 a.ni,c _ a.k2 a.nj,c _ a.kC a.nn,a.nr,a.nt,a.nu⟩
 |1,_=>
  exact⟨n,hS _ a.dq,(a.fL.other a.e a.ni d).wide hS,l,(a.k2.other a.e a.nr.symm d).wide hS,(a.kC.other a.e a.nt.symm d).wide hS,
   (c _ a.fL a.ni.symm).symm,a.nj,a.nn,c _ a.k2 a.nr,c _ a.kC a.nt,a.nu⟩
 |2,_=>
  exact⟨n,hS _ a.dq,(a.fL.other a.e a.nj d).wide hS,(a.k1.other a.e a.nr d).wide hS,l,(a.kC.other a.e a.nu.symm d).wide hS,
   a.ni,(c _ a.fL a.nj.symm).symm,a.nn,(c _ a.k1 a.nr.symm).symm,a.nt,c _ a.kC a.nu⟩
 |3,_=>
  exact⟨n,hS _ a.dq,(a.fL.other a.e a.nn d).wide hS,(a.k1.other a.e a.nt d).wide hS,(a.k2.other a.e a.nu d).wide hS,l,
   a.ni,a.nj,(c _ a.fL a.nn.symm).symm,a.nr,(c _ a.k1 a.nt.symm).symm,(c _ a.k2 a.nu.symm).symm⟩
theorem aL.ok.get{S:Nat->Prop}{w:U}{c:aL}(a:c.ok S w p)(b:Nat)(hi:b<4):(c.get b).ok S w:=by
 match b,hi with
 |0,_=>exact a.fL
 |1,_=>exact a.k1
 |2,_=>exact a.k2
 |3,_=>exact a.kC
theorem mq(b:aL)(a:Nat)(hi:a<4):b.cells[a* 2]? =E (b.get a).v/\b.cells[a* 2+1]? =E (F K (b.get a).last):=by
 match a,hi with
 |0,_=>exact⟨rfl,rfl⟩
 |1,_=>exact⟨rfl,rfl⟩
 |2,_=>exact⟨rfl,rfl⟩
 |3,_=>exact⟨rfl,rfl⟩
theorem vL(c:aL)(d:V)(e:List V)(b:Nat)(a:Nat)(hi:a<4):(c.cells.setIfInBounds (a* 2) d).setIfInBounds (a* 2+1) (F K b)=(c.put ⟨d,e,b⟩ a).cells:=by
 match a,hi with
 |0,_=>rfl
 |1,_=>rfl
 |2,_=>rfl
 |3,_=>rfl
theorem IE(b:aL)(c:V)(d:List V)(a:Nat)(hi:a<4):b.cells.setIfInBounds (a* 2) c=(b.put ⟨c,d,(b.get a).last⟩ a).cells:=by
 match a,hi with
 |0,_=>rfl
 |1,_=>rfl
 |2,_=>rfl
 |3,_=>rfl
theorem IF(b:aL)(d:List V)(c:Nat)(a:Nat)(hi:a<4):b.cells.setIfInBounds (a* 2+1) (F K c)=(b.put ⟨(b.get a).v,d,c⟩ a).cells:=by
 match a,hi with
 |0,_=>rfl
 |1,_=>rfl
 |2,_=>rfl
 |3,_=>rfl
theorem IG(a:Int)(w:U):Calls h 18 #[F K a] w λb w'=>b=q (g (E (u w.heap.size 0 J)))/\w'=w.alloc (m (⟨⟨C J 0 0,[],0⟩,⟨C J 0 0,[],0⟩,⟨C J 0 0,[],0⟩,⟨C J 0 0,[],0⟩,a, -1⟩:aL).cells 108):=by
 go_enter func18,ntmps18;go_wp2;go_ret;exact⟨rfl,rfl⟩
theorem IH(a:Nat)(e:Int)(w:U)(b:Array V)(c:X w a b 108)(j:9<b.size):Calls h 19 #[g (E (u a 0 J)),F K e] w λi w'=>i=q (aq #[])/\w'=w.setCell (u a 9 J) (F K e):=by
 have d:=c.T 9;have k:=c.aC 9;rw[da j] at d;clear c;generalize b[9]=l at d;go_enter func19,ntmps19;go_wp2;go_end0;exact⟨rfl,rfl⟩
theorem vM(a:Nat)(d:Int)(w:U)(b:Array V)(c:X w a b 108)(i:b[8]? =E (F K d)):Calls h 28 #[g (E (u a 0 J))] w λe w'=>e=q (F K d)/\w'=w:=by
 have j:=c.T 8;rw[i] at j;clear c;go_enter func28,ntmps28;go_wp2;go_ret;exact⟨rfl,rfl⟩
theorem BG(a b c d e i j k:V)(w:U):(iQ 106 (t #[a,b,c,d,e,i,j,k]) (F K 0)).run h w=.ok (t #[a,b]) w:=by
 simp[go_sem,iQ]
theorem BH(c d a b e i j k:V)(w:U):(iQ 106 (t #[c,d,a,b,e,i,j,k]) (F K 1)).run h w=.ok (t #[a,b]) w:=by
 simp[go_sem,iQ]
theorem BI(c d e i a b j k:V)(w:U):(iQ 106 (t #[c,d,e,i,a,b,j,k]) (F K 2)).run h w=.ok (t #[a,b]) w:=by
 simp[go_sem,iQ]
theorem BJ(c d e i j k a b:V)(w:U):(iQ 106 (t #[c,d,e,i,j,k,a,b]) (F K 3)).run h w=.ok (t #[a,b]) w:=by
 simp[go_sem,iQ]
attribute [local go_sem] BG BH BI BJ
set_option maxRecDepth 100000 in theorem IJ(k:Nat)(n o p r:Option Addr)(b c i j s v x y:Nat)(I M N O R A:Int)(w:U)(S:b<=17592186044416)(T:c<=17592186044416)(W:i<=17592186044416)(X:j<=17592186044416)(B:∀l,w.cell? (u k l J)=(#[C n b s,F K I,C o c v,F K M,C p i x,F K N,C r j y,F K O,F K R,F K A]:Array V)[l]?):
  Calls h 137 #[g (E (u k 0 J))] w λz w'=>z=q (F K (b+c+i+j:Nat))/\G No w w':=by
 go_enter func137,ntmps137;go_wp2;go_loopw [3,10] (λe a wr=>((a=F K 0/\e=F K 0)\/(a=F K 1/\e=F K b)\/(a=F K 2/\e=F K (b+c))\/(a=F K 3/\e=F K (b+c+i))\/(a=F K 4/\e=F K (b+c+i+j)))/\G No w wr) (λ_ a _=>4 - (intOf a).toNat)
 case atStart=>exact⟨.inl ⟨rfl,rfl⟩,G.refl _ _⟩
 case round=>
  obtain⟨H,d⟩:=hrel;clear B;obtain⟨rfl,rfl⟩|⟨rfl,rfl⟩|⟨rfl,rfl⟩|⟨rfl,rfl⟩|⟨rfl,rfl⟩:=H
  .go_wp2;go_roundw
   .exact⟨.inr (.inl ⟨rfl,rfl⟩),d.alloc _⟩
   .simp[intOf]
  .go_wp2;go_roundw
   .exact⟨.inr (.inr (.inl ⟨rfl,rfl⟩)),d.alloc _⟩
   .simp[intOf]
  .go_wp2;go_roundw
   .exact⟨.inr (.inr (.inr (.inl ⟨rfl,rfl⟩))),d.alloc _⟩
   .simp[intOf]
  .go_wp2;go_roundw
   .exact⟨.inr (.inr (.inr (.inr ⟨rfl,rfl⟩))),d.alloc _⟩
   .simp[intOf]
  .go_wp2;go_ret;exact⟨rfl,d⟩
theorem IK{S:Nat->Prop}(b:Nat)(d:aL)(w:U)(a:d.ok S w b):Calls h 137 #[g (E (u b 0 J))] w λr w'=>r=q (F K d.used)/\G No w w':=by
 have c:=a.e.T;obtain⟨e,l,s,z⟩:=qI a.fL;obtain⟨i,n,v,A⟩:=qI a.k1;obtain⟨j,o,x,B⟩:=qI a.k2;obtain⟨k,p,y,H⟩:=qI a.kC;unfold aL.cells at c;rw[s,v,x,y] at c;exact IJ b e i j k _ _ _ _ l n o p _ _ _ _ _ _ w (by omega) (by omega) (by omega) (by omega) c
theorem IL(e:Nat)(i:Array V)(b a l:Int)(w:U)(hu:0<=b)(y:b<=140737488355328)(s:0<=a)(v:a<=140737488355328)(j:X w e i 108)(n:∀d,G No w d->Calls h 137 #[g (E (u e 0 J))] d λc w'=>c=q (F K b)/\G No d w')(x:i[8]? =E (F K l)):Calls h 122 #[g (E (u e 0 J)),F K a] w λc w'=>c=q (L (decide (b+a<=l)))/\G No w w':=by
 have p:=j.T;have z:=bh (b+a) (by omega) (by omega);go_enter func122,ntmps122;go_wp2_with fail;go_region_with (go_at_call 137;refine(n _ ?_).mono ?_;exact(G.refl No w).drew;rintro c w' ⟨rfl,k⟩;have r:=(k.e j.drew (λo=>o)).T)
 all_goals
  go_wp2;go_ret;exact⟨by simp[bN],(G.refl No w).drew.trans k⟩
theorem vN{S:Nat->Prop}(d:Nat)(a:aL)(c:Int)(w:U)(b:a.ok S w d)(k:0<=c)(l:c<=140737488355328):Calls h 122 #[g (E (u d 0 J)),F K c] w λi w'=>i=q (L (decide (a.used+c<=a.ay)))/\G No w w':=
 IL d a.cells a.used c a.ay w (by omega)
  (by have n:=b.fL.len;have o:=b.k1.len;have p:=b.k2.len;have r:=b.kC.len;unfold aL.used;omega) k l b.e
  (λe j=>IK d a e (b.bC j)) rfl
theorem yu(c:aL)(a:dk)(x:Int)(b:Nat):({ c.put a b with fuse:=x }:aL)=({ c with fuse:=x }:aL).put a b:=by
 unfold aL.put;split<;>rfl
theorem oE(b:aL)(x:Int)(a:Nat):({ b with fuse:=x }:aL).get a=b.get a:=by
 unfold aL.get;split<;>rfl
theorem aL.ok.last{S:Nat->Prop}{w:U}{b:aL}(e:b.ok S w p)(a:Nat)(hi:a<4)(d:Nat)(j:d<=(b.get a).xs.length):(b.put ⟨(b.get a).v,(b.get a).xs,d⟩ a).ok S (w.setCell ⟨p,a* 2+1,J⟩ (F K d)) p:=by
 have c:=e.get a hi;refine e.put a hi _ (G.setCell (G.refl _ w) (p:=⟨p,a* 2+1,J⟩) (.inl (.inl rfl)) _) ?_ ?_ (λ_ k=>k) (λl i=>.inl i)
 .have:=e.e.set (a* 2+1) (F K d)
  rwa [IF b (b.get a).xs d a hi] at this
 .exact⟨jh c.owns (by simpa using c.ne e.e) _,j,c.len,c.bytes,c.dq⟩
theorem IM(d:Nat)(c:aL)(a:Nat)(hi:a<4)(S:Nat->Prop)(w:U)(r:c.ok S w d)(N: -9223372036854775808<=c.fuse/\c.fuse<=9223372036854775807)(H:c.fuse≠0):Calls h 45 #[g (E (u d 0 J)),F K a] w λp w'=>p=q (L true)/\({ c.put ⟨(c.get a).v,(c.get a).xs,(c.get a).xs.length⟩ a with fuse:=gD c.fuse }:aL).ok S w' d/\G (· =d) w w':=by
 have k:=λo (I:c.ok S o d)=>sg d c o I N;simp only[ne_eq,H,not_false_eq_true,decide_true] at k;have y:=l r;have A:=l k;clear k r;have Z:(a:Int)<4:=by omega
 go_enter func45,ntmps45;go_wp2_with fail;refine((b A) _ (b y)).mono ?_;rintro p T ⟨rfl,e,x⟩;have s:=e.e.T (a* 2);have M:=e.e.T (a* 2+1);have aa:=e.e.aC;rw[(mq _ a hi).1] at s;rw[(mq _ a hi).2] at M;obtain⟨X,Y,j,ab⟩:=qI (e.get a hi);rw[j] at s;have z:=l e;have B:=l x;have W:=l j;clear e x j;generalize i:((({ c with fuse:=gD c.fuse }:aL).get a).xs.length)=R at *;have n:=l i;clear i
 go_wp2_with fail;go_region
 all_goals
  go_wp2;go_ret;refine⟨rfl,?_,G.trans (b B) (G.setCell (S:=λO=>O=d) (G.refl _ T) (p:=⟨d,a* 2+1,J⟩) (.inl rfl) _).drew⟩;rw[yu];have v:=aL.ok.last (b z) a hi R (by rw[b n];exact cz _);have i:=b n;rw[oE] at i v;rw[i];exact v.bC (G.refl No _).drew
theorem IP(c:Nat)(a:aL)(k:Nat)(hi:k<4)(S:Nat->Prop)(w:U)(o:a.ok S w c)(e:a.fuse=0):Calls h 45 #[g (E (u c 0 J)),F K k] w λd w'=>d=q (L false)/\a.ok S w' c/\G (· =c) w w':=by
 have j:=λn (A:a.ok S n c)=>sg c a n A (by omega);simp only[ne_eq,e,si,decide_false] at j;have v:=l o;have y:=l j;have p:=l e;clear j o e;have B:(k:Int)<4:=by omega
 go_enter func45,ntmps45;go_wp2_with fail;refine((b y) _ (b v)).mono ?_;rintro d H ⟨rfl,r,s⟩;have x:=l r;have z:=l s;clear r s;go_wp2;go_ret;have i:=b x;rw[show gD 0=0 from rfl] at i;refine⟨rfl,?_,b z⟩;have d:({ a with fuse:=0 }:aL)=a:=by cases a;simp only at p;rw[b p]
 rw[d] at i;exact i
theorem sj:(h.info? 5).map (λa=>(a.zero,a.size,a.bytes))=E (E (.int .u8 0),1,1):=by kernel_rfl
theorem aL.ok.row{S:Nat->Prop}{w i:U}{b:Nat}{c:aL}(e:c.ok S w b)(a:Nat)(hi:a<4)(v':V)(j:List V)(v:w.grownBy i (c.get a).v.ownBlock)(N:i.ownsRow 0 5 1 v' j.length j)(r:fm w (c.get a).v v')(B:(c.get a).last<=j.length)(H:j.length<=17592186044416)(z:∀x∈j,∃s:Int,x=.int .u8 s/\0<=s/\s<256):
  (c.put ⟨v',j,(c.get a).last⟩ a).ok (λd=>S d\/w.heap.size<=d) (i.setCell ⟨b,a* 2,J⟩ v') b/\G S w (i.setCell ⟨b,a* 2,J⟩ v'):=by
 have n:=e.get a hi;have I:G (Touch b (c.get a)) w i:=(G.refl _ w).grown v (λd l=>.inl (.inr l));have y:G (Touch b (c.get a)) w (i.setCell ⟨b,a* 2,J⟩ v'):=I.setCell (p:=⟨b,a* 2,J⟩) (.inl (.inl rfl)) _;have A:X i b c.cells 108:=by
  unfold X;rw[v.block b e.e.lt (λo=>n.ne e.e o.symm)];exact e.e
 have M:v'.ownBlock≠E b:=λo=>by
  obtain k|k:=r b o
  .exact n.ne e.e k
  .have:=e.e.lt;omega
 refine⟨e.put a hi _ y ?_ ?_ (λd l=>.inl l) r,y.mono (λd l p=>?_)⟩
 .have:=A.set (a* 2) v'
  rwa [IE c v' j a hi] at this
 .refine⟨jh N (by simpa using M) _,B,H,z,λd l=>?_⟩;obtain k|k:=r d l
  .exact .inl (n.dq d k)
  .exact .inr k
 .obtain rfl|p:=p
  .exact e.dq
  .exact n.dq d p
theorem IQ(d:Nat)(a:aL)(i:Nat)(hi:i<4)(S:Nat->Prop)(w:U)(k:a.ok S w d)(v:Option Addr)(c r:Nat)(y:c<=17592186044416)(s:a.ay<a.used+c):Calls h 123 #[g (E (u d 0 J)),F K i,C v c r] w λj w'=>j=q (L false)/\G No w w':=by
 have e:=vN d a c w k (by omega) (by omega);have hd:decide ((a.used:Int)+c<=a.ay)=false:=by simp;omega
 rw[hd] at e;have o:=l e;clear e k hd s;have x:(i:Int)<4:=by omega
 go_enter func123,ntmps123;go_wp2_with fail;refine(b o).mono ?_;rintro j z ⟨rfl,n⟩;have p:=l n;clear n;go_wp2;go_ret;exact⟨rfl,b p⟩
set_option maxRecDepth 100000 in theorem IU(e:Nat)(a:aL)(c:Nat)(hi:c<4)(S:Nat->Prop)(w:U)(k:a.ok S w e)(A:Option Addr)(d s:Nat)(j:List V)(v:Reads w (C A d s) d j)(au:(C A d s).ownBlock≠E e)(aj:j.length=d)(hu:∀x∈j,∃z:Int,x=.int .u8 z/\0<=z/\z<256)(aQ:(a.get c).xs.length+d<=17592186044416)(a5:a.used+d<=a.ay)
  (aP: -9223372036854775808<=a.fuse/\a.fuse<=9223372036854775807)(aK:a.fuse≠0):Calls h 123 #[g (E (u e 0 J)),F K c,C A d s] w λi w'=>i=q (L true)/\(∃v',({ a.put ⟨v',(a.get c).xs++j,(a.get c).last⟩ c with fuse:=gD a.fuse }:aL).ok (λr=>S r\/w.heap.size<=r) w' e)/\G S w w':=by
 have H:=vN e a d w k (by omega) (by omega);have hd:decide ((a.used:Int)+d<=a.ay)=true:=by simp;omega
 rw[hd] at H;have aA:=l H;have B:=λab (aN:a.ok S ab e)=>sg e a ab aN aP;simp only[ne_eq,aK,not_false_eq_true,decide_true] at B;have R:=l k;have az:=l B;have aE:=l v;have aH:=l au;have W:=l aj;have Y:=l hu;clear H k hd B v au aj hu;have a4:(c:Int)<4:=by omega
 obtain⟨aT,aX,aY,aZ,a0⟩:=fq sj;go_enter func123,ntmps123;go_wp2_with fail;refine(b aA).mono ?_;rintro i av ⟨rfl,y⟩;have ax:=l ((b R).bC y);have aF:=l ((b aE).mod y (λ_ _ x=>x));have Z:=l y;clear y;go_wp2_with fail;refine((b az) _ (b ax)).mono ?_;rintro i aw ⟨rfl,o,N⟩;have ar:=(b aF).mod N (λr n i=>(b aH) (by rw[n,i]));have aa:=l N;have ad:=o.e.T (c* 2);have a6:=o.e.aC;rw[(mq _ c hi).1] at ad
 have I:=o.e;have p:=o.get c hi;rw[oE] at ad p;have ap:=p.owns;have ak:=p.ne I;have ay:=l o;have a3:=l p;have aG:=l ar;have T:=l I;have aC:=l ap;have aB:=l ak;clear o N ar I p ap ak;have ao:∀O∈j,O.oneCell'=true:=λO hu=>by obtain⟨z,rfl,_⟩:=(b Y) O hu;rfl
 have aD:=l ao;clear ao;go_wp2_with fail
 go_region_law (refine tR rfl (.tmp 33) (.tmp 34) 103 rfl 5 aT (.int .u8 0) 1 1 underlying103 aX aY aZ a0 rfl (by decide) (a.get c).v (a.get c).xs.length (a.get c).xs (by simp[aM,bN]) (by exact b aC) (C A d s) d j (by simp[aM,bN]) (by exact b aG) (by rw[b W];omega) (b aD) (by unfold maxLen;omega) (by omega) ?_;intro v' w3 am ae aS;obtain⟨aI,aJ,rfl⟩:=aR am;have ah:X w3 e _ 108:=(by unfold X;rw[ae.block e (b T).lt (λi=>(b aB) i.symm)];exact b T);have aO:=ah.T (c* 2);have a7:=ah.aC;rw[(mq _ c hi).1] at aO)
 all_goals
  go_wp2;go_ret
 have ai:(a.get c).xs.length+d=((a.get c).xs++j).length:=by rw[bG,b W]
 have ag:=b R;have af:=ag.get c hi;have M:=@aL.ok.row S aw.drew w3 e { a with fuse:=gD a.fuse } ((b ay).bC (G.refl No _).drew) c hi _ ((a.get c).xs++j) (by rw[oE];exact ae)
  (by rw[<-ai];exact am) (by rw[oE];exact aS) (by rw[oE];have:=af.last;rw[bG];omega) (by rw[<-ai];exact aQ)
  (λx v=>by
   obtain k|k:=jR.1 v
   .exact af.bytes x k
   .exact(b Y) x k)
 simp only[oE] at M;have a1:=(b Z).size;have a2:=(b aa).size;have aU:G S w av:=(b Z).mono (λ_ _ x=>x.elim);have aW:G S av aw:=(b aa).mono (λr _ i=>by rw[i];exact ag.dq);refine⟨rfl,⟨C aI ((a.get c).xs.length+d) aJ,?_⟩,(aU.trans aW).drew.trans M.2⟩;rw[yu];refine M.1.wide (λr n=>?_);obtain n|n:=n
 .exact .inl n
 .refine .inr (cC (cC a1 a2) ?_);simpa using n
theorem IV(d:Nat)(a:aL)(p:Nat)(hi:p<4)(S:Nat->Prop)(w:U)(j:a.ok S w d)(T:Option Addr)(i N:Nat)(X:i<=17592186044416)(Y:a.used+i<=a.ay)(k:a.fuse=0):Calls h 123 #[g (E (u d 0 J)),F K p,C T i N] w λc w'=>c=q (L false)/\a.ok S w' d/\G S w w':=by
 have o:=vN d a i w j (by omega) (by omega);have hd:decide ((a.used:Int)+i<=a.ay)=true:=by simp;omega
 rw[hd] at o;have H:=l o;have n:=λv (O:a.ok S v d)=>sg d a v O (by omega);simp only[ne_eq,k,si,decide_false] at n;have s:=l j;have B:=l n;have x:=l k;clear o j hd n k;have W:(p:Int)<4:=by omega
 go_enter func123,ntmps123;go_wp2_with fail;refine(b H).mono ?_;rintro c aa ⟨rfl,r⟩;have z:=l ((b s).bC r);have I:=l r;clear r;go_wp2_with fail;refine((b B) _ (b z)).mono ?_;rintro c ab ⟨rfl,e,y⟩;have A:=l e;have M:=l y;clear e y;go_wp2;go_ret;have e:=b A;rw[show gD 0=0 from rfl] at e;have c:({ a with fuse:=0 }:aL)=a:=by cases a;simp only at x;rw[b x]
 rw[c] at e;exact⟨rfl,e,((b I).mono (λ_ _ R=>R.elim)).trans ((b M).mono (λZ _ c=>by rw[c];exact(b s).dq))⟩
theorem aL.ok.narrow{S:Nat->Prop}{w:U}{j:aL}(a:j.ok S w p):j.ok (λb=>S b/\b<w.heap.size) w p:=by
 have d:∀e:dk,e.ok S w->e.ok (λb=>S b/\b<w.heap.size) w:=λe c=>⟨c.owns,c.last,c.len,c.bytes,λb i=>⟨c.dq b i,(c.owns.lt b i).2⟩⟩;exact⟨a.e,⟨a.dq,a.e.lt⟩,d _ a.fL,d _ a.k1,d _ a.k2,d _ a.kC,a.ni,a.nj,a.nn,a.nr,a.nt,a.nu⟩
theorem IY(c:Nat)(e:aL)(a:Nat)(hi:a<4)(S:Nat->Prop)(w:U)(o:e.ok S w c)(I: -9223372036854775808<=e.fuse/\e.fuse<=9223372036854775807)(z:e.fuse≠0):Calls h 71 #[g (E (u c 0 J)),F K a] w λn w'=>n=q (L true)/\({ e.put ⟨C J 0 0,[],0⟩ a with fuse:=gD e.fuse }:aL).ok S w' c/\G (· =c) w w':=by
 have i:=λk (A:e.ok S k c)=>sg c e k A I;simp only[ne_eq,z,not_false_eq_true,decide_true] at i;have s:=l o;have x:=l i;clear i o;have R:(a:Int)<4:=by omega
 go_enter func71,ntmps71;go_wp2_with fail;refine((b x) _ (b s)).mono ?_;rintro n O ⟨rfl,d,p⟩;have B:=d.e.T (a* 2);have H:=d.e.T (a* 2+1);have T:=d.e.aC;rw[(mq _ a hi).1] at B;rw[(mq _ a hi).2] at H;have v:=l d;have y:=l p;clear d p;go_wp2;go_ret;have d:=b v;refine⟨rfl,?_,((b y).setCell (p:=⟨c,a* 2,J⟩) (.inl rfl) _).setCell (p:=⟨c,a* 2+1,J⟩) (.inl rfl) _⟩;rw[yu]
 refine d.put a hi _ (((G.refl _ O).setCell (p:=⟨c,a* 2,J⟩) (.inl (.inl rfl)) _).setCell (p:=⟨c,a* 2+1,J⟩) (.inl (.inl rfl)) _) ?_ ?_ (λ_ r=>r) (λN j=>by simp[aV] at j)
 .have:=(d.e.set (a* 2) (C J 0 0)).set (a* 2+1) (F K 0)
  rwa [show(F K 0)=F K ((0:Nat):Int) from rfl,vL _ (C J 0 0) [] 0 a hi] at this
 .exact⟨dx _ _ _ _,by simp,by simp,λr M=>by simp at M,λN j=>by simp[aV] at j⟩
theorem IZ(n:Nat)(c:aL)(a:Nat)(hi:a<4)(S:Nat->Prop)(w:U)(e:c.ok S w n):Calls h 89 #[g (E (u n 0 J)),F K a] w λx w'=>∃k,x=q k/\w'.ownsRow 0 5 1 k (c.get a).xs.length (c.get a).xs/\fm w (C J 0 0) k/\G No w w':=by
 have R:(a:Int)<4:=by omega
 have y:=e.e.T (a* 2);rw[(mq _ a hi).1] at y;have d:=e.get a hi;have p:=pB d.owns;have v:=l p;have o:∀j∈(c.get a).xs,j.oneCell'=true:=λj hu=>by obtain⟨W,rfl,_⟩:=d.bytes j hu;rfl
 have s:=l o;have T:=d.len;clear o p d e;obtain⟨A,B,H,I,M⟩:=fq sj;go_enter func89,ntmps89
 go_wp2_with (first|(at_builtin;refine fJ rfl (.const (C J 0 0)) (.tmp 17) 103 rfl 5 A (.int .u8 0) 1 1 underlying103 B H I M rfl (by decide) (C J 0 0) 0 [] (by simp[aM]) (by exact dx _ _ _ _) (c.get a).v (c.get a).xs.length (c.get a).xs (by simp[aM]) (by exact b v) (by omega) (b s) (by unfold maxLen;omega) (by omega) ?_;intro X w3 i z r;obtain⟨N,O,rfl⟩:=aR i));go_ret;rw[bK,qJ] at i
 simp only[bK] at r;exact⟨_,rfl,i,r,(G.refl _ _).grown z (by simp[aV])⟩
theorem Ja(a:aL)(b:Nat)(hi:(b:Int)<4)(w:U):(iQ 106 (t #[a.f0.v,F K a.f0.last,a.f1.v,F K a.f1.last,a.f2.v,F K a.f2.last,a.f3.v,F K a.f3.last]) (F K b)).run h w=.ok (t #[(a.get b).v,F K (a.get b).last]) w:=by
 have c:b<4:=by omega
 match b,c with
 |0,_=>exact BG _ _ _ _ _ _ _ _ _
 |1,_=>exact BH _ _ _ _ _ _ _ _ _
 |2,_=>exact BI _ _ _ _ _ _ _ _ _
 |3,_=>exact BJ _ _ _ _ _ _ _ _ _
attribute [local go_sem] Ja
theorem dk.ok.bC{S:Nat->Prop}{w w':U}{a:dk}(b:a.ok S w)(c:G No w w'):a.ok S w':=b.mod c (λ_ _ d=>d)
theorem tW(d:aL)(c:dk)(b j:Nat)(hi:b<4)(a:j<4):(d.put c b).get j=if j=b then c else d.get j:=by
 match b,hi with
 |0,_=>match j,a with|0,_=>rfl|1,_=>rfl|2,_=>rfl|3,_=>rfl
 |1,_=>match j,a with|0,_=>rfl|1,_=>rfl|2,_=>rfl|3,_=>rfl
 |2,_=>match j,a with|0,_=>rfl|1,_=>rfl|2,_=>rfl|3,_=>rfl
 |3,_=>match j,a with|0,_=>rfl|1,_=>rfl|2,_=>rfl|3,_=>rfl
theorem tX(a:aL)(b:dk)(c:Nat):(a.put b c).ay=a.ay/\(a.put b c).fuse=a.fuse:=by
 unfold aL.put;split<;>exact⟨rfl,rfl⟩
theorem Jb{w wr w3:U}{s:Obj}{a e:aL}{c:Option Addr}(hs3:fm (wr.alloc s).drew (C J 0 0) (C c (0+(a.get S).xs.length) o))(hg3:(wr.alloc s).drew.grownBy w3 (C J 0 0).ownBlock)(ho3:w3.ownsRow 0 5 1 (C c (0+(a.get S).xs.length) o) (0+(a.get S).xs.length) ([]++(a.get S).xs))(y:e.ok (λS=>p<=S) wr p)(M:G No w wr)(R:w.heap.size=p)(T:p<wr.heap.size)(k:S<4)
  (hA:∀b,b<S->(e.get b).xs=(a.get b).xs/\(e.get b).last=(a.get b).last)(z:∀b,S<=b->b<4->e.get b=⟨C J 0 0,[],0⟩)(O:e.ay=a.ay)(B:e.fuse=a.fuse)(H:(a.get S).last<=(a.get S).xs.length)(I:(a.get S).xs.length<=17592186044416)(A:∀x∈(a.get S).xs,∃r:Int,x=.int .u8 r/\0<=r/\r<256):
  ∃t2:aL,t2.ok (λS=>p<=S) ((w3.setCell ⟨p,S* 2,J⟩ (C c (a.get S).xs.length o)).setCell ⟨p,S* 2+1,J⟩ (F K (a.get S).last)) p/\G No w ((w3.setCell ⟨p,S* 2,J⟩ (C c (a.get S).xs.length o)).setCell ⟨p,S* 2+1,J⟩ (F K (a.get S).last))/\p<((w3.setCell ⟨p,S* 2,J⟩ (C c (a.get S).xs.length o)).setCell ⟨p,S* 2+1,J⟩ (F K (a.get S).last)).heap.size/\
   (∀b,b<S+1->(t2.get b).xs=(a.get b).xs/\(t2.get b).last=(a.get b).last)/\(∀b,S+1<=b->b<4->t2.get b=⟨C J 0 0,[],0⟩)/\t2.ay=a.ay/\t2.fuse=a.fuse:=by
 rw[bK,qJ] at ho3;simp only[bK] at hs3;have l:G No wr w3:=((G.refl No wr).alloc s).drew.grown hg3 (by simp[aV]);have N:=y.bC l;have n:∀x,(C c (a.get S).xs.length o).ownBlock=E x->p<x:=λx j=>by
  obtain d|d:=hs3 x j
  .simp[aV] at d
  .simp at d;omega
 refine⟨e.put ⟨C c (a.get S).xs.length o,(a.get S).xs,(a.get S).last⟩ S,?_,?_,?_,λb hi=>?_,λb hi v=>?_,?_,?_⟩
 .refine y.put S k _ ((l.mono (λ_ _ x=>x.elim)).setCell (p:=⟨p,S* 2,J⟩) (.inl (.inl rfl)) _|>.setCell (p:=⟨p,S* 2+1,J⟩) (.inl (.inl rfl)) _) ?_ ?_ (λ_ x=>x) ?_
  .have:=(N.e.set (S* 2) (C c (a.get S).xs.length o)).set (S* 2+1) (F K (a.get S).last)
   rwa [vL _ _ (a.get S).xs _ S k] at this
  .refine⟨jh (jh ho3 ?_ _) ?_ _,H,I,A,λx j=>vO (n x j)⟩
   .intro i;exact yv _ (n p i)
   .intro i;exact yv _ (n p i)
  .intro x j;obtain d|d:=hs3 x j
   .simp[aV] at d
   .simp at d;exact .inr (by omega)
 .exact((M.trans l).setCell (p:=⟨p,S* 2,J⟩) (.inr (by simp;omega)) _).setCell (p:=⟨p,S* 2+1,J⟩) (.inr (by simp;omega)) _
 .have:=l.size;simp;omega
 .rw[tW _ _ _ _ k (by omega)];split
  .rename_i i;subst i;exact⟨rfl,rfl⟩
  .exact hA b (by omega)
 .rw[tW _ _ _ _ k v,f (by omega)];exact z b (by omega) v
 .rw[(tX _ _ _).1,O]
 .rw[(tX _ _ _).2,B]
theorem Jc(ab:Nat)(c:aL)(S:Nat->Prop)(w:U)(x:c.ok S w ab):Calls h 47 #[g (E (u ab 0 J))] w λs w'=>∃i:Nat,s=q (g (E (u i 0 J)))/\w.heap.size<=i/\∃e:aL,e.ok (λa=>w.heap.size<=a) w' i/\G No w w'/\(∀d,d<4->(e.get d).xs=(c.get d).xs/\(e.get d).last=(c.get d).last)/\e.ay=c.ay/\e.fuse=c.fuse:=by
 have ae:=x.e.T 8;have af:=x.e.T 9;have z:=x.e.T;rw[show c.cells[8]? =E (F K c.ay) from rfl] at ae;rw[show c.cells[9]? =E (F K c.fuse) from rfl] at af;have v:=l x;have a2:=l z;clear x z;go_enter func47,ntmps47;go_wp2;go_region;have o:G No w (w.alloc (m (⟨⟨C J 0 0,[],0⟩,⟨C J 0 0,[],0⟩,⟨C J 0 0,[],0⟩,⟨C J 0 0,[],0⟩,c.ay,c.fuse⟩:aL).cells 108)).drew:=((G.refl _ _).alloc _).drew
 have p:X (w.alloc (m (⟨⟨C J 0 0,[],0⟩,⟨C J 0 0,[],0⟩,⟨C J 0 0,[],0⟩,⟨C J 0 0,[],0⟩,c.ay,c.fuse⟩:aL).cells 108)).drew w.heap.size (⟨⟨C J 0 0,[],0⟩,⟨C J 0 0,[],0⟩,⟨C J 0 0,[],0⟩,⟨C J 0 0,[],0⟩,c.ay,c.fuse⟩:aL).cells 108:=X.new _ _ _;have A:w.heap.size<(w.alloc (m (⟨⟨C J 0 0,[],0⟩,⟨C J 0 0,[],0⟩,⟨C J 0 0,[],0⟩,⟨C J 0 0,[],0⟩,c.ay,c.fuse⟩:aL).cells 108)).drew.heap.size:=p.lt;unfold aL.cells at o p A
 simp only at o p A;rw[show(((0:Nat):Int))=0 from rfl] at o p A;generalize (w.alloc _).drew=M at o p A ⊢;have y:=(b v).bC o;have z:=y.e.T;unfold aL.cells at z;clear ae af;have aw:=l p;have av:=l o;clear p o;generalize ag:w.heap.size=i at *;have I:=l ag;clear ag;go_wp2;clear z
 go_loopw [20] (λd wr=>∃(a:Nat) (e:aL),a<=4/\d=F K a/\e.ok (λa=>i<=a) wr i/\G No w wr/\i<wr.heap.size/\
   (∀d,d<a->(e.get d).xs=(c.get d).xs/\(e.get d).last=(c.get d).last)/\(∀d,a<=d->d<4->e.get d=⟨C J 0 0,[],0⟩)/\e.ay=c.ay/\e.fuse=c.fuse) (λd _=>4 - (intOf d).toNat)
 case atStart=>
  refine⟨0,⟨⟨C J 0 0,[],0⟩,⟨C J 0 0,[],0⟩,⟨C J 0 0,[],0⟩,⟨C J 0 0,[],0⟩,c.ay,c.fuse⟩,by omega,rfl,?_,b av,A,λd hi=>by omega,λd _ hi=>?_,rfl,rfl⟩
  .have s:∀M:U,(⟨C J 0 0,[],0⟩:dk).ok (λa=>i<=a) M:=λM=>
    ⟨dx _ _ _ _,by simp,by simp,λa9 aK=>by simp at aK,λa B=>by simp[aV] at B⟩
   have r:(⟨C J 0 0,[],0⟩:dk).apart ⟨C J 0 0,[],0⟩:=λa B=>by simp[aV] at B
   exact⟨b aw,cz _,s _,s _,s _,s _,r,r,r,r,r,r⟩
  .match d,hi with
   |0,_=>rfl
   |1,_=>rfl
   |2,_=>rfl
   |3,_=>rfl
 case round=>
  obtain⟨a,e,B,rfl,T,H,aF,hA,ad,W,N⟩:=hrel;by_cases j:a<4
  .have aG:(a:Int)<4:=by omega
   obtain⟨k,n,aJ,a5⟩:=qI (((b v).get a j).bC H);have aa:=l T;have Z:=l H;have ao:=l hA;have ap:=l ad;have az:=l W;have ar:=l N;clear T H hA ad W N;have am:Reads (wr.alloc (m #[C k (c.get a).xs.length n,F K (c.get a).last] 105)) (C k (c.get a).xs.length n) (c.get a).xs.length (c.get a).xs:=by
    have:=(pB ((((b v).get a j).bC (b Z)).bC ((G.refl No wr).alloc (m #[C k (c.get a).xs.length n,F K (c.get a).last] 105))).owns)
    rwa [aJ] at this
   have ah:X (wr.alloc (m #[C k (c.get a).xs.length n,F K (c.get a).last] 105)) i e.cells 108:=(b aa).e.alloc _;have ak:∀Y∈(c.get a).xs,Y.oneCell'=true:=λY hu=>by obtain⟨a7,rfl,_⟩:=(y.get a j).bytes Y hu;rfl
   have aH:=(y.get a j).len;have ai:X (wr.alloc (m #[C k (c.get a).xs.length n,F K (c.get a).last] 105)) wr.heap.size #[C k (c.get a).xs.length n,F K (c.get a).last] 105:=X.new _ _ _;have ax:=l ai;clear ai;have aA:=l am;have au:=l ah;have ay:=l ak;have a1:=l y;clear am ah ak y;obtain⟨aN,aO,aP,aQ,aS⟩:=fq sj;go_wp2_with fail
   go_region_law (refine tR rfl (.const (C J 0 0)) (.tmp 27) 103 rfl 5 aN (.int .u8 0) 1 1 underlying103 aO aP aQ aS rfl (by decide) (C J 0 0) 0 [] (by simp[aM,bN]) (by exact dx _ _ _ _) (C k (c.get a).xs.length n) (c.get a).xs.length (c.get a).xs (by simp[aM,bN]) (by exact b aA) (by omega) (b ay) (by unfold maxLen;omega) (by omega) ?_;intro a8 w3 aj O aI;obtain⟨a3,a4,rfl⟩:=aR aj;have R:X w3 i _ 108:=X.grown (w:=(wr.alloc _).drew) (by exact b au) O (by simp[aV]);have aE:=(X.grown (w:=(wr.alloc _).drew) (by exact b ax) O (by simp[aV])).T 1;simp only[Br,Bs,Bt] at aE;have aB:=R.T (a* 2);have aC:=R.T (a* 2+1);have a6:=R.aC;rw[(mq _ a j).1] at aB;rw[(mq _ a j).2] at aC)
   all_goals go_wp2
   all_goals
    have aD:=Jb (hs3:=aI) (hg3:=O) (ho3:=aj) (b aa) (b Z) (b I) aF j (b ao) (b ap) (b az) (b ar) ((b v).get a j).last aH ((b v).get a j).bytes;obtain⟨t2,aT,aU,aW,aX,aY,aZ,a0⟩:=aD;refine⟨⟨a+1,t2,by omega,by go_num,aT,aU,aW,aX,aY,aZ,a0⟩,?_⟩;simp[intOf];omega
  .have aG:¬(a:Int)<4:=by omega
   obtain rfl:a=4:=by omega
   go_wp2;go_ret;refine⟨i,rfl,by rw[b I];exact cz _,e,?_,H,hA,W,N⟩;rw[b I];exact T
def gN:Nat->Nat->List Int
 |0,a=>[(a:Int)]
 |b+1,a=>if a<128 then[(a:Int)] else((a % 128+128:Nat):Int)::gN b (a / 128)
def bX(x:Int):List Int:=gN 8 x.toNat
structure aD where
 fl:Int
 kind:Int
 c:O
 dm:z
 dd:Int
 de:Int
 now:Int
 Y:List z
def gO(b a:Int):List Int:=bX ((b - 1)* 6+a - 1)
def lG(p:O):List Int:=bX p.rows++bX p.y++bX p.Z
def jm(p:O):List Int:=lG p++bX p.af++bX p.ag++bX p.ai++bX p.aj
def iT(b:Int)(a:z):List Int:=gO a.row a.ae++bX (a.st* 4+a.cl)++(if a.st=3 then[] else bX a.pa)++(if a.st=1 then bX (a.un - b) else[])
def il(a:Int):List z->List Int
 |[]=>[]
 |c::b=>iT a c++il a b
def lH(b:Int)(p:O)(a:List z):List Int:=jm p++bX p.ep++bX a.length++il b a
def ia(b:Int)(a:aD):List Int:=
 if a.kind=1 then(32+a.fl)::jm a.c
 else if a.kind=2 then(64+a.fl)::iT b a.dm
 else if a.kind=3 then(96+a.fl)::gO a.dm.row a.dm.ae
 else if a.kind=4 then(128+a.fl)::(gO a.dm.row a.dm.ae++gO a.dd a.de)
 else if a.kind=5 then(160+a.fl)::lG a.c
 else if a.kind=6 then 192::bX (a.now - b)
 else(224+a.fl)::lH b a.c a.Y
def ib(b:Int)(a:aD):Int:=if a.kind=6 then a.now else b
def ic:Int->List aD->List Int
 |_,[]=>[]
 |now,a::b=>ia now a++ic (ib now a) b
def aT(b:Int)(a:List aD):List Int:=bX a.length++ic b a++[229]
theorem yw(a b:Nat):1<=(gN a b).length/\(gN a b).length<=a+1:=by
 induction a generalizing b with
 |zero=>simp[gN]
 |succ a c=>
  unfold gN;split
  .simp
  .have:=c (b / 128);simp only[eL];omega
theorem yx(a b:Nat)(c:b<128):gN a b=[(b:Int)]:=by
 cases a with
 |zero=>rfl
 |succ a=>unfold gN;rw[D c]
theorem Jd(a b:Nat)(c:b<16384):(gN a b).length<=2:=by
 cases a with
 |zero=>simp[gN]
 |succ a=>
  unfold gN;split
  .simp
  .rw[yx a (b / 128) (by omega)];simp
theorem Je(b c:Nat)(e:c<128 ^ (b+1)):∀a∈gN b c,0<=a/\a<256:=by
 induction b generalizing c with
 |zero=>
  simp only[gN,Jf];rintro a rfl;simp at e;omega
 |succ b i=>
  unfold gN;split
  .simp only[Jf];rintro a rfl;omega
  .intro a d;obtain rfl|d:=List.mem_cons.1 d
   .omega
   .refine i (c / 128) ?_ a d;rw[BK] at e;omega
theorem eM(x:Int):1<=(bX x).length/\(bX x).length<=9:=yw 8 _
theorem BL{x:Int}(b:0<=x)(a:x<128):bX x=[x]:=by
 unfold bX;rw[yx 8 _ (by omega)];simp;omega
theorem jS{x:Int}(a:x<16384):(bX x).length<=2:=Jd 8 _ (by omega)
theorem Jg{x:Int}(c:x<9223372036854775808):∀a∈bX x,0<=a/\a<256:=Je 8 _ (by
 have b:(128:Nat) ^ (8+1)=9223372036854775808:=by decide
 rw[b]
 omega)
def dt(a:List Int):List V:=a.map (F .u8)
theorem lI(a:List Int):(dt a).length=a.length:=by simp[dt]
structure db (O:Nat->Prop) (w:U) (wb:Nat) (v:V) (xs:List Int) (now:Int):Prop where
 e:X w wb #[v,F K now] 193
 row:w.ownsRow 0 5 1 v xs.length (dt xs)
 own:∀k,v.ownBlock=E k->O k/\k≠wb
 ge:O wb
 len:xs.length<=1099511627776
theorem db.mod{w w':U}{S:Nat->Prop}(a:db i w p W N n)(c:G S w w')(d:∀b,i b->¬S b):db i w' p W N n:=
 ⟨c.e a.e (d _ a.ge),c.owns a.row (λb e=>d b (a.own b e).1),a.own,a.ge,a.len⟩
theorem db.wide{c:Nat->Prop}{w:U}(a:db i w p W N n)(e:∀b,i b->c b):db c w p W N n:=
 ⟨a.e,a.row,λb d=>⟨e b (a.own b d).1,(a.own b d).2⟩,e _ a.ge,a.len⟩
theorem db.box{w:U}(a:db i w p W N n)(j:Obj):db (λb=>i b/\b≠w.heap.size) (w.alloc j) p W N n:=by
 have e:G No w (w.alloc j):=(G.refl _ _).alloc _;refine⟨e.e a.e (λd=>d),e.owns a.row (λ_ _ d=>d),λb c=>⟨⟨(a.own b c).1,?_⟩,(a.own b c).2⟩,⟨a.ge,?_⟩,a.len⟩
 .have:=(a.row.lt b c).2;omega
 .have:=a.e.lt;omega
theorem vP(w:U)(x:Int)(a:TypeId):Reads (w.alloc (m #[.int .u8 x] a)) (C (E (u w.heap.size 0 J)) 1 1) 1 [.int .u8 x]:=
 .inr ⟨(u w.heap.size 0 J),1,rfl,λc d hu=>by
  have b:=X.new w #[F .u8 x] a
  rw[dE,bK,b.T,<-dy]
  exact hu⟩
theorem db.more{w:U}{b:V}{x:Int}(d:db i w p W N n)(o:∀a,w.heap.size<=a->i a)(A:N.length<1099511627776)(s:R.ownsRow 0 5 1 b (N.length+1) (dt N++[.int .u8 x]))(k:(w.alloc (m #[.int .u8 x] j)).grownBy R W.ownBlock)(v:fm (w.alloc (m #[.int .u8 x] j)) W b):db i (R.setCell (u p 0 J) b) p b (N++[x]) n/\G i w (R.setCell (u p 0 J) b):=by
 have y:G i w (w.alloc (m #[.int .u8 x] j)):=(G.refl _ _).alloc _;have z:G i w R:=y.grown k (λa e=>.inl (d.own a e).1);have l:∀a,b.ownBlock=E a->i a/\a≠p:=λa e=>by
  obtain c|c:=v a e
  .exact d.own a c
  .rw[bW] at c;have:=d.e.lt;exact⟨o a (by omega),by omega⟩
 have r:X R p #[W,F K n] 193:=X.grown (d.e.alloc _) k (λc=>(d.own p c.symm).2 rfl);refine⟨⟨r.set 0 b,?_,l,d.ge,by simp;omega⟩,z.setCell (p:=u p 0 J) (.inl d.ge) _⟩;have:=jh s (a:=u p 0 J) (λc=>(l p c).2 rfl) b;unfold dt at this ⊢;rw[bG,qK];exact this
theorem vQ(a:Int)(b:0<=a)(c:a<2 ^ 63):K.wrap a=a:=gp a (by omega) (by omega)
theorem Jh(a:Int)(b:0<=a)(c:a<2 ^ 8):IntKind.u8.wrap a=a:=by simp[IntKind.wrap,IntKind.bits,oz];omega
theorem Ji(b a:Int)(e:0<=b/\b<=7)(d:0<=a/\a<32):bits .or K (b* 32) a=32* b+a:=by
 have c:=bits_join K 63 (by decide) vQ 5 (b* 32) a (by omega) (by omega) (by omega) d.1 (by omega) (by omega);rw[c];omega
set_option maxHeartbeats 4000000 in theorem Jj{w:U}(d:db i w p W N n)(r:∀a,w.heap.size<=a->i a)(O:N.length<1099511627776)(a c:Int)(am:1<=a/\a<=7)(M:0<=c/\c<32):Calls h 124 #[g (E (u p 0 J)),F K a,F K c] w λk w'=>k=q (aq #[])/\(∃v',db i w' p v' (N++[32* a+c]) n)/\G i w w':=by
 have ar:=Ji a c (by omega) M;have av:K.wrap (a* 32)=a* 32:=bh _ (by omega) (by omega);have au:IntKind.u8.wrap (32* a+c)=32* a+c:=Jh _ (by omega) (by omega);obtain⟨e,j,rfl⟩:=aR d.row;have ai:w.cell? (u p 0 J)=E (C e N.length j):=d.e.T 0;have ap:=d.e.lt;have y:=l d;have B:=l r;clear r;obtain⟨S,Y,Z,aa,ab⟩:=fq sj;have x:G No w (w.alloc (m #[.int .u8 (32* a+c)] 5)):=(G.refl _ _).alloc _
 have H:=l λT=>(x.drewN T).owns d.row (λ_ _ af=>af);have I:=l (vP w (32* a+c) 5);have z:=l (d.e.alloc (m #[.int .u8 (32* a+c)] 5));have A:=l (show E p≠(C e N.length j).ownBlock from λk=>(d.own p k.symm).2 rfl);clear d x;go_enter func124,ntmps124
 go_wp2_with (at_builtin;refine fJ rfl (.tmp 10) (.tmp 16) 103 rfl 5 S _ 1 1 underlying103 Y Z aa ab rfl (by decide) (C e N.length j) N.length (dt N) (by simp[aM]) (by exact(b H) 0) (C (E (u w.heap.size 0 J)) 1 1) 1 [.int .u8 (32* a+c)] (by simp[aM]) (by exact b I) rfl (by intro aw hu;simp at hu;subst hu;rfl) (by unfold maxLen;omega) (by omega) ?_;intro ax ay v s R;obtain⟨ag,ah,rfl⟩:=aR v;have o:=X.grown (b z) s (b A);have aj:=o.T 0;have ak:=o.aC;have ao:=o.lt)
 all_goals trace "end"
 go_end0;obtain⟨ad,ae⟩:=(b y).more (b B) O v s R;exact⟨rfl,⟨_,ad⟩,ae⟩
theorem Jk(a:Int)(d:0<=a)(e:a<256):bits .or .u8 a 128=a % 128+128:=by
 obtain⟨b,rfl⟩:=sq d;have c:∀b:Fin 256,bits .or .u8 ((b.val:Nat):Int) 128=((b.val % 128+128:Nat):Int):=by decide+kernel
 have:=c ⟨b,by omega⟩;simp only at this;rw[this];omega
theorem Jl(j a:Nat)(d:128<=a)(c:a<128 ^ (j+1)):∃b,j=b+1/\gN j a=((a:Int) % 128+128)::gN b (a / 128)/\a / 128<128 ^ (b+1):=by
 cases j with
 |zero=>simp at c;omega
 |succ b=>
  refine⟨b,rfl,?_,?_⟩
  .rw[gN,f (by omega)];congr 1
  .rw[BK] at c;omega
set_option maxHeartbeats 8000000 in theorem Jm{w:U}(ai:db i w p W N n)(ak:∀e,w.heap.size<=e->i e)(aY:N.length<1099511627766)(z:Int)(aO:0<=z/\z<9223372036854775808):Calls h 109 #[g (E (u p 0 J)),F K z] w λo w'=>o=q (aq #[])/\(∃v',db i w' p v' (N++bX z) n)/\G i w w':=by
 obtain⟨au,av,aw,ax,ay⟩:=fq sj;have ae:=l ai;have aA:=l ak;clear ak;obtain⟨k,rfl⟩:=sq aO.1;have ao:k<128 ^ (8+1):=by
  have o:(128:Nat) ^ (8+1)=9223372036854775808:=by decide
  rw[o];omega
 unfold bX;rw[show((k:Nat):Int).toNat=k by omega];have aL:=(yw 8 k).2;generalize S:N++gN 8 k=R at *;have aB:=l (show R.length<=N.length+9 by rw[<-S];simp;omega);have ah:=l S;clear ai S aL;go_enter func109,ntmps109;go_wp2_with fail
 go_loopw [1] (λab wr=>∃(j a:Nat) (W:V) (ys:List Int),ab=F K a/\a<9223372036854775808/\Hid (a<128 ^ (j+1))/\Hid (ys++gN j a=R)/\Hid (db i wr p W ys n)/\Hid (G i w wr)) (λab _=>(intOf ab).toNat)
 case atStart=>exact⟨8,k,W,N,rfl,by omega,ao,ah,ae,G.refl _ _⟩
 case round=>
  obtain⟨j,a,W,ys,rfl,a0,aN,Y,A,O⟩:=hrel;clear ae ah ao;have c:=(b A);obtain⟨x,y,rfl⟩:=aR c.row;have aX:wr.cell? (u p 0 J)=E (C x ys.length y):=c.e.T 0;have aZ:=c.e.lt;have ag:=l (show E p≠(C x ys.length y).ownBlock from λo=>(c.own p o.symm).2 rfl);have ap:ys.length<1099511627776:=by
   have aE:=mu List.length (b Y);rw[bG] at aE;have aU:=(yw j a).1;have aW:=b aB;omega
  have aj:∀e,wr.heap.size<=e->i e:=λe aJ=>(b aA) e (cC (b O).size aJ);have af:=l aj;clear aj;by_cases aH:128<=a
  .have aI:(a:Int)>=128:=by omega
   obtain⟨ar,rfl,hF,am⟩:=Jl j a aH (b aN);have aP:IntKind.u8.wrap (a:Int)=(a:Int) % 256:=by simp[IntKind.wrap,IntKind.bits,oz]
   have a1:bits .or .u8 ((a:Int) % 256) 128=(a:Int) % 128+128:=by
    rw[Jk _ (by omega) (by omega)];omega
   have v:G No wr (wr.alloc (m #[.int .u8 ((a:Int) % 128+128)] 5)):=(G.refl _ _).alloc _;have I:=l (v.owns c.row (λ_ _ ad=>ad));have M:=l (vP wr ((a:Int) % 128+128) 5);have H:=l (c.e.alloc (m #[.int .u8 ((a:Int) % 128+128)] 5));have B:=l hF;have az:=l am;clear c v hF am
   go_wp2_with (at_builtin;refine fJ rfl (.tmp 10) (.tmp 14) 103 rfl 5 au _ 1 1 underlying103 av aw ax ay rfl (by decide) (C x ys.length y) ys.length (dt ys) (by simp[aM]) (by exact b I) (C (E (u wr.heap.size 0 J)) 1 1) 1 [.int .u8 ((a:Int) % 128+128)] (by simp[aM]) (by exact b M) rfl (by intro aQ hu;simp at hu;subst hu;rfl) (by unfold maxLen;omega) (by omega) ?_;intro aS aT s r T;obtain⟨aC,aD,rfl⟩:=aR s;have d:=X.grown (b H) r (b ag);have aF:=d.T 0;have aG:=d.aC;have aK:=d.lt)
   all_goals trace "round"
   obtain⟨Z,aa⟩:=(b A).more (b af) ap s r T;refine⟨⟨ar,a / 128,_,ys++[(a:Int) % 128+128],?_,by omega,az,l ?_,Z,(b O).trans aa⟩,?_⟩
   .simp
   .rw[cQ];show ys++(((a:Int) % 128+128)::gN ar (a / 128))=R;rw[<-b B];exact b Y
   .simp[intOf];omega
  .have aI:¬(a:Int)>=128:=by omega
   have aP:IntKind.u8.wrap (a:Int)=(a:Int):=by simp[IntKind.wrap,IntKind.bits,oz];omega
   have v:G No wr (wr.alloc (m #[.int .u8 (a:Int)] 5)):=(G.refl _ _).alloc _;have I:=l (v.owns c.row (λ_ _ ad=>ad));have M:=l (vP wr (a:Int) 5);have H:=l (c.e.alloc (m #[.int .u8 (a:Int)] 5));have B:=l (yx j a (by omega));clear c v
   go_wp2_with (at_builtin;refine fJ rfl (.tmp 24) (.tmp 27) 103 rfl 5 au _ 1 1 underlying103 av aw ax ay rfl (by decide) (C x ys.length y) ys.length (dt ys) (by simp[aM]) (by exact b I) (C (E (u wr.heap.size 0 J)) 1 1) 1 [.int .u8 (a:Int)] (by simp[aM]) (by exact b M) rfl (by intro aQ hu;simp at hu;subst hu;rfl) (by unfold maxLen;omega) (by omega) ?_;intro aS aT s r T;obtain⟨aC,aD,rfl⟩:=aR s;have d:=X.grown (b H) r (b ag);have aF:=d.T 0;have aG:=d.aC;have aK:=d.lt)
   go_end0;obtain⟨Z,aa⟩:=(b A).more (b af) ap s r T;have hy:=b Y;rw[b B] at hy;rw[<-hy];exact⟨rfl,⟨_,Z⟩,(b O).trans aa⟩
structure cd (w:U) (rb gb:Nat) (l:List Int) (now:Int) (torn:Bool):Prop where
 e:∃a c,X w rb #[C a l.length c,F K now,L torn] 208/\l.length<=c/\∀(j:Nat) (x:Int),l[j]? =E x->∃o,a=E (u gb o J)/\w.cell? ⟨gb,o+j,J⟩=E (.int .u8 x)
 ne:gb≠rb
 lt:gb<w.heap.size
 fit: -9223372036854775808<=now/\now<=9223372036854775807
 len:l.length<=1099511627776
 tY:∀x∈l,0<=x/\x<256
theorem tZ{w w':U}{S:Nat->Prop}(c:G S w w'){a:Addr}(b:w.cell? a=E W)(e:¬S a.block):w'.cell? a=E W:=by
 have d:=jk w _ b;rw[oB (w:=w) (c.block _ d e)];exact b
theorem cd.mod{w w':U}{c:Bool}{S:Nat->Prop}(a:cd w p o N n c)(b:G S w w')(k:¬S p)(l:¬S o):cd w' p o N n c:=by
 obtain⟨d,e,x,y,z⟩:=a.e;refine⟨⟨d,e,b.e x k,y,λs A r=>?_⟩,a.ne,bj a.lt b.size,a.fit,a.len,a.tY⟩;obtain⟨v,i,j⟩:=z s A r;exact⟨v,i,tZ b j l⟩
theorem cd.goes{w:U}{c:List Int}{A k:Bool}(b:cd w p S N n A)(z:c.length<=N.length/\∀x∈c,x∈N){w':U}{a:Option Addr}(v:X w' p #[C a c.length o,F K n,L k] 208)(i:G (· =p) w w')(s:c.length<=o)(y:∀(j:Nat) (x:Int),c[j]? =E x->∃d,a=E (u S d J)/\w.cell? ⟨S,d+j,J⟩=E (.int .u8 x)):cd w' p S c n k:=
 ⟨⟨a,o,v,s,λj x e=>by
  obtain⟨d,l,r⟩:=y j x e
  exact⟨d,l,tZ i r b.ne⟩⟩,b.ne,bj b.lt i.size,b.fit,by have:=b.len;omega,λx e=>b.tY x (z.2 x e)⟩
def ua(w w':U)(a b:Nat)(c:List Int)(d:Int)(i:Bool)(x:Int):Prop:=
 (0<=x/\x<256)/\G (· =a) w w'/\((c=[]/\x=0/\cd w' a b [] d true)\/∃e,c=x::e/\cd w' a b e d i)
theorem yy{w:U}{r:Bool}(e:cd w p S N n r):Calls h 133 #[g (E (u p 0 J))] w λH w'=>∃x,H=q (.int .u8 x)/\ua w w' p S N n r x:=by
 obtain⟨B,s,a,y,o⟩:=e.e;have v:=a.T 0;have ad:=a.lt;have ab:=a.aC
 cases N with
 |nil=>
  have I:w.cell? (u p 0 J)=E (C B 0 s):=v;have aa:w.cell? (u p 2 J)=E (L r):=a.T 2;have d:ua w (w.setCell (u p 2 J) (L true)) p S [] n r 0:=
   ⟨by omega,(G.refl (· =p) w).setCell (p:=u p 2 J) (.inl rfl) _,.inl ⟨rfl,rfl,e.goes ⟨cz _,λx i=>i⟩ (a.set 2 (L true)) ((G.refl (· =p) w).setCell (p:=u p 2 J) (.inl rfl) _) y o⟩⟩
  have d:=l d;clear e a y o v;go_enter func133,ntmps133;go_wp2_with fail;go_ret;exact⟨0,rfl,b d⟩
 |cons x c=>
  obtain⟨k,rfl,M⟩:=o 0 x rfl;have Z:w.cell? (u S k J)=E (.int .u8 x):=M;have I:w.cell? (u p 0 J)=E (C (E (u S k J)) (c.length+1) s):=v;have i:=e.tY x (by simp);have ag:c.length+1<=s:=y
  have d:=l (λ(a':Addr) (z:Nat) (T:c.length<=z) (R:a'=⟨S,k+1,J⟩\/c=[])=>(show ua w (w.setCell (u p 0 J) (C (E a') c.length z)) p S (x::c) n r x from
   ⟨i,(G.refl (· =p) w).setCell (p:=u p 0 J) (.inl rfl) _,.inr ⟨c,rfl,e.goes ⟨by simp,λx i=>by simp[i]⟩ (a.set 0 _) ((G.refl (· =p) w).setCell (p:=u p 0 J) (.inl rfl) _) T (λA X hy=>by
    obtain rfl|rfl:=R
    .obtain⟨af,j,O⟩:=o (A+1) X hy
     injection j with j
     injection j with _ j _
     subst j
     exact⟨_,rfl,by rw[BM,Nat.add_comm 1 A];exact O⟩
    .simp at hy)⟩⟩))
  generalize ae:ua=Y at *;clear e a y o v i;go_enter func133,ntmps133;go_wp2_with fail
  all_goals go_ret
  .have W:c=[]:=iC (by omega);subst W;exact⟨x,rfl,(b d) (u S k J) 0 (cz _) (.inr rfl)⟩
  .exact⟨x,rfl,(b d) ⟨S,k+1,J⟩ (s - 1) (by omega) (.inl rfl)⟩
section
variable {P:Program} {ops:Array Oper} {Q:Exit->Act->U->Prop} {md:Region.Mode}
end
def eN(ops:Array Oper)(c:Nat)(a:Act):V:=match (ops[c]?).bind (·.dst) with|some b=>a.tmps.getD b undef|none=>undef
structure gP (ops:Array Oper) (a0 a:Act):Prop where
 defers:a.defers=a0.defers
 size:a.tmps.size=a0.tmps.size
 rest:∀s,ops.all (λo=>o.dst !=E s)=true->a.tmps.getD s undef=a0.tmps.getD s undef
section
variable {P:Program} {ops:Array Oper} {Q:Exit->Act->U->Prop}
theorem gP.lit{e a:Act}(H:gP ops e a):a=⟨(ops.toList.filterMap (·.dst)).foldl (λi b=>i.setIfInBounds b (a.tmps.getD b undef)) e.tmps,e.defers⟩:=by
 cases a with
 |mk i X=>
  obtain⟨s,v,x⟩:=H;simp only at s v x;subst s;congr 1;have W:∀(d:List Nat) (t0:Array V),(d.foldl (λp b=>p.setIfInBounds b (i.getD b undef)) t0).size=t0.size/\∀b,b<t0.size->(d.foldl (λp b=>p.setIfInBounds b (i.getD b undef)) t0).getD b undef=if b∈d then i.getD b undef else t0.getD b undef:=by
   intro d
   induction d with
   |nil=>intro t0;exact⟨rfl,λb _=>by simp⟩
   |cons r d R=>
    intro t0;obtain⟨N,O⟩:=R (t0.setIfInBounds r (i.getD r undef));refine⟨by rw[jT,N];simp,λb z=>?_⟩;rw[jT,O b (by simpa using z)];by_cases n:b∈d
    .simp[n]
    .rw[f n];by_cases o:r=b
     .subst o;rw[D (qB ..)];simp[z]
     .rw[f (by simp[n,su o])];simp[mn o]
  obtain⟨S,T⟩:=W (ops.toList.filterMap (·.dst)) e.tmps;apply Bx
  .rw[S,v]
  .intro c hi I;have A:=T c (by omega);have j:∀(k:Array V) (hu:c<k.size),k.getD c undef=k[c]:=λk hu=>by simp[hu]
   rw[j _ I,j _ hi,j e.tmps (by omega)] at A;rw[A];by_cases l:c∈ops.toList.filterMap (·.dst)
   .rw[D l]
   .rw[f l]
    have y:=x c (by
     rw[Array.all_eq_true_iff_forall_mem]
     intro B M
     have:B.dst≠E c:=λG=>l (List.mem_filterMap.2 ⟨B,by simpa using M,G⟩)
     simpa using this)
    rw[j _ hi,j e.tmps (by omega)] at y;exact y
end
section
variable {P:Program} {ops:Array Oper} {Q:Exit->Act->U->Prop}
end
theorem dR{P:Program}{b:Oper}{a:Act}{w:U}{Q:Exit->Act->U->Prop}(x:Operand)(d:b.op=.move x)(c:B (a.put b.dst (a.eval x)) w):b.wp P a w B Q:=by
 unfold gu execOp;simp only[d];exact c
theorem sy{P:Program}{b:Oper}{a:Act}{w:U}{Q:Exit->Act->U->Prop}(x:Operand)(d:b.op=.assign x)(c:B (a.put b.dst (a.eval x)) w):b.wp P a w B Q:=by
 unfold gu execOp;simp only[d];exact c
def pD:Code->List Code
 | .region e i d=>[.region e i d]
 | .loop b=>pD b
 | .seq a c=>pD a++pD c
 | .block _ b=>pD b
 | .scope b=>pD b
 | .cond _ a c=>pD a++pD c
 |_=>[]
def ub(a:Code)(c:Nat):Code:=((pD a).find? λ| .region b _ _=>b==c|_=>false).getD .skip
def pE(ops:Array Oper)(i:Nat):Bool:=
 ((jF ops.size).all λb=>match ops[b]? with
  |some a=>a.after.all (λc=> !gQ .any c||decide (c.on<b))&&a.guard.isNone&&(match a.dst with|some e=>decide (e<i)|none=>true)&&((jF ops.size).all λd=>d==b||(match ops[d]? with|some j=>a.dst.isNone||j.dst !=a.dst|none=>true))
  |none=>false)
theorem pF{ops:Array Oper}(c:pE ops p=true)(d:Nat)(e:Oper)(n:ops[d]? =E e):(∀b∈e.after,gQ .any b=true->b.on<d)/\e.guard=J/\(∀a,e.dst=E a->a<p)/\∀(j:Nat) (k:Oper) (a:Nat),j≠d->ops[j]? =E k->e.dst=E a->k.dst≠E a:=by
 have hi:d<ops.size:=(Array.getElem?_eq_some_iff.1 n).1;unfold pE at c;have c:=List.all_eq_true.1 c d (List.mem_range.2 hi);rw[n] at c;simp only[mX] at c;obtain⟨⟨⟨r,s⟩,l⟩,i⟩:=c;refine⟨λb x v=>?_,by simpa using s,λa hd=>?_,λj k a y o hd b=>?_⟩
 .have:=Array.all_eq_true_iff_forall_mem.1 r b x;rw[v] at this;simpa using this
 .rw[hd] at l;simpa using l
 .have i:=List.all_eq_true.1 i j (List.mem_range.2 (Array.getElem?_eq_some_iff.1 o).1);rw[o] at i;simp[y,hd,b] at i
theorem yz{ops:Array Oper}{b:Array Bool}(v:b.size=ops.size)(n:∀(a:Nat) (i:Oper),ops[a]? =E i->∀c∈i.after,gQ .any c=true->c.on<a)(r:Region.ready .any ops b=[]):∀a,a<ops.size->b.getD a true=true:=by
 intro a
 induction a using Nat.strongRecOn with
 |ind a s=>
  intro hi;by_cases d:b.getD a true=true
  .exact d
  .exfalso;have e:a∈Region.ready .any ops b:=by
    rw[mem_ready];refine⟨by simpa using d,ops[a],da hi,λc p o=>?_⟩;have j:=n a _ (da hi) c p o;have k:=s c.on j (by omega);have l:c.on<b.size:=by omega
    simpa [l] using k
   rw[r] at e
   cases e
section
variable {P:Program} {ops:Array Oper} {Q:Exit->Act->U->Prop}
def im(ops:Array Oper)(j:Nat)(a:Act)(c:Nat):V:=match ops[j]? with
 |some d=>if d.after.any (λb=>b.on==c&&gQ .any b) then eN ops c a else undef
 |none=>undef
theorem BO{G:Act}(v:Nat)(M:Bool->U->Prop)(ae:U->U->Prop)(z:Nat->V->(Nat->V)->U->Prop)(ao:G.tmps.size=p)(ad:pE ops p=true)(hF:∀(b:Nat) (j:V) (ab:Nat->V) (w w':U),ae w w'->z b j ab w->z b j ab w')(aT:∀(b:Nat) (c:Oper) (a:Act) (w:U) (ar:Bool),b≠v->ops[b]? =E c->gP ops G a->M ar w->(∀d∈c.after,gQ .any d=true->z d.on (eN ops d.on a) (im ops d.on a) w)->gu P c a w (λa' w'=>∃j,a'=a.put c.dst j/\M ar w'/\ae w w'/\z b (if c.dst.isSome then j else undef) (im ops b a) w') Q)
  (aF:∀(c:Oper) (a:Act) (w:U),ops[v]? =E c->gP ops G a->M false w->(∀d∈c.after,gQ .any d=true->z d.on (eN ops d.on a) (im ops d.on a) w)->gu P c a w (λa' w'=>∃j,a'=a.put c.dst j/\M true w'/\ae w w'/\z v (if c.dst.isSome then j else undef) (im ops v a) w') Q)(aJ:∀(a:Act) (w:U),gP ops G a->M true w->(∀b,b<ops.size->z b (eN ops b a) (im ops b a) w)->Q .normal a w):
  ∀(fuel:Nat) (e:Array Bool) (a:Act) (w:U),e.size=ops.size->(jF ops.size).countP (λb=> !e.getD b true)<=fuel->gP ops G a->M (e.getD v true) w->(∀b,b<ops.size->e.getD b true=true->z b (eN ops b a) (im ops b a) w)->(∀(b:Nat) (c:Oper),ops[b]? =E c->e.getD b true=true->∀d∈c.after,gQ .any d=true->e.getD d.on true=true)->wpAny P .any ops Q fuel e a w:=by
 have a0:∀(b:Nat) (c:Oper) (a:Act) (j:V),ops[b]? =E c->a.tmps.size=p->eN ops b (a.put c.dst j)=if c.dst.isSome then j else undef:=λb c a j k T=>by
  unfold eN;rw[k]
  cases hd:c.dst with
  |none=>simp[hd]
  |some W=>
   have:=(pF ad b c k).2.2.1 W hd;simp[hd,bN,T,this]
 have X:∀(b:Nat) (c:Oper),ops[b]? =E c->∀d∈c.after,gQ .any d=true->d.on<b:=λb c k=>(pF ad b c k).1;have aA:∀(b i:Nat) (c:Oper) (j:V) (a:Act),b≠i->ops[b]? =E c->eN ops i (a.put c.dst j)=eN ops i a:=λb i c j a x k=>by
  unfold eN
  cases A:ops[i]? with
  |none=>rfl
  |some o=>
   simp only[Jn]
   cases aI:o.dst with
   |none=>rfl
   |some W=>
    cases aH:c.dst with
    |none=>rfl
    |some d'=>
     have S:d'≠W:=λd=>(pF ad b c k).2.2.2 i _ d' (su x) A aH (by rw[aI,d]);simp[bN,mn S]
 have ay:∀(b i:Nat) (c:Oper) (j:V) (a:Act),ops[b]? =E c->(∀o,ops[i]? =E o->∀d∈o.after,gQ .any d=true->d.on≠b)->im ops i (a.put c.dst j)=im ops i a:=λb i c j a k aO=>by
  funext ax;unfold im
  cases A:ops[i]? with
  |none=>rfl
  |some o=>
   simp only;by_cases Z:o.after.any (λd=>d.on==ax&&gQ .any d)=true
   .rw[D Z,D Z];obtain⟨d,n,l⟩:=Array.any_eq_true'.1 Z;simp only[mX,lD] at l;have:=aO o A d n l.2;rw[l.1] at this;exact aA b ax c j a (su this) k
   .rw[f Z,f Z]
 have aQ:∀(b:Nat) (c:Oper) (j:V) (a:Act),ops[b]? =E c->gP ops G a->gP ops G (a.put c.dst j):=λb c j a k r=>by
  refine⟨?_,?_,λab T=>?_⟩
  .cases hd:c.dst<;>simp[bN,r.defers]
  .cases hd:c.dst<;>simp[bN,r.size]
  .have S:=Array.all_eq_true_iff_forall_mem.1 T c (Jo k);rw[<-r.rest ab T]
   cases hd:c.dst with
   |none=>rfl
   |some W=>
    have:W≠ab:=by
     rw[hd] at S;simpa using S
    simp[bN,mn this]
 intro fuel;have az:∀(e:Array Bool) (a:Act) (w:U),e.size=ops.size->gP ops G a->M (e.getD v true) w->(∀b,b<ops.size->e.getD b true=true->z b (eN ops b a) (im ops b a) w)->Region.ready .any ops e=[]->Q .normal a w:=λe a w N r B I O=>by
  have aG:e.getD v true=true:=by
   by_cases ai:v<ops.size
   .exact yz N X O v ai
   .simp[show e.size<=v by omega]
  rw[aG] at B;exact aJ a w r B (λb hi=>I b hi (yz N X O b hi))
 induction fuel with
 |zero=>
  intro e a w N ai r B I aj;have O:Region.ready .any ops e=[]:=by
   cases O:Region.ready .any ops e with
   |nil=>rfl
   |cons b a2=>
    exfalso;have am:b∈Region.ready .any ops e:=by rw[O];exact qB ..
    obtain⟨H,c,k,_⟩:=mem_ready.1 am;have ah:b<ops.size:=(Array.getElem?_eq_some_iff.1 k).1;have:0<(jF ops.size).countP (λb=> !e.getD b true):=List.countP_pos_iff.2 ⟨b,List.mem_range.2 ah,by rw[H];rfl⟩;omega
  exact⟨O,az e a w N r B I O⟩
 |succ fuel aW=>
  intro e a w N ai r B I aj;refine⟨az e a w N r B I,λb hi=>?_⟩;obtain⟨H,c,k,aE⟩:=mem_ready.1 hi;have ah:b<ops.size:=(Array.getElem?_eq_some_iff.1 k).1;have aa:∀d∈c.after,gQ .any d=true->d.on<ops.size/\e.getD d.on true=true:=λd n l=>by
   have y:=aE d n l;have a1:=X b c k d n l;have aZ:d.on<e.size:=by omega
   exact⟨by omega,by simpa [aZ] using y⟩
  unfold wpOp;rw[k];simp only;rw[D (by simp[jD,(pF ad b c k).2.1])];have aU:gu P c a w (λa' w'=>∃j,a'=a.put c.dst j/\M ((e.setIfInBounds b true).getD v true) w'/\ae w w'/\z b (if c.dst.isSome then j else undef) (im ops b a) w') Q:=by
   by_cases ak:b=v
   .subst ak;rw[H] at B;have T:=aF c a w k r B (λd n l=>I d.on (aa d n l).1 (aa d n l).2);have aR:(e.setIfInBounds b true).getD b true=true:=by simp[show b<e.size by omega]
    rw[aR];exact T
   .rw[kD true ak];exact aT b c a w _ ak k r B (λd n l=>I d.on (aa d n l).1 (aa d n l).2)
  refine .inl (BP (λa' w' ag=>?_) aU);obtain⟨j,rfl,aD,aS,aK⟩:=ag;refine aW _ _ _ (by simp[N]) ?_ (aQ b c j a k r) aD (λi Y R=>?_) (λi o A R d n l=>?_)
  .have av:b<e.size:=by omega
   have aY:∀(s:List Nat),b∈s->s.Nodup->s.countP (λi=> !(e.setIfInBounds b true).getD i true)+1<=s.countP (λi=> !e.getD i true):=by
    intro s
    induction s with
    |nil=>intro ag;cases ag
    |cons af s aX=>
     intro am ao
     have aL:∀(s:List Nat),s.countP (λi=> !(e.setIfInBounds b true).getD i true)<=s.countP (λi=> !e.getD i true):=λs=>BQ (λi _ Y=>by
      by_cases x:b=i
      .subst x;simp[av] at Y
      .rw[kD true x] at Y;exact Y)
     rw[mW,mW];by_cases ap:af=b
     .subst ap;have aB:(!(e.setIfInBounds af true).getD af true)=false:=by simp[av]
      have aC:(!e.getD af true)=true:=by rw[H];rfl
      rw[aB,aC];have:=aL s;simp only[mg,jQ,iP];omega
     .have aN:b∈s:=by obtain y|y:=List.mem_cons.1 am;exact absurd y.symm ap;exact y
      have:=aX aN (List.nodup_cons.1 ao).2;rw[kD true (su ap)];omega
   have:=aY _ (List.mem_range.2 ah) Jp;omega
  .by_cases x:b=i
   .subst x;rw[a0 b c a j k (r.size.trans ao),ay b b c j a k (λo A d n l=>pG (X b o A d n l))];exact aK
   .rw[kD true x] at R
    rw[aA b i c j a x k,ay b i c j a k (λo A d n l au=>by
     have:=aj i o A R d n l
     rw[au] at this
     rw[this] at H
     cases H)]
    exact hF _ _ _ _ _ aS (I i Y R)
  .by_cases x:b=i
   .subst x;have aP:o=c:=bD (A.symm.trans k);subst aP;have y:=aa d n l;have S:b≠d.on:=λau=>by have:=X b o k d n l;omega
    rw[kD true S];exact y.2
   .rw[kD true x] at R;have y:=aj i o A R d n l;by_cases aw:b=d.on
    .rw[<-aw] at y;rw[y] at H
     cases H
    .rw[kD true aw];exact y
theorem yA{id n:Nat}{k:Act}{w:U}(i:U->Prop)(o:U->U->Prop)(d:Nat->V->(Nat->V)->U->Prop)(v:P.follows .mixedOrders=true)(x:k.tmps.size=n)(z:pE ops n=true)(hF:∀(b:Nat) (j:V) (p:Nat->V) (w w':U),o w w'->d b j p w->d b j p w')(A:∀(b:Nat) (c:Oper) (a:Act) (w:U),ops[b]? =E c->gP ops k a->i w->(∀l∈c.after,gQ .any l=true->d l.on (eN ops l.on a) (im ops l.on a) w)->gu P c a w (λa' w'=>∃j,a'=a.put c.dst j/\i w'/\o w w'/\d b (if c.dst.isSome then j else undef) (im ops b a) w') Q)
  (s:∀(a:Act) (w:U),gP ops k a->i w->(∀b,b<ops.size->d b (eN ops b a) (im ops b a) w)->Q .normal a w)(r:i w.drew):(Code.region id ops true).wp P Q k w:=by
 refine wp_region_any v (BO ops.size (λ_=>i) o d x z hF (λb c a w _ _=>A b c a w) (λc a w e=>absurd e (by simp)) s _ _ _ _ (by simp) (cC oF (by simp)) ⟨rfl,rfl,λ_ _=>rfl⟩ r (λb hi e=>?_) (λb c y e=>?_))
 .simp[hi] at e
 .have hi:b<ops.size:=(Array.getElem?_eq_some_iff.1 y).1;simp[hi] at e
theorem vR{id n:Nat}{j:Act}{w:U}(e:U->Prop)(l:U->U->Prop)(d:Nat->V->U->Prop)(s:P.follows .mixedOrders=true)(v:j.tmps.size=n)(x:pE ops n=true)(hF:∀(b:Nat) (c:V) (w w':U),l w w'->d b c w->d b c w')(y:∀(b:Nat) (i:Oper) (a:Act) (w:U),ops[b]? =E i->gP ops j a->e w->(∀k∈i.after,gQ .any k=true->d k.on (eN ops k.on a) w)->gu P i a w (λa' w'=>∃c,a'=a.put i.dst c/\e w'/\l w w'/\d b (if i.dst.isSome then c else undef) w') Q)
  (r:∀(a:Act) (w:U),gP ops j a->e w->(∀b,b<ops.size->d b (eN ops b a) w)->Q .normal a w)(p:e w.drew):(Code.region id ops true).wp P Q j w:=
 yA e l (λb c _ w=>d b c w) s v x (λb c _ w w' o=>hF b c w w' o) y r p
end
theorem vS{P:Program}{e:Oper}{a:Act}{w:U}{Q:Exit->Act->U->Prop}(c:FuncId)(args:Array Operand)(v:Array TypeId)(r:e.op=Op.call { callee:=Callee.value (Operand.func c),args:=args,argTypes:=v })(d:Array V)(s:args.map a.eval=d)(o:∀j,(callFunc c d).run P j=.ok (.enter c d) j){C:Ending->U->Prop}(n:Calls P c d w C)
  (l:∀b w',C b w'->∃i,b=q i/\B (a.put e.dst i) w'):e.wp P a w B Q:=by
 unfold gu execOp;simp[go_sem,r,s];rw[o];simp[go_sem];refine n.mono ?_;intro b w' k;obtain⟨i,rfl,p⟩:=l b w' k;exact p
section
variable {P:Program} {ops:Array Oper} {Q:Exit->Act->U->Prop}
def sA(ops:Array Oper):Nat->Nat->Nat->Bool
 |0,_,_=>false
 |b+1,x,j=>match ops[x]? with
  |some c=>c.after.any (λa=>gQ .any a&&(a.on==j||sA ops b a.on j))
  |none=>false
def vT(ops:Array Oper)(b:Nat):Bool:=(jF ops.size).all λa=>a==b||sA ops 5 b a
theorem Jq{N:Act}(y:Nat)(ad:U->Prop)(au:U->U->Prop)(I:Nat->V->U->Prop)(am:N.tmps.size=p)(aa:pE ops p=true)(aA:vT ops y=true)(hF:∀(b:Nat) (l:V) (w w':U),au w w'->I b l w->I b l w')(aX:∀(b:Nat) (c:Oper) (a:Act) (w:U),b≠y->ops[b]? =E c->gP ops N a->ad w->(∀d∈c.after,gQ .any d=true->I d.on (eN ops d.on a) w)->gu P c a w (λa' w'=>∃l,a'=a.put c.dst l/\ad w'/\au w w'/\I b (if c.dst.isSome then l else undef) w') Q)
  (aQ:∀(c:Oper) (a:Act) (w:U),ops[y]? =E c->gP ops N a->ad w->(∀b,b<ops.size->b≠y->I b (eN ops b a) w)->gu P c a w (λa' w'=>Q .normal a' w') Q):∀(fuel:Nat) (i:Array Bool) (a:Act) (w:U),i.size=ops.size->(jF ops.size).countP (λb=> !i.getD b true)<=fuel->gP ops N a->i.getD y true=false->ad w->(∀b,b<ops.size->i.getD b true=true->I b (eN ops b a) w)->
   (∀(b:Nat) (c:Oper),ops[b]? =E c->i.getD b true=true->∀d∈c.after,gQ .any d=true->i.getD d.on true=true)->wpAny P .any ops Q fuel i a w:=by
 have a2:∀(b:Nat) (c:Oper) (a:Act) (l:V),ops[b]? =E c->a.tmps.size=p->eN ops b (a.put c.dst l)=if c.dst.isSome then l else undef:=λb c a l k R=>by
  unfold eN;rw[k]
  cases hd:c.dst with
  |none=>simp[hd]
  |some S=>
   have:=(pF aa b c k).2.2.1 S hd;simp[hd,bN,R,this]
 have ai:∀(b:Nat) (c:Oper),ops[b]? =E c->∀d∈c.after,gQ .any d=true->d.on<b:=λb c k=>(pF aa b c k).1;have aP:∀(b e:Nat) (c:Oper) (l:V) (a:Act) (w w':U),b≠e->b<ops.size->e<ops.size->ops[b]? =E c->I e (eN ops e a) w->au w w'->I e (eN ops e (a.put c.dst l)) w':=λb e c l a w w' v hi n k O R=>by
  have d:eN ops e (a.put c.dst l)=eN ops e a:=by
   unfold eN;rw[da n];simp only[Jn]
   cases aN:(ops[e]).dst with
   |none=>rfl
   |some S=>
    cases aL:c.dst with
    |none=>rfl
    |some d'=>
     have A:d'≠S:=λd=>(pF aa b c k).2.2.2 e _ d' (su v) (da n) aL (by rw[aN,d]);simp[bN,mn A]
  rw[d];exact hF _ _ _ _ R O
 have aU:∀(b:Nat) (c:Oper) (l:V) (a:Act),ops[b]? =E c->gP ops N a->gP ops N (a.put c.dst l):=λb c l a k B=>by
  refine⟨?_,?_,λaE R=>?_⟩
  .cases hd:c.dst<;>simp[bN,B.defers]
  .cases hd:c.dst<;>simp[bN,B.size]
  .have A:=Array.all_eq_true_iff_forall_mem.1 R c (Jo k);rw[<-B.rest aE R]
   cases hd:c.dst with
   |none=>rfl
   |some S=>
    have:S≠aE:=by
     rw[hd] at A;simpa using A
    simp[bN,mn this]
 intro fuel
 induction fuel with
 |zero=>
  intro i a w X aK B G ah O Y;exfalso;have ag:y<ops.size:=by
   by_cases r:y<i.size
   .omega
   .simp[show i.size<=y by omega] at G
  have:0<(jF ops.size).countP (λb=> !i.getD b true):=List.countP_pos_iff.2 ⟨y,List.mem_range.2 ag,by rw[G];rfl⟩;omega
 |succ fuel aY=>
  intro i a w X aK B G ah O Y;have ag:y<ops.size:=by
   by_cases r:y<i.size
   .omega
   .simp[show i.size<=y by omega] at G
  refine⟨λao=>?_,λb hi=>?_⟩
  .have:=yz X ai ao y ag;rw[G] at this;cases this
  obtain⟨af,c,k,aJ⟩:=mem_ready.1 hi;have aw:b<ops.size:=(Array.getElem?_eq_some_iff.1 k).1;have T:∀d∈c.after,gQ .any d=true->d.on<ops.size/\i.getD d.on true=true:=λd s j=>by
   have x:=aJ d s j;have a4:=ai b c k d s j;have a1:d.on<i.size:=by omega
   exact⟨by omega,by simpa [a1] using x⟩
  unfold wpOp;rw[k];simp only;rw[D (by simp[jD,(pF aa b c k).2.1])];by_cases aj:b=y
  .subst aj;have step:∀(o M:Nat) (W:Oper),ops[o]? =E W->i.getD o true=true->W.after.any (λd=>d.on==M&&gQ .any d)=true->i.getD M true=true:=λo M W H aI hy=>by
    obtain⟨d,s,j⟩:=Array.any_eq_true'.1 hy;simp only[mX,lD] at j;have:=Y o W H aI d s j.2;rw[j.1] at this;exact this
   have first:∀M,c.after.any (λd=>d.on==M&&gQ .any d)=true->i.getD M true=true:=λM hy=>by
    obtain⟨d,s,j⟩:=Array.any_eq_true'.1 hy;simp only[mX,lD] at j;have:=(T d s j.2).2;rw[j.1] at this;exact this
   have aC:∀e,e<ops.size->e≠b->i.getD e true=true:=λe n A=>by
    unfold vT at aA;have av:=List.all_eq_true.1 aA e (List.mem_range.2 n);simp only[BS,lD,A,false_or] at av;have ap:∀(fuel o:Nat),(o=b\/i.getD o true=true)->sA ops fuel o e=true->i.getD e true=true:=by
     intro fuel
     induction fuel with
     |zero=>intro o _ r;simp[sA] at r
     |succ fuel aZ=>
      intro o H r;unfold sA at r
      cases ab:ops[o]? with
      |none=>rw[ab] at r;cases r
      |some aD=>
       rw[ab] at r;simp only at r;obtain⟨d,s,j⟩:=Array.any_eq_true'.1 r;simp only[mX,BS,lD] at j;have Z:i.getD d.on true=true:=by
        obtain rfl|H:=H
        .have:aD=c:=bD (ab.symm.trans k);subst this;exact(T d s j.1).2
        .exact Y o aD ab H d s j.1
       obtain x|x:=j.2
       .rw[<-x];exact Z
       .exact aZ d.on (.inr Z) x
    exact ap _ b (.inl rfl) av
   refine .inl (BP (λa' w' r=>?_) (aQ c a w k B ah (λe n A=>O e n (aC e n A))));refine wpAny_done ?_ r fuel
   cases ao:Region.ready .any ops (i.setIfInBounds b true) with
   |nil=>rfl
   |cons e a5=>
    exfalso;have ak:e∈Region.ready .any ops (i.setIfInBounds b true):=by rw[ao];exact qB ..
    obtain⟨ae,W,aS,_⟩:=mem_ready.1 ak;have n:e<ops.size:=(Array.getElem?_eq_some_iff.1 aS).1;by_cases v:b=e
    .subst v;simp[X,n] at ae
    .rw[kD true v,aC e n (su v)] at ae
     cases ae
  .refine .inl (BP (λa' w' r=>?_) (aX b c a w aj k B ah (λd s j=>O d.on (T d s j).1 (T d s j).2)));obtain⟨l,rfl,aH,aW,aO⟩:=r;refine aY _ _ _ (by simp[X]) ?_ (aU b c l a k B) (by rw[kD true aj];exact G) aH (λe n G=>?_) (λe ar aB az d s j=>?_)
   .have ax:b<i.size:=by omega
    have ap:∀(z:List Nat),b∈z->z.Nodup->z.countP (λe=> !(i.setIfInBounds b true).getD e true)+1<=z.countP (λe=> !i.getD e true):=by
     intro z
     induction z with
     |nil=>intro r;cases r
     |cons o z a0=>
      intro ak am
      have Z:∀(z:List Nat),z.countP (λe=> !(i.setIfInBounds b true).getD e true)<=z.countP (λe=> !i.getD e true):=λz=>BQ (λe _ n=>by
       by_cases v:b=e
       .subst v;simp[ax] at n
       .rw[kD true v] at n;exact n)
      rw[mW,mW];by_cases H:o=b
      .subst H;have aF:(!(i.setIfInBounds o true).getD o true)=false:=by simp[ax]
       have aG:(!i.getD o true)=true:=by rw[af];rfl
       rw[aF,aG];have:=Z z;simp only[mg,jQ,iP];omega
      .have aR:b∈z:=by obtain x|x:=List.mem_cons.1 ak;exact absurd x.symm H;exact x
       have:=a0 aR (List.nodup_cons.1 am).2;rw[kD true (su H)];omega
    have:=ap _ (List.mem_range.2 aw) Jp;omega
   .by_cases v:b=e
    .subst v;rw[a2 b c a l k (B.size.trans am)];exact aO
    .rw[kD true v] at G;exact aP b e c l a w w' v aw n k (O e n G) aW
   .by_cases v:b=e
    .subst v;have aT:ar=c:=bD (aB.symm.trans k);subst aT;have x:=T d s j;have A:b≠d.on:=λa3=>by have:=ai b ar k d s j;omega
     rw[kD true A];exact x.2
    .rw[kD true v] at az;have x:=Y e ar aB az d s j;by_cases ay:b=d.on
     .rw[<-ay] at x;rw[x] at af
      cases af
     .rw[kD true ay];exact x
theorem BT{id n:Nat}{o:Act}{w:U}(d:Nat)(k:U->Prop)(s:U->U->Prop)(i:Nat->V->U->Prop)(G:P.follows .mixedOrders=true)(H:o.tmps.size=n)(I:pE ops n=true)(r:vT ops d=true)(hF:∀(b:Nat) (l:V) (w w':U),s w w'->i b l w->i b l w')(M:∀(b:Nat) (c:Oper) (a:Act) (w:U),b≠d->ops[b]? =E c->gP ops o a->k w->(∀e∈c.after,gQ .any e=true->i e.on (eN ops e.on a) w)->gu P c a w (λa' w'=>∃l,a'=a.put c.dst l/\k w'/\s w w'/\i b (if c.dst.isSome then l else undef) w') Q)
  (B:∀(c:Oper) (a:Act) (w:U),ops[d]? =E c->gP ops o a->k w->(∀b,b<ops.size->b≠d->i b (eN ops b a) w)->gu P c a w (λa' w'=>Q .normal a' w') Q)(y:k w.drew)(z:∃c,ops[d]? =E c):(Code.region id ops true).wp P Q o w:=by
 have A:d<ops.size:=by
  unfold vT at r;by_cases j:d<ops.size
  .exact j
  .exfalso;by_cases x:0<ops.size
   .have v:=List.all_eq_true.1 r 0 (List.mem_range.2 x);simp only[BS,lD] at v;obtain e|e:=v
    .omega
    .unfold sA at e;rw[Bw (by omega)] at e
     cases e
   .obtain⟨c,p⟩:∃c,ops[d]? =E c:=z;rw[Bw (by omega)] at p
    cases p
 refine wp_region_any G (Jq d k s i H I r hF M B _ _ _ _ (by simp) (cC oF (by simp)) ⟨rfl,rfl,λ_ _=>rfl⟩ (by simp[A]) y (λb hi j=>?_) (λb c p j=>?_))
 .simp[hi] at j
 .have hi:b<ops.size:=(Array.getElem?_eq_some_iff.1 p).1;simp[hi] at j
end
theorem Jr{w:U}{size b:Nat}{e:List V}(l:w.ownsRow 0 j size (C (E (u b 0 J)) (p+S) o) (p+S) (k++e))(c:k.length=p* size):w.ownsRow 0 j size (C (E (u b 0 J)) p o) p k:=by
 obtain⟨n,_⟩|⟨B,z,d,y,G,r,H,s,v,x⟩:=l.2
 .cases n
 .injection y with a A i;injection a with a;injection a with a;subst a i;refine⟨c,.inr ⟨b,o,d,rfl,gr _,r,by omega,s,v,?_⟩⟩;have:(d.toList.take ((p+S)* size)).take (p* size)=(k++e).take (p* size):=by rw[x]
  rw[BU,uc (pC _ (by omega)),<-c,List.take_left' rfl] at this;rw[<-c];exact this
theorem Js{P:Program}(w:U)(v ty o:TypeId)(i:TypeInfo)(H:V)(size bytes:Nat)(A:P.underlying v=E (.slice o))(hi:P.info? o=E i)(ad:i.zero=E H)(Z:i.size=size)(T:i.bytes=bytes)(ae:H.cells.size=size)(aa:0<size)(s:V)(k:Nat)(B:List V)(c:w.ownsRow 0 o size s k B)
  (x:V)(j:Nat)(l:List V)(ar:Reads w x j l)(y:l.length=j* size)(R:∀au∈l,au.oneCell'=true)(S:k+j<=maxLen)(W:(k+j)* bytes<=140737488355328):∃v' w',(Builtin.append_ #[v,v] ty #[s,x]).run P w=.ok v' w'/\w'.ownsRow 0 o size v' (k+j) (B++l)/\w.grownBy w' s.ownBlock/\fm w s v'/\w'.ownsRow 0 o size s k B/\(v'.ownBlock=s.ownBlock\/G No w w'):=by
 have ao:w.grownBy w s.ownBlock:=⟨rfl,rfl,rfl,cz _,λ_ _ _=>rfl⟩;obtain⟨rfl,rfl⟩|⟨I,M,rfl,N⟩:=ar
 .obtain rfl:l=[]:=iC (by simpa using y);refine⟨s,w,?_,by simpa using c,ao,λd b=>.inl b,c,.inl rfl⟩;obtain⟨rfl,rfl⟩|⟨p,n,r,rfl,_,_,Y,_⟩:=c.2
  .simp[Builtin.append_,jj A,sizeOf,typeInfo,hi,Builtin.lenOf,Builtin.firstCells,loadCells,loadCellsFrom]
  .simp[Builtin.append_,jj A,sizeOf,typeInfo,hi,Builtin.lenOf,Builtin.firstCells,loadCells,loadCellsFrom,Y,storeCells]
 .have aw:=c;obtain⟨rfl,rfl⟩|⟨p,n,r,rfl,_,X,Y,ak,hcs,ap⟩:=c.2
  .obtain rfl:B=[]:=iC (by simpa using c.1);obtain⟨v',w',z,e,a,av⟩:=run_append_own (P:=P) w w.heap.size v ty o i H size bytes A hi ad Z T ae aa (C J 0 0) 0 [] (dx _ _ _ _) I j M l y N R S W (cz _);refine⟨v',w',z,⟨e.1,?_⟩,a,λd b=>.inr (e.lt d b).1,dx _ _ _ _,.inr ⟨a.os,a.tape,a.output,a.size,λd b _=>a.block d b (by simp[aV])⟩⟩;obtain O|⟨p,n,r,ab,_,af⟩:=e.2
   .exact .inl O
   .exact .inr ⟨p,n,r,ab,gr _,af⟩
  .by_cases ah:k+j<=n
   .subst Z;have am:k* i.size+l.length<=r.size:=by rw[y,hcs,<-lE];exact pC _ ah
    have z:=run_append_room (P:=P) w v ty o i A hi p k n r X I j M l y N R ah am;obtain⟨v',w',ag,e,a,_⟩:=run_append_own (P:=P) w 0 v ty o i H i.size bytes A hi ad rfl T ae aa _ k B c I j M l y N R S W (gr _);rw[z] at ag;injection ag with ai aj;subst ai;subst aj;exact⟨_,_,z,e,a,λd b=>.inl b,Jr e c.1,.inl rfl⟩
   .obtain⟨v',w',z,e,a⟩:=run_append_arg_grows (P:=P) w v ty o i H size bytes A hi ad Z T ae aa (u p 0 J) k n B c.1 (c.cells rfl) I j M l y N (by omega) S W;refine⟨v',w',z,⟨e.1,?_⟩,⟨a.os,a.tape,a.output,a.size,λd b _=>a.block d b (by simp)⟩,λd b=>.inr (e.lt d b).1,?_,.inr ⟨a.os,a.tape,a.output,a.size,λd b _=>a.block d b (by simp)⟩⟩
    .obtain O|⟨p,n,r,ab,_,af⟩:=e.2
     .exact .inl O
     .exact .inr ⟨p,n,r,ab,gr _,af⟩
    .refine⟨c.1,.inr ⟨p,n,r,rfl,gr _,?_,Y,ak,hcs,ap⟩⟩;rw[a.block p (Array.getElem?_eq_some_iff.1 X).1 (by simp)];exact X
theorem pH{P:Program}{w:U}{k:Oper}{a:Act}{Q:Exit->Act->U->Prop}(r s:Operand)(l:TypeId)(T:k.op=.call { callee:=.builtin .append,args:=#[r,s],argTypes:=#[l,l] })(c:TypeId)(i:TypeInfo)(p:V)(size bytes:Nat)(aa:P.underlying l=E (.slice c))(hi:P.info? c=E i)(ad:i.zero=E p)
  (Y:i.size=size)(O:i.bytes=bytes)(ae:p.cells.size=size)(Z:0<size)(b:V)(e:Nat)(n:List V)(X:a.eval r=b)(W:w.ownsRow 0 c size b e n)(x:V)(d:Nat)(j:List V)(ab:a.eval s=x)(o:Reads w x d j)(S:j.length=d* size)(y:∀af∈j,af.oneCell'=true)(N:e+d<=maxLen)(R:(e+d)* bytes<=140737488355328)
  (v:∀v' w',w'.ownsRow 0 c size v' (e+d) (n++j)->w.grownBy w' b.ownBlock->fm w b v'->w'.ownsRow 0 c size b e n->(v'.ownBlock=b.ownBlock\/G No w w')->B (a.put k.dst v') w'):k.wp P a w B Q:=by
 obtain⟨v',w',o,z,A,H,I,M⟩:=Js (P:=P) w l k.type c i p size bytes aa hi ad Y O ae Z b e n W x d j o S y N R;unfold gu execOp;simp only[T,resolve,invoke,builtin,yr,Sem.run_pure,BC,IB,oC,BD,X,ab,o];exact v v' w' z A H I M
theorem BV{w w':U}{size:Nat}{v' v:V}{s:List V}(Z:0<size)(ar:0<p+S)(X:w.ownsRow 0 j size W p k)(T:w'.ownsRow 0 j size v' (p+S) (k++s))(R:w.grownBy w' W.ownBlock)(d:v'.ownBlock=W.ownBlock\/G No w w')(Y:w'.ownsRow 0 j size W p k)(hu:w.ownsRow 0 j size v (p+S) (k++s)):w'.ownsRow 0 j size v (p+S) (k++s):=by
 obtain d|d:=d
 .by_cases r:v.ownBlock=W.ownBlock
  .obtain⟨o,A|⟨e,n,y,rfl,_,i,av,aw,ax,ay⟩⟩:=hu
   .omega
   .obtain⟨aa,au|⟨z,x,H,rfl,_,B,ab,ad,ae,af⟩⟩:=T
    .omega
    .have I:z=e:=by
      have:=d.trans r.symm;simpa [aV] using this
     subst I;have l:W.ownBlock=E z:=r.symm.trans rfl;obtain⟨az,ah|⟨O,aj,am,rfl,_,a,_,_,aA,_⟩⟩:=X
     .rw[ah.1] at l;simp[aV] at l
     .obtain⟨t0,t1|⟨ap,ak,ao,el,_,b,_,_,aB,_⟩⟩:=Y
      .simp at t1
      .injection el with c _ N;injection c with c;injection c with c;subst c N;simp[aV] at l;subst l;rw[i] at a;injection a with a;injection a with a;subst a;rw[B] at b;injection b with b;injection b with b;subst b;have M:x=n:=Nat.eq_of_mul_eq_mul_right Z (by omega);subst M;exact⟨aa,.inr ⟨O,x,H,rfl,gr _,B,ab,ad,ae,af⟩⟩
  .obtain⟨o,A|⟨e,n,y,rfl,_,i,ag⟩⟩:=hu
   .exact⟨o,.inl A⟩
   .refine⟨o,.inr ⟨e,n,y,rfl,gr _,?_,ag⟩⟩;rw[R.block e (Array.getElem?_eq_some_iff.1 i).1 r];exact i
 .exact d.owns hu (λ_ _ ai=>ai)
def bp(a:TypeId)(c:Nat)(b:U)(e:V)(d:Nat):Prop:=∃i,b.ownsRow 0 a c e d i
theorem bp.mod{b:U}{S:Nat->Prop}(a:bp j p R W o)(d:G S R b)(e:∀c,W.ownBlock=E c->¬S c):bp j p b W o:=by
 obtain⟨i,a⟩:=a;exact⟨i,d.owns a e⟩
theorem bp.slice(b:bp j p R W S):∃a c,W=C a S c:=by
 obtain⟨d,b⟩:=b;exact aR b
theorem bp.lt(c:bp j p R W S)(b:Nat)(a:W.ownBlock=E b):b<R.heap.size:=by
 obtain⟨o,_,d|⟨l,i,k,rfl,n,e,_⟩⟩:=c
 .rw[d.1] at a;simp[aV] at a
 .simp[aV] at a;subst a;exact X.lt e
theorem bp.block(e:bp j p R W S)(s:0<S):∃c a b,W=C (E (u c 0 J)) S a/\X R c b j/\b.size=a* p/\S<=a:=by
 obtain⟨v,_,n|⟨d,a,b,rfl,r,l,i,o,k,_⟩⟩:=e
 .omega
 .exact⟨d,a,b,rfl,l,k,i⟩
theorem bp.owns{m:Nat}{g:Nat}(d:bp j p R W m)(c:W.ownBlock=E g):∃a b,W=C (E (u g 0 J)) m a/\X R g b j/\b.size=a* p/\m<=a/\a<=maxLen:=by
 obtain⟨s,_,e|⟨o,a,b,rfl,r,n,i,k,l,_⟩⟩:=d
 .rw[e.1] at c;simp[aV] at c
 .simp[aV] at c;subst c;exact⟨a,b,rfl,n,l,i,k⟩
theorem bp.mk{a:Nat}(e:X R o I j)(b:I.size=a* p)(c:S<=a)(d:a<=maxLen):bp j p R (C (E (u o 0 J)) S a) S:=by
 refine⟨I.toList.take (S* p),?_,.inr ⟨o,a,I,rfl,gr _,e,c,d,b,rfl⟩⟩;rw[eO,BW,b,uc (pC p c)]
structure cY (T:TypeId) (k:Nat) (lg:Option Nat) (W W':U):Prop where
 size:W.heap.size<=W'.heap.size
 e:∀b cs T',X W b cs T'->E b≠lg->X W' b cs T'
 sl:∀v m,bp T k W v m->bp T k W' v m
theorem cY.refl(c:TypeId)(d:Nat)(e:Option Nat)(b:U):cY c d e b b:=⟨cz _,λ_ _ _ a _=>a,λ_ _ a=>a⟩
theorem cY.alloc(d:TypeId)(e:Nat)(i:Option Nat)(a:U)(c:Obj):cY d e i a (a.alloc c):=
 ⟨by simp,λ_ _ _ b _=>b.alloc c,λl k b=>b.mod ((G.refl No a).alloc c) (λ_ _ j=>j)⟩
theorem cY.app{i:U}(H:R.ownsRow 0 j p W S k)(r:R.grownBy i W.ownBlock)(I:i.ownsRow 0 j p W S k):cY j p W.ownBlock R i:=by
 refine⟨r.size,λad ag ab b B=>b.grown r B,λaa m' b=>?_⟩;by_cases d:aa.ownBlock=W.ownBlock
 .cases c:W.ownBlock with
  |none=>
   obtain⟨ys,e,o|⟨v,l,n,rfl,_⟩⟩:=b
   .exact⟨ys,e,.inl o⟩
   .rw[c] at d;cases d
  |some ak=>
   obtain⟨l,n,rfl,x,aj,z,A⟩:=b.owns (d.trans c);obtain⟨ae,ah,el,a,f1,f2,f3⟩:=bp.owns ⟨k,H⟩ c;obtain⟨af,ai,s,G,am,ao,ap⟩:=bp.owns ⟨k,I⟩ c;rw[el] at s;injection s with _ _ y;subst y;unfold X at x a;rw[x] at a;injection a with a;injection a with a;subst a;exact bp.mk G (by omega) z A
 .obtain⟨ys,e,o|⟨v,l,n,rfl,M,N,O,T,Y,Z⟩⟩:=b
  .exact⟨ys,e,.inl o⟩
  .exact⟨ys,e,.inr ⟨v,l,n,rfl,M,X.grown N r d,O,T,Y,Z⟩⟩
def iD(d:Nat)(j:List V)(c:U)(i:V)(e:Nat):Prop:=∀a,i.ownBlock=E a->∀b,b<e->c.rangeAt a (b* d) j
theorem iD.zero:iD p k R W 0:=λ_ _ b a=>absurd a (fK _)
theorem iD.store{a:Nat}(n:iD p k R W S)(j:k.length=p)(x:R.there o (a* p) p):iD p k (R.setCells o (a* p) k) W S:=by
 intro c r b v;by_cases i:c=o/\b=a
 .obtain⟨rfl,rfl⟩:=i;exact World.rangeAt_setCells_same R c (b* p) k (by rw[j];exact x)
 .refine World.rangeAt_setCells_apart (n c r b v) o (a* p) k ?_;by_cases e:c=o
  .right;have s:b≠a:=λl=>i ⟨e,l⟩;rw[j];obtain d|d:=Nat.lt_or_gt_of_ne s
   .left;have:=pC p (show b+1<=a from d);rw[lE,sf] at this;exact this
   .right;have:=pC p (show a+1<=b from d);rw[lE,sf] at this;exact this
  .exact .inl e
theorem iD.more(i:iD p k R W o)(d:k.length=p)(l:W.ownBlock=E S)(c:R.there S (o* p) p):iD p k (R.setCells S (o* p) k) W (o+1):=by
 intro e a b n;by_cases j:b<o
 .exact i.store d c e a b j
 .obtain rfl:b=o:=by omega
  rw[l] at a;injection a with a;subst a;exact World.rangeAt_setCells_same R S (b* p) k (by rw[d];exact c)
theorem iD.mod{b:U}{S:Nat->Prop}(d:iD p k R W o)(l:G S R b)(j:∀a,W.ownBlock=E a->a<R.heap.size/\¬S a):iD p k b W o:=λa c s n r v hu=>by
 obtain⟨e,i⟩:=j a c;rw[oB (w:=R) (l.block a e i)];exact d a c s n r v hu
theorem X.there{w:U}(a:X w p I j)(c b:Nat)(e:c+b<=I.size):w.there p c b:=λi d=>by
 refine⟨?_,a.aC _⟩;rw[a.T,da (by omega)];rfl
structure kE (T sT zT:TypeId) (k:Nat) (z:List V) (S:Nat->Prop) (w0 W:U) (zb rb:Nat) (hs:Array V) (ms:Array Nat) (q i:Nat):Prop where
 mod:G S w0 W
 sD:X W zb z.toArray zT
 kF:X W rb hs sT
 sl:∀(j:Nat) (v:V) (m:Nat),hs[j]? =E v->ms[j]? =E m->bp T k W v m/\∀g,v.ownBlock=E g->g≠zb/\g≠rb/\(S g\/w0.heap.size<=g)
 full:∀(j:Nat) (v:V) (m:Nat),j<q->hs[j]? =E v->ms[j]? =E m->iD k z W v m
 cur:∀v,hs[q]? =E v->iD k z W v i
theorem kE.next{v x:TypeId}{S:Nat->Prop}{n:U}{s:Nat}{e:Array Nat}{c i:Nat}(a:kE j v x p k S R n o s I e c i)(z:e[c]? =E i):kE j v x p k S R n o s I e (c+1) 0:=
 ⟨a.mod,a.sD,a.kF,a.sl,λd l A B r b=>by
  by_cases y:d<c
  .exact a.full d l A y r b
  .obtain rfl:d=c:=by omega
   rw[z] at b
   injection b with b
   subst b
   exact a.cur l r,λl _=>iD.zero⟩
theorem kE.drewN{H M:TypeId}{S:Nat->Prop}{n:U}{B:Nat}{z:Array Nat}{A y:Nat}(a:kE j H M p k S R n o B I z A y)(d:Nat):kE j H M p k S R (n.drewN d) o B I z A y:=
 ⟨a.mod.drewN d,a.sD.drewN d,a.kF.drewN d,λi c l b e=>⟨(a.sl i c l b e).1.mod ((G.refl No n).drewN d) (λ_ _ O=>O),(a.sl i c l b e).2⟩,λi c l N b e r s x v=>a.full i c l N b e r s x v,λc b r s x v=>a.cur c b r s x v⟩
theorem kE.put{N O:TypeId}{S:Nat->Prop}{c:U}{M:Nat}{z:Array Nat}{l b r a Z:Nat}(e:kE j N O p k S R c o M I z l b)(B:k.length=p)(x:I[l]? =E (C (E (u a 0 J)) r Z))(ai:z[l]? =E r)(hi:b<r):c.there a (b* p) p/\kE j N O p k S R (c.setCells a (b* p) k) o M I z l (b+1):=by
 obtain⟨ak,am⟩:=e.sl l _ r x ai;obtain⟨T,W,Y⟩:=am a rfl;obtain⟨aa,ab,i,ae,ar,au,av⟩:=ak.owns (g:=a) rfl;have ag:b* p+p<=ab.size:=by
  have:=pC p (show b+1<=aa by omega);rw[lE,sf] at this;omega
 have v:c.there a (b* p) p:=ae.there _ _ ag;refine⟨v,⟨G.setCells (b:=a) Y k (b* p) c e.mod,?_,?_,λy n m' d s=>?_,λy n m' ah d s=>(e.full y n m' ah d s).store B v,λn d=>?_⟩⟩
 .exact(G.setCells (S:=λp=>p=a) (a:=c) (b:=a) (.inl rfl) k (b* p) c (G.refl _ _)).e e.sD (λi=>T i.symm)
 .exact(G.setCells (S:=λp=>p=a) (a:=c) (b:=a) (.inl rfl) k (b* p) c (G.refl _ _)).e e.kF (λi=>W i.symm)
 .obtain⟨H,aj⟩:=e.sl y n m' d s;refine⟨?_,aj⟩;by_cases A:n.ownBlock=E a
  .obtain⟨ao,ap,rfl,af,f1,f2,f3⟩:=H.owns A;have:=X.setCells k (b* p) c _ af;exact bp.mk this (by rw[yp];exact f1) f2 f3
  .exact H.mod (G.setCells (S:=λp=>p=a) (a:=c) (b:=a) (.inl rfl) k (b* p) c (G.refl _ _)) (λaw ad i=>A (by rw[ad,i]))
 .rw[x] at d;injection d with d;subst d;exact(e.cur _ x).more B rfl v
theorem kE.BZ{l n:TypeId}{S:Nat->Prop}{b:U}{i:Nat}{d:Array Nat}{e c:Nat}(a:kE j l n p k S R b o i I d e (c+1)):kE j l n p k S R b o i I d e c:=
 ⟨a.mod,a.sD,a.kF,a.sl,a.full,λy v r s x z=>a.cur y v r s x (by omega)⟩
def bQ(I:Int):Array V:=#[F K (-9),F K 0,F K I]
theorem Jt:(h.info? 68).map (λa=>(a.zero,a.size,a.bytes))=E (E (t #[F K 0,F K 0,F K 0]),3,24):=by kernel_rfl
noncomputable def pI:TypeDesc:=(h.underlying 68).getD (.slice 0)
theorem qL:h.underlying 68=E pI:=by kernel_rfl
theorem Ju:(h.info? 65).map (λa=>(a.zero,a.size,a.bytes))=E (E (C J 0 0),1,24):=by kernel_rfl
def sE(e:U)(i:V)(j:Nat)(I:Int)(o:Nat)(c:V)(d:U):Prop:=
 match o with
 |0|1|5|10=>c=i
 |2|6|7|11|12|13=>c=t (bQ I)
 |3=>∃b,c=C (E (u b 0 J)) 1 1/\X d b (bQ I) 68/\e.heap.size<=b
 |8=>∃b,c=C (E (u b 0 J)) 2 2/\X d b (bQ I++bQ I) 68/\e.heap.size<=b
 |14=>∃b,c=C (E (u b 0 J)) 3 3/\X d b (bQ I++bQ I++bQ I) 68/\e.heap.size<=b
 |4=>bp 68 3 d c (j+1)/\∀a,c.ownBlock=E a->i.ownBlock=E a\/e.heap.size<=a
 |9=>bp 68 3 d c (j+2)/\∀a,c.ownBlock=E a->i.ownBlock=E a\/e.heap.size<=a
 |15=>bp 68 3 d c (j+3)/\∀a,c.ownBlock=E a->i.ownBlock=E a\/e.heap.size<=a
 |16|17=>∃b k l n,c=C (E (u b 0 J)) 4 4/\X d b #[i,k,l,n] 66/\e.heap.size<=b/\(bp 68 3 d k (j+1)/\∀a,k.ownBlock=E a->a≠b/\(i.ownBlock=E a\/e.heap.size<=a))/\(bp 68 3 d l (j+2)/\∀a,l.ownBlock=E a->a≠b/\(i.ownBlock=E a\/e.heap.size<=a))/\(bp 68 3 d n (j+3)/\∀a,n.ownBlock=E a->a≠b/\(i.ownBlock=E a\/e.heap.size<=a))
 |_=>True
theorem sE.fW{I:Int}(z:∀l,W.ownBlock=E l->l<R.heap.size)(v:Nat)(x:V)(j k:U)(c:cY 68 3 W.ownBlock j k)(b:sE R W p I v x j):sE R W p I v x k:=by
 have s:∀a,R.heap.size<=a->E a≠W.ownBlock:=λa H y=>by have:=z a y.symm;omega
 unfold sE at b ⊢;split at b
 all_goals first
  |exact b
  |(obtain⟨a,e,i,d⟩:=b;exact⟨a,e,c.e _ _ _ i (s a d),d⟩)
  |(exact⟨c.sl _ _ b.1,b.2⟩)
  |(obtain⟨a,A,B,G,e,i,d,n,o,r⟩:=b;exact⟨a,A,B,G,e,c.e _ _ _ i (s a d),d,⟨c.sl _ _ n.1,n.2⟩,⟨c.sl _ _ o.1,o.2⟩,⟨c.sl _ _ r.1,r.2⟩⟩)
theorem Jv(I:Int):(bQ I).toList.length=3:=rfl
theorem vU(I:Int):∀a∈(bQ I).toList,a.oneCell'=true:=by
 intro a hu;simp[bQ] at hu;obtain rfl|rfl|rfl:=hu<;>rfl
theorem yB(a:X R p I 68):Reads R (C (E (u p 0 J)) S S) S I.toList:=
 .inr ⟨(u p 0 J),S,rfl,λb c hu=>by
  rw[dE,bK,a.T,<-dy]
  exact hu⟩
section
variable {P:Program} {ops:Array Oper} {Q:Exit->Act->U->Prop}
theorem B7{id n:Nat}{l:Act}{w:U}(j:Nat)(k:Bool->U->Prop)(o:U->U->Prop)(e:Nat->V->(Nat->V)->U->Prop)(G:P.follows .mixedOrders=true)(H:l.tmps.size=n)(I:pE ops n=true)(hF:∀(b:Nat) (i:V) (v:Nat->V) (w w':U),o w w'->e b i v w->e b i v w')(M:∀(b:Nat) (c:Oper) (a:Act) (w:U) (s:Bool),b≠j->ops[b]? =E c->gP ops l a->k s w->(∀d∈c.after,gQ .any d=true->e d.on (eN ops d.on a) (im ops d.on a) w)->gu P c a w (λa' w'=>∃i,a'=a.put c.dst i/\k s w'/\o w w'/\e b (if c.dst.isSome then i else undef) (im ops b a) w') Q)
  (z:∀(c:Oper) (a:Act) (w:U),ops[j]? =E c->gP ops l a->k false w->(∀d∈c.after,gQ .any d=true->e d.on (eN ops d.on a) (im ops d.on a) w)->gu P c a w (λa' w'=>∃i,a'=a.put c.dst i/\k true w'/\o w w'/\e j (if c.dst.isSome then i else undef) (im ops j a) w') Q)(A:∀(a:Act) (w:U),gP ops l a->k true w->(∀b,b<ops.size->e b (eN ops b a) (im ops b a) w)->Q .normal a w)(x:k false w.drew)(B:∃c,ops[j]? =E c):(Code.region id ops true).wp P Q l w:=by
 refine wp_region_any G (BO j k o e H I hF M z A _ _ _ _ (by simp) (cC oF (by simp)) ⟨rfl,rfl,λ_ _=>rfl⟩ (by
  obtain⟨c,r⟩:=B
  have y:j<ops.size:=(Array.getElem?_eq_some_iff.1 r).1
  simpa [y] using x) (λb hi p=>?_) (λb c r p=>?_))
 .simp[hi] at p
 .have hi:b<ops.size:=(Array.getElem?_eq_some_iff.1 r).1;simp[hi] at p
end
end Go.Proofs.YthhibagcpjeihaaGreat
